import PyProof.Rows.All
import Wide.All
import OpenK.AllK
import Wide.FinOn
import Lean
import PyProof.EqAt
import PyProof.EqKinds
import PyProof.TupleCall
import PyProof.TupleKey
import PyProof.DictRoadsH
import Wide.Seal
import PyProof.NeKinds
import PyProof.ZipIter
import PyProof.EnumMake
import PyProof.Rows.TupTab
import KE.KDictLaws
import PyProof.AutoListH
import PyProof.AttrMissHeap
import KE.KDictOf
import KE.KIntText
import PyProof.StrBlockL
import PyProof.StrLawsChain
import PyProof.FString
import PyProof.Rows.FStr
import PySem.Challenge.RW_cubebook_k81_picks_rows_and_cells
set_option Elab.async false
set_option linter.all false
set_option maxRecDepth 100000
namespace L2
open PySem PySem.Spec PyProof.Rows
abbrev Key := Sum Int Str
def keyIs : Key → Value → Bool
  | .inl k, v => Value.isInt k v
  | .inr x, v => Value.isStrOf x v
def keyH (w : World) : Key → Int
  | .inl k => hashInt k
  | .inr x => hashStr w x
theorem keyIs_shape : ∀ {k : Key} {v : Value}, keyIs k v = true → (∃ i t, k = Sum.inl i ∧ v = Value.int i t) ∨ (∃ x t, k = Sum.inr x ∧ v = Value.str x t)
  | .inl i, v, h => by
    obtain ⟨t, e⟩ := Value.isInt_shape (k := i) (v := v) h
    exact .inl ⟨i, t, rfl, e⟩
  | .inr x, v, h => by
    obtain ⟨t, e⟩ := Value.isStrOf_shape (x := x) (v := v) h
    exact .inr ⟨x, t, rfl, e⟩
theorem key_ll (a b : Int) : decide ((Sum.inl a : Key) = Sum.inl b) = (a == b) := by
  by_cases e : a = b
  · subst e; simp
  · have h : ¬ (Sum.inl a : Key) = Sum.inl b := fun q => e (Sum.inl.inj q)
    rw [decide_eq_false h]
    exact (beq_eq_false_iff_ne.mpr e).symm
theorem key_rr (a b : Str) : decide ((Sum.inr a : Key) = Sum.inr b) = decide (a = b) := by
  by_cases e : a = b
  · subst e; simp
  · have h : ¬ (Sum.inr a : Key) = Sum.inr b := fun q => e (Sum.inr.inj q)
    rw [decide_eq_false h, decide_eq_false e]
theorem key_lr (a : Int) (b : Str) : decide ((Sum.inl a : Key) = Sum.inr b) = false := decide_eq_false (fun q => nomatch q)
theorem key_rl (a : Str) (b : Int) : decide ((Sum.inr a : Key) = Sum.inl b) = false := decide_eq_false (fun q => nomatch q)
def mixKind (prog : Program) (w : World) : PySem.KeyKind prog w Key where
  is := keyIs
  hash := keyH w
  inj := fun v a b ha hb => by
    rcases keyIs_shape ha with ⟨i, t, rfl, rfl⟩ | ⟨x, t, rfl, rfl⟩
    · rcases keyIs_shape hb with ⟨j, u, rfl, e⟩ | ⟨y, u, rfl, e⟩
      · injection e with e1 _; rw [e1]
      · exact nomatch e
    · rcases keyIs_shape hb with ⟨j, u, rfl, e⟩ | ⟨y, u, rfl, e⟩
      · exact nomatch e
      · injection e with e1 _; rw [e1]
  byValue := fun k v h => by
    rcases keyIs_shape h with ⟨i, t, rfl, rfl⟩ | ⟨x, t, rfl, rfl⟩ <;> rfl
  pyHash := fun hv h => by
    rcases keyIs_shape hv with ⟨i, t, rfl, rfl⟩ | ⟨x, t, rfl, rfl⟩
    · exact wpAny_pyHash_int h
    · exact wpAny_pyHash_str h
  eqBool := fun hu hv h => by
    rcases keyIs_shape hu with ⟨i, t, rfl, rfl⟩ | ⟨x, t, rfl, rfl⟩
    · rcases keyIs_shape hv with ⟨j, u, rfl, rfl⟩ | ⟨y, u, rfl, rfl⟩
      · rw [key_ll] at h; exact wpAny_eqBool_int h
      · rw [key_lr] at h; exact SeqAt.EqAt.int_str i t y u _ _ _ _ h
    · rcases keyIs_shape hv with ⟨j, u, rfl, rfl⟩ | ⟨y, u, rfl, rfl⟩
      · rw [key_rl] at h; exact SeqAt.EqAt.str_int x t j u _ _ _ _ h
      · rw [key_rr] at h; exact wpAny_eqBool_str h
  «strs» := fun k x t v h => by
    rcases keyIs_shape h with ⟨i, u, rfl, e⟩ | ⟨y, u, rfl, e⟩
    · exact nomatch e
    · injection e with e1 _
      subst e1
      cases v <;> rfl
end L2
namespace L2
open PySem PySem.Spec PyProof.Rows
inductive V where
  | non | bl (b : Bool) | int (i : Int) | str (x : Str) | byt (b : Array UInt8) | flt (b : UInt64) | ref (a : Addr) | ty (n : String)
  deriving DecidableEq
def RelV : V → Value → Prop
  | .non, u => u = Value.none
  | .bl b, u => u = Value.bool b
  | .int i, u => ∃ t, u = Value.int i t
  | .str x, u => ∃ t, u = Value.str x t
  | .byt b, u => ∃ t, u = Value.bytes b t
  | .flt b, u => ∃ t, u = Value.float b t
  | .ref a, u => u = Value.ref a
  | .ty n, u => u = Value.type n
abbrev Vals : List V → List Value → Prop := Paired RelV
theorem Vals.length {xs : List V} {us : List Value} (r : Vals xs us) : xs.length = us.length := Paired.length r
theorem Vals.get : ∀ {xs : List V} {us : List Value} {i : Nat} {x : V}, Vals xs us → xs[i]? = some x → ∃ u, us[i]? = some u ∧ RelV x u
  | _, _, _, _, .nil, e => by simp at e
  | _, _, 0, _, .cons r _, e => by simp at e; subst e; exact ⟨_, rfl, r⟩
  | _, _, i + 1, x, .cons _ t, e => by
    obtain ⟨u, h1, h2⟩ := Vals.get (i := i) (x := x) t (by simpa using e)
    exact ⟨u, by simpa using h1, h2⟩
theorem Vals.set {x : V} {u : Value} (r : RelV x u) : ∀ {xs : List V} {us : List Value} (i : Nat), Vals xs us → Vals (xs.set i x) (us.set i u)
  | _, _, _, .nil => .nil
  | _, _, 0, .cons _ t => .cons r t
  | _, _, i + 1, .cons q t => .cons q (Vals.set r i t)
theorem Vals.append : ∀ {xs ys : List V} {us ws : List Value}, Vals xs us → Vals ys ws → Vals (xs ++ ys) (us ++ ws)
  | _, _, _, _, .nil, s => s
  | _, _, _, _, .cons r t, s => .cons r (Vals.append t s)
theorem Vals.take : ∀ {xs : List V} {us : List Value} (n : Nat), Vals xs us → Vals (xs.take n) (us.take n)
  | _, _, 0, _ => .nil
  | _, _, _ + 1, .nil => .nil
  | _, _, n + 1, .cons r t => .cons r (Vals.take n t)
theorem Vals.drop : ∀ {xs : List V} {us : List Value} (n : Nat), Vals xs us → Vals (xs.drop n) (us.drop n)
  | _, _, 0, r => r
  | _, _, _ + 1, .nil => .nil
  | _, _, n + 1, .cons _ t => Vals.drop n t
def RelO : Option V → Option Value → Prop
  | some v, some u => RelV v u
  | none, none => True
  | _, _ => False
def KV {κ : Type} : List (κ × V) → List (κ × Value) → Prop := Paired fun (p : κ × V) (q : κ × Value) => p.1 = q.1 ∧ RelV p.2 q.2
def kV : Key → V
  | .inl i => .int i
  | .inr x => .str x
inductive At where
  | non | int (i : Int) | str (x : Str)
  deriving DecidableEq
def atH (w : World) : At → Int
  | .non => reduceHash 4238894112
  | .int k => hashInt k
  | .str x => hashStr w x
inductive KT where
  | at (a : At) | tup (l : List At)
  deriving DecidableEq
def KT.hash (w : World) : KT → Int
  | .at a => atH w a
  | .tup l => reduceHash (Builtin.Tuple.tupleHashOf (l.map (atH w)))
def atV : At → V
  | .non => .non
  | .int i => .int i
  | .str x => .str x
def ktV : KT → V → Prop
  | .at a, v => v = atV a
  | .tup _, v => ∃ p, v = .ref p
def EntOk (w : World) : List KT → List V → List DictEntry → Prop
  | [], vs, es => vs = [] ∧ es = []
  | k :: ks, vs, es => ∃ kv v r e t, vs = kv :: v :: r ∧ es = e :: t ∧ RelV kv e.key ∧ RelV v e.val ∧ e.hash = k.hash w ∧ ktV k kv ∧ EntOk w ks r t
inductive HO where
  | lst (xs : List V)
  | tup (xs : List V)
  | dK (kvs : List (Key × V)) | dT (kvs : List (List Key × V))
  | dct (ks : List KT) (vs : List V)
  | set (S : Int → Bool) (n : Nat)
  | ins (C dx : Addr) (fs : List (Str × V))
  | own (x : Addr)
  | xd (fs : List (Str × V))
  | met (f x : Addr)
  | rng (lo hi : Int)
  | frz (o : Obj) (u : HO)
  | tbl (ps : Array Value)
  | ext (φ : Heap → Prop)
abbrev Hp := Addr → Option HO
def upd (H : Hp) (a : Addr) (o : HO) : Hp := fun b => if b = a then some o else H b
theorem upd_same {H : Hp} {a : Addr} {o : HO} : upd H a o a = some o := by unfold upd; rw [if_pos rfl]
theorem upd_ne {H : Hp} {a b : Addr} {o : HO} (h : b ≠ a) : upd H a o b = H b := by unfold upd; rw [if_neg h]
theorem ne_of_none {H : Hp} {a b : Addr} {o : HO} (h : H a = some o) (h' : H b = none) : a ≠ b := by
  intro e; subst e; rw [h] at h'; cases h'
section
variable (P : Program) (w : World)
def ObjOk (H : Hp) (h : Heap) (a : Addr) : HO → Prop
  | .lst xs => xs.length ≤ sizeLine ∧ ∃ (its : List Value) (n : Nat), Vals xs its ∧ h.get? a = some { cls := .type "list", data := .seq its.toArray n }
  | .tup xs => xs.length ≤ sizeLine ∧ ∃ its : List Value, Vals xs its ∧ IsTup h a its.toArray
  | .dK kvs => kvs.length ≤ sizeLine ∧ (a == sysModules) = false ∧ ∃ vs, KV kvs vs ∧ h.DictOf (mixKind P w) a vs
  | .dT kvs => kvs.length ≤ sizeLine ∧ (a == sysModules) = false ∧ ∃ xs : List (List Key × Addr × Value),
      Paired (fun (p : List Key × V) (q : List Key × Addr × Value) => p.1 = q.1 ∧ H q.2.1 = some (.tup (p.1.map kV)) ∧ RelV p.2 q.2.2) kvs xs ∧
      ∃ o es ep, h.get? a = some o ∧ o.ExactDict ∧ o.data = .dict es ep ∧ es.toList = xs.map (entryOfKey (tupleKind (mixKind P w))) ∧ (xs.map (·.1)).Nodup
  | .dct ks vs => ks.length ≤ sizeLine ∧ (a == sysModules) = false ∧ ks.Nodup ∧ ∃ o es ep, h.get? a = some o ∧ o.ExactDict ∧ o.data = .dict es ep ∧ EntOk w ks vs es.toList
  | .set S n => h.SetOf (intKind P w) a S n
  | .ins C dx fs => H dx = some (.own a) ∧ fs.length ≤ 1000 ∧ dx ≠ a ∧ h.get? a = some (PySem.W.instObj C dx) ∧
      ∃ mA, h.Ns1 dx mA ∧ (∀ f, RelO (fs.lookup f) (mA f)) ∧ PySem.Within mA (fs.map (·.1))
  | .own _ => ∃ o, h.get? a = some o
  | .xd fs => ∃ mA, h.Ns1 a mA ∧ ∀ f, RelO (fs.lookup f) (mA f)
  | .rng lo hi => ∃ t u v, h.get? a = some { cls := .type "range", data := .fields #[.int lo t, .int hi u, .int 1 v] }
  | .frz o u => h.get? a = some o ∧ ObjOk H h a u
  | .tbl ps => h.get? a = some { cls := .none, data := .fields ps }
  | .met f x => h.get? a = some (PySem.W.methodObj (.ref f) (.ref x))
  | .ext φ => φ h ∧ (∃ o, h.get? a = some o) ∧ ∀ h1 h2 : Heap, φ h1 → (∀ o, h1.get? a = some o → h2.get? a = some o) → φ h2
def HOk (H : Hp) (h : Heap) : Prop := ∀ a o, H a = some o → ObjOk P w H h a o
end
section
variable {P : Program} {w : World} {H H' : Hp} {h h' : Heap} {a : Addr} {o : HO}
theorem ObjOk.lt (x : ObjOk P w H h a o) : a < h.objs.size := by
  cases o with
  | lst xs => obtain ⟨_, _, _, _, e⟩ := x; exact Heap.lt_size e
  | tup xs => obtain ⟨_, _, _, p⟩ := x; exact p.lt
  | dK kvs => obtain ⟨_, _, _, _, o, _, _, e, _⟩ := x; exact Heap.lt_size e
  | dT kvs => obtain ⟨_, _, _, _, o, _, _, e, _⟩ := x; exact Heap.lt_size e
  | dct ks vs => obtain ⟨_, _, _, o, _, _, e, _⟩ := x; exact Heap.lt_size e
  | set S n => obtain ⟨o, _, _, _, e, _⟩ := x; exact Heap.lt_size e
  | ins C dx fs => obtain ⟨_, _, _, e, _⟩ := x; exact Heap.lt_size e
  | own y => obtain ⟨_, e⟩ := x; exact Heap.lt_size e
  | xd fs => obtain ⟨_, ⟨_, _, _, e, _⟩, _⟩ := x; exact Heap.lt_size e
  | rng lo hi => obtain ⟨_, _, _, e⟩ := x; exact Heap.lt_size e
  | frz ob u => obtain ⟨e, _⟩ := x; exact Heap.lt_size e
  | tbl ps => exact Heap.lt_size (show h.get? a = some _ from x)
  | met f y => exact Heap.lt_size (show h.get? a = some _ from x)
  | ext φ => obtain ⟨_, ⟨_, e⟩, _⟩ := x; exact Heap.lt_size e
theorem Paired.mapP {α β : Type} {F G : α → β → Prop} : ∀ {l₁ : List α} {l₂ : List β}, Paired F l₁ l₂ → (∀ a b, F a b → G a b) → Paired G l₁ l₂
  | _, _, .nil, _ => .nil
  | _, _, .cons r t, f => .cons (f _ _ r) (Paired.mapP t f)
theorem ObjOk.stay (x : ObjOk P w H h a o) (k : ∀ b u, (b = a ∨ H b = some (.own a)) → h.get? b = some u → h'.get? b = some u)
    (ho : ∀ b, H b = some (.own a) → H' b = some (.own a)) (ht : ∀ b xs, H b = some (.tup xs) → H' b = some (.tup xs)) : ObjOk P w H' h' a o := by
  induction o with
  | lst xs => obtain ⟨z, its, n, r, e⟩ := x; exact ⟨z, its, n, r, k _ _ (.inl rfl) e⟩
  | tup xs => obtain ⟨z, its, r, ob, e, c⟩ := x; exact ⟨z, its, r, ob, k _ _ (.inl rfl) e, c⟩
  | dK kvs => obtain ⟨z, y, vs, r, ob, es, ep, e, c⟩ := x; exact ⟨z, y, vs, r, ob, es, ep, k _ _ (.inl rfl) e, c⟩
  | dT kvs =>
    obtain ⟨z, y, xs, r, ob, es, ep, e, c⟩ := x
    exact ⟨z, y, xs, Paired.mapP r fun p q z => ⟨z.1, ht _ _ z.2.1, z.2.2⟩, ob, es, ep, k _ _ (.inl rfl) e, c⟩
  | dct ks vs => obtain ⟨z, y, n, ob, es, ep, e, c⟩ := x; exact ⟨z, y, n, ob, es, ep, k _ _ (.inl rfl) e, c⟩
  | set S n => obtain ⟨ob, es, ep, t, e, c⟩ := x; exact ⟨ob, es, ep, t, k _ _ (.inl rfl) e, c⟩
  | ins C dx fs =>
    obtain ⟨d, z, ne, e, mA, ⟨od, es, ep, e2, c⟩, r⟩ := x
    exact ⟨ho _ d, z, ne, k _ _ (.inl rfl) e, mA, ⟨od, es, ep, k _ _ (.inr d) e2, c⟩, r⟩
  | own y => obtain ⟨ob, e⟩ := x; exact ⟨ob, k _ _ (.inl rfl) e⟩
  | xd fs => obtain ⟨mA, ⟨od, es, ep, e, c⟩, r⟩ := x; exact ⟨mA, ⟨od, es, ep, k _ _ (.inl rfl) e, c⟩, r⟩
  | rng lo hi => obtain ⟨t, u, v, e⟩ := x; exact ⟨t, u, v, k _ _ (.inl rfl) e⟩
  | frz ob u ih => obtain ⟨e, q⟩ := x; exact ⟨k _ _ (.inl rfl) e, ih q⟩
  | tbl ps =>
    have e : h.get? a = some { cls := .none, data := .fields ps } := x
    show h'.get? a = some { cls := .none, data := .fields ps }
    exact k a _ (.inl rfl) e
  | met f y =>
    have e : h.get? a = some (PySem.W.methodObj (.ref f) (.ref y)) := x
    show h'.get? a = some (PySem.W.methodObj (.ref f) (.ref y))
    exact k a _ (.inl rfl) e
  | ext φ => obtain ⟨p, ⟨o, e⟩, st⟩ := x; exact ⟨st _ _ p fun o q => k _ _ (.inl rfl) q, ⟨o, k _ _ (.inl rfl) e⟩, st⟩
theorem HOk.lt (x : HOk P w H h) (e : H a = some o) : a < h.objs.size := (x a o e).lt
theorem HOk.fresh (x : HOk P w H h) (e : h.objs.size ≤ a) : H a = none := by
  cases q : H a with
  | none => rfl
  | some u => exact absurd (Nat.lt_of_lt_of_le (x.lt q) e) (Nat.lt_irrefl _)
theorem HOk.kept (x : HOk P w H h) (k : ∀ b u, h.get? b = some u → h'.get? b = some u) : HOk P w H h' := fun a o e =>
  (x a o e).stay (fun b u _ q => k b u q) (fun _ q => q) fun _ _ q => q
theorem HOk.laid (x : HOk P w H h) (k : ∀ b u, h.get? b = some u → h'.get? b = some u) (hp : h.objs.size ≤ a) (new : ObjOk P w (upd H a o) h' a o) : HOk P w (upd H a o) h' := fun b u e => by
  have hn := x.fresh hp
  by_cases hb : b = a
  · subst hb; rw [upd_same] at e; cases e; exact new
  · rw [upd_ne hb] at e
    exact (x b u e).stay (fun c v _ q => k c v q) (fun c q => by rw [upd_ne (ne_of_none q hn)]; exact q) fun c xs q => by rw [upd_ne (ne_of_none q hn)]; exact q
end
def Rd (H : Hp) (a : Addr) (u : HO) : Prop := H a = some u ∨ ∃ o, H a = some (.frz o u)
theorem Rd.of {H : Hp} {a : Addr} {u : HO} (h : H a = some u) : Rd H a u := .inl h
theorem Rd.ok {P : Program} {w : World} {H : Hp} {h : Heap} {a : Addr} {u : HO} (r : Rd H a u) (x : HOk P w H h) : ObjOk P w H h a u := by
  rcases r with r | ⟨o, r⟩
  · exact x a u r
  · obtain ⟨_, q⟩ := x a _ r
    exact q
def Mut : Option HO → Prop
  | some (.lst _) => True
  | some (.dK _) => True
  | some (.dT _) => True
  | some (.dct _ _) => True
  | some (.set _ _) => True
  | some (.ins _ _ _) => True
  | some (.ext _) => True
  | _ => False
section
variable {P : Program} {w : World} {H : Hp} {h h' : Heap} {x e : Addr} {o' : HO}
theorem HOk.write (ok : HOk P w H h) (mu : Mut (H x)) (he : e = x ∨ H e = some (.own x)) (k : ∀ b u, b ≠ e → h.get? b = some u → h'.get? b = some u) (heo : ∃ u, h'.get? e = some u)
    (new : ObjOk P w (upd H x o') h' x o') : HOk P w (upd H x o') h' := fun b u q => by
  have nown : ∀ c y, H c = some (.own y) → c ≠ x := fun c y r z => by subst z; rw [r] at mu; exact mu
  have ntup : ∀ c xs, H c = some (.tup xs) → c ≠ x := fun c xs r z => by subst z; rw [r] at mu; exact mu
  by_cases hb : b = x
  · subst hb; rw [upd_same] at q; cases q; exact new
  · rw [upd_ne hb] at q
    by_cases hbe : b = e
    · have q' : H b = some (.own x) := by
        rcases he with z | z
        · exact absurd (hbe.trans z) hb
        · rw [hbe]; exact z
      rw [q] at q'; cases q'
      obtain ⟨v, hv⟩ := heo
      exact ⟨v, by rw [hbe]; exact hv⟩
    · refine (ok b u q).stay (fun c v hc r => k c v ?_ r) (fun c r => by rw [upd_ne (nown c b r)]; exact r) fun c xs r => by rw [upd_ne (ntup c xs r)]; exact r
      rcases hc with rfl | hc
      · exact hbe
      · rintro rfl
        rcases he with z | z
        · exact nown c b hc z
        · rw [hc] at z; cases z; exact hb rfl
end
structure Un (fs ex : List Addr) (H H' : Hp) (h h' : Heap) : Prop where
  keep : ∀ b o, h.get? b = some o → H b = none → b ∉ fs → b ∉ ex → h'.get? b = some o
  slot : ∀ b o, h.get? b = some o → H b = none → b ∈ fs → b ∉ ex → ∃ sl, h'.get? b = some { o with slots := sl }
  free : ∀ b o, h.get? b = some o → H b = none → b ∉ ex → H' b = none
  there : ∀ b o, h.get? b = some o → b ∉ ex → ∃ o', h'.get? b = some o'
  tups : ∀ b xs, H b = some (.tup xs) → H' b = some (.tup xs)
  frzs : ∀ b o u, H b = some (.frz o u) → H' b = some (.frz o u)
  tbls : ∀ b ps, H b = some (.tbl ps) → ∃ more, H' b = some (.tbl (ps ++ more))
section
variable {fs fs' ex ex' : List Addr} {H H1 H2 : Hp} {h h1 h2 h' : Heap} {a x e : Addr} {o : HO}
theorem Un.any (u : Un fs ex H H1 h h1) {b : Addr} {ob : Obj} (q : h.get? b = some ob) (n : H b = none) (hx : b ∉ ex) : ∃ sl, h1.get? b = some { ob with slots := sl } := by
  by_cases hb : b ∈ fs
  · exact u.slot b ob q n hb hx
  · exact ⟨ob.slots, u.keep b ob q n hb hx⟩
theorem Un.trans (a : Un fs ex H H1 h h1) (b : Un fs ex H1 H2 h1 h2) : Un fs ex H H2 h h2 where
  keep := fun c ob q n hc hx => b.keep c ob (a.keep c ob q n hc hx) (a.free c ob q n hx) hc hx
  slot := fun c ob q n hc hx => by
    obtain ⟨sl, e1⟩ := a.slot c ob q n hc hx
    obtain ⟨sl', e2⟩ := b.slot c _ e1 (a.free c ob q n hx) hc hx
    exact ⟨sl', e2⟩
  free := fun c ob q n hx => by
    obtain ⟨o', e1⟩ := a.there c ob q hx
    exact b.free c o' e1 (a.free c ob q n hx) hx
  there := fun c ob q hx => by
    obtain ⟨o', e1⟩ := a.there c ob q hx
    exact b.there c o' e1 hx
  tups := fun c xs q => b.tups c xs (a.tups c xs q)
  frzs := fun c ob xs q => b.frzs c ob xs (a.frzs c ob xs q)
  tbls := fun c ps q => by
    obtain ⟨m1, e1⟩ := a.tbls c ps q
    obtain ⟨m2, e2⟩ := b.tbls c _ e1
    exact ⟨m1 ++ m2, by rw [e2, Array.append_assoc]⟩
theorem Un.kept (k : ∀ b u, h.get? b = some u → h'.get? b = some u) : Un fs ex H H h h' :=
  ⟨fun b ob q _ _ _ => k b ob q, fun b ob q _ _ _ => ⟨ob.slots, k b ob q⟩, fun _ _ _ n _ => n, fun b ob q _ => ⟨ob, k b ob q⟩, fun _ _ q => q, fun _ _ _ q => q, fun _ ps q => ⟨#[], by rw [q]; simp⟩⟩
theorem Un.refl : Un fs ex H H h h := Un.kept fun _ _ q => q
theorem Un.laid (k : ∀ b u, h.get? b = some u → h'.get? b = some u) (hp : h.objs.size ≤ a) (hn : H a = none) : Un fs ex H (upd H a o) h h' where
  keep := fun b u q _ _ _ => k b u q
  slot := fun b u q _ _ _ => ⟨u.slots, k b u q⟩
  free := fun b u q n _ => by rw [upd_ne (Nat.ne_of_lt (Nat.lt_of_lt_of_le (Heap.lt_size q) hp))]; exact n
  there := fun b u q _ => ⟨u, k b u q⟩
  tups := fun b xs q => by rw [upd_ne (ne_of_none q hn)]; exact q
  frzs := fun b u xs q => by rw [upd_ne (ne_of_none q hn)]; exact q
  tbls := fun b ps q => ⟨#[], by rw [upd_ne (ne_of_none q hn), q]; simp⟩
theorem Un.write (mu : Mut (H x)) (he : e = x ∨ H e = some (.own x)) (k : ∀ b u, b ≠ e → h.get? b = some u → h'.get? b = some u) (heo : ∃ u, h'.get? e = some u) : Un fs ex H (upd H x o) h h' := by
  have hx : ∀ b, H b = none → b ≠ x := fun b n z => by subst z; rw [n] at mu; exact mu
  have hb : ∀ b, H b = none → b ≠ e := fun b n z => by
    subst z
    rcases he with r | r
    · exact hx b n r
    · rw [n] at r; cases r
  have hm : ∀ b u, H b = some u → ¬ Mut (some u) → b ≠ x := fun b u q nm z => by subst z; rw [q] at mu; exact nm mu
  refine ⟨fun b u q n _ _ => k b u (hb b n) q, fun b u q n _ _ => ⟨u.slots, k b u (hb b n) q⟩, fun b u q n _ => by rw [upd_ne (hx b n)]; exact n, fun b u q _ => ?_,
    fun b xs q => by rw [upd_ne (hm b _ q fun z => z)]; exact q, fun b u xs q => by rw [upd_ne (hm b _ q fun z => z)]; exact q, fun b ps q => ⟨#[], by rw [upd_ne (hm b _ q fun z => z), q]; simp⟩⟩
  by_cases hbe : b = e
  · subst hbe; exact heo
  · exact ⟨u, k b u hbe q⟩
theorem Un.mono (u : Un fs ex H H1 h h1) (hs : ∀ b ∈ fs, b ∈ fs') (hx : ∀ b ∈ ex, b ∈ ex') : Un fs' ex' H H1 h h1 :=
  ⟨fun b ob q n hb he => u.keep b ob q n (fun z => hb (hs b z)) fun z => he (hx b z), fun _ _ q n _ he => u.any q n fun z => he (hx _ z), fun b ob q n he => u.free b ob q n fun z => he (hx b z), fun b ob q he => u.there b ob q fun z => he (hx b z), u.tups, u.frzs, u.tbls⟩
end
def trk (h : Heap) (H : Hp) : List Addr := (List.range h.objs.size).filter fun a => (H a).isSome
def hidT (h : Heap) (H : Hp) : Heap := PySem.W.hideAll h (trk h H)
theorem hidT_size (h : Heap) (H : Hp) : (hidT h H).objs.size = h.objs.size := PySem.W.hideAll_size _ _
theorem hidT_get {h : Heap} {H : Hp} {b : Addr} {o : Obj} (e : h.get? b = some o) (n : H b = none) : (hidT h H).get? b = some o :=
  PySem.W.hideAll_get _ e fun hm => by
    have q : (H b).isSome = true := (List.mem_filter.mp hm).2
    rw [n] at q; simp at q
theorem of_hidT {h : Heap} {H : Hp} {b : Addr} {o : Obj} (e : (hidT h H).get? b = some o) : h.get? b = some o ∧ H b = none := by
  have e' : h.get? b = some o := PySem.W.of_hideAll (trk h H) e
  refine ⟨e', ?_⟩
  cases q : H b with
  | none => rfl
  | some x =>
    have hm : b ∈ trk h H := List.mem_filter.mpr ⟨List.mem_range.mpr (Heap.lt_size e'), by simp [q]⟩
    have z : (hidT h H).get? b = none := PySem.W.hideAll_none (trk h H) hm
    rw [z] at e; cases e
def allNews (g h : Heap) (L : Addr) : List (Addr × Obj) := (List.range h.objs.size).filterMap fun a => if a = L ∨ (g.get? a).isSome = true then none else (h.get? a).map fun o => (a, o)
def rest (g h : Heap) (L d : Addr) : List (Addr × Obj) := (allNews g h L).filter fun p => decide (p.1 ≠ d)
end L2
namespace L2
open PySem PySem.Spec PyProof.Rows
structure Mod (K : PySem.W.Frag) (mg : Str → Option Value) (base : Heap) : Prop where
  kin : K.In base
  glob : base.Ns mainGlobals mg
  blt : ∃ mb, base.Ns builtinsNs mb ∧ ∀ x : Str, x ≠ "__name__" → mb x = bootBuiltins x
  nolimit : base.NoLimit
structure Cx where
  prog : Program
  w : World
  K : PySem.W.Frag
  mg : Str → Option Value
  base : Heap
  A : Around
  N : List Str
  s₀ : Shared
  H₀ : Hp
  env : Env
  outer : List Env
  stack : List Env
  ex : List Addr
  fn : Str → Bool
  calm : Bool
  pn : List (Addr × Obj)
  xe : Value → Shared → Prop
def frs (l : List Env) : List Addr := l.filterMap (·.frame)
abbrev Cx.fs (X : Cx) : List Addr := frs X.outer
def Vis (sc : Scope) (x : Str) : Prop := sc.names.lookup x = some .local ∨ sc.names.lookup x = some .cell ∨ sc.names.lookup x = some .free
def Loc (sc : Scope) (x : Str) : Prop := sc.names.lookup x = some .local ∨ sc.names.lookup x = some .cell
def Look (env : Env) (h : Heap) (m : Str → Option Value) (x : Str) (u : Value) : Prop :=
  (env.kindOf x = some .local ∧ m x = some u) ∨ ((env.kindOf x = some .cell ∨ env.kindOf x = some .free) ∧ ∃ c, env.cells.lookup x = some c ∧ h.IsCell c (some u))
structure Cx.Ok (X : Cx) : Prop where
  mod : Mod X.K X.mg X.base
  kind : X.env.scope.kind = .function
  glob : X.env.globals = mainGlobals
  blt : X.env.builtins = builtinsNs
  above : X.s₀.heap.objs.size ≤ X.env.locals
  inj : ∀ x y c, X.env.cells.lookup x = some c → X.env.cells.lookup y = some c → x = y
  has : ∀ x, (X.env.kindOf x = some .cell ∨ X.env.kindOf x = some .free) → ∃ c, X.env.cells.lookup x = some c
  cab : ∀ x c, X.fn x = true → X.env.cells.lookup x = some c → X.s₀.heap.objs.size ≤ c
  hd : X.calm = true → X.A.handled = none
  frames : X.A.frames = some X.stack
  stk : X.stack = X.outer ∨ (X.stack = X.env :: X.outer ∧ X.env.frame = some X.env.locals)
  exf : ∀ b ∈ X.ex, b ≠ X.env.locals ∧ ∀ x c, X.env.cells.lookup x = some c → c ≠ b
  bs : ∀ b o, X.base.get? b = some o → X.s₀.heap.get? b = some o ∧ X.H₀ b = none
  bsz : X.base.objs.size ≤ X.s₀.heap.objs.size
  noex : ∀ b o, X.base.get? b = some o → b ∉ X.ex
  exfs : ∀ b ∈ X.ex, b ∉ X.fs
  funs : X.s₀.heap.FunFrames X.base X.outer
  frf : ∀ b ∈ X.fs, X.H₀ b = none
structure Inv (X : Cx) (pins : List (Addr × Obj)) (σ : List (Option V)) (H : Hp) (s : Shared) : Prop where
  ok : X.Ok
  os : s.os = X.s₀.os
  bare : AllBare s.gens
  base : Un X.fs X.ex X.H₀ H X.s₀.heap s.heap
  loc : ∃ m, s.heap.Ns X.env.locals m ∧ ∀ (i : Nat) (x : Str) (v : V), X.N[i]? = some x → σ[i]? = some (some v) → Vis X.env.scope x → ∃ u, RelV v u ∧ Look X.env s.heap m x u
  cell : ∀ x c, X.env.cells.lookup x = some c → ∃ v, s.heap.IsCell c v
  free : H X.env.locals = none
  freeC : ∀ x c, X.env.cells.lookup x = some c → H c = none
  pin : ∀ p ∈ X.pn ++ pins, s.heap.get? p.1 = some p.2 ∧ H p.1 = none ∧ p.1 ≠ X.env.locals ∧ p.1 ∉ X.fs ∧ ∀ v, p.2.data ≠ .cell v
  hok : HOk X.prog X.w H s.heap
  len : σ.length = X.N.length
section
variable {X : Cx} {pins : List (Addr × Obj)} {σ : List (Option V)} {H H' : Hp} {s : Shared} {h' : Heap}
theorem Cx.Ok.nofr (ok : X.Ok) {b : Addr} {o : Obj} (e : X.base.get? b = some o) : b ∉ X.fs := fun hb => by
  have := (ok.funs.mem hb).1
  rw [e] at this; cases this
theorem Inv.bs (I : Inv X pins σ H s) : ∀ b o, X.base.get? b = some o → s.heap.get? b = some o ∧ H b = none := fun b o e =>
  ⟨I.base.keep b o (I.ok.bs b o e).1 (I.ok.bs b o e).2 (I.ok.nofr e) (I.ok.noex b o e), I.base.free b o (I.ok.bs b o e).1 (I.ok.bs b o e).2 (I.ok.noex b o e)⟩
theorem Inv.bk (I : Inv X pins σ H s) : ∀ b o, X.base.get? b = some o → s.heap.get? b = some o := fun b o e => (I.bs b o e).1
theorem Inv.mod (I : Inv X pins σ H s) : Mod X.K X.mg X.base := I.ok.mod
theorem Inv.kIn (I : Inv X pins σ H s) : X.K.In s.heap := I.ok.mod.kin.keeps I.bk
theorem Inv.nolimit (I : Inv X pins σ H s) : s.heap.NoLimit := I.ok.mod.nolimit.keeps I.bk
theorem Inv.lt (I : Inv X pins σ H s) : X.env.locals < s.heap.objs.size := let ⟨_, hn, _⟩ := I.loc; hn.lt
theorem Inv.sz (I : Inv X pins σ H s) : X.s₀.heap.objs.size ≤ s.heap.objs.size := Nat.le_trans I.ok.above (Nat.le_of_lt I.lt)
theorem Inv.nofs (I : Inv X pins σ H s) {a : Addr} (h : s.heap.objs.size ≤ a) : a ∉ X.fs := fun hb => by
  obtain ⟨_, o, ho, _⟩ := I.ok.funs.mem hb
  exact absurd (Nat.lt_of_lt_of_le (Heap.lt_size ho) (Nat.le_trans I.sz h)) (Nat.lt_irrefl _)
theorem Inv.cne (I : Inv X pins σ H s) : ∀ x c, X.env.cells.lookup x = some c → c ≠ X.env.locals := fun x c e z => by
  obtain ⟨v, o, ho, hd⟩ := I.cell x c e
  obtain ⟨m, ⟨o', es, ep, ho', hd', _⟩, _⟩ := I.loc
  rw [z, ho'] at ho; cases ho; rw [hd'] at hd; cases hd
theorem Inv.funs (I : Inv X pins σ H s) : s.heap.FunFrames X.base X.outer := by
  have all : ∀ (l : List Env), (∀ b ∈ frs l, b ∈ X.fs) → X.s₀.heap.FunFrames X.base l → s.heap.FunFrames X.base l := by
    intro l
    induction l with
    | nil => intro _ _; trivial
    | cons env r ih =>
      intro hs hl
      obtain ⟨hk, ⟨L, o, hf, hn, ho, hd⟩, hr⟩ := hl
      have hL : L ∈ X.fs := hs L (by unfold frs; rw [List.filterMap_cons, hf]; exact List.mem_cons_self)
      obtain ⟨sl, e⟩ := I.base.slot L o ho (I.ok.frf L hL) hL fun z => I.ok.exfs L z hL
      exact ⟨hk, ⟨L, _, hf, hn, e, hd⟩, ih (fun b hb => hs b (by unfold frs; rw [List.filterMap_cons, hf]; exact List.mem_cons_of_mem _ hb)) hr⟩
  exact all X.outer (fun _ hb => hb) I.ok.funs
theorem Inv.stack (I : Inv X pins σ H s) : s.heap.FunFrames X.base X.stack := by
  rcases I.ok.stk with e | ⟨e, hf⟩
  · rw [e]; exact I.funs
  · rw [e]
    obtain ⟨m, hn, _⟩ := I.loc
    refine .cons (by rw [I.ok.kind]; decide) hf hn ?_ I.funs
    exact Heap.get?_none_of_le (Nat.le_trans I.ok.bsz I.ok.above)
theorem Inv.stkSub (I : Inv X pins σ H s) : ∀ b ∈ frs X.stack, b ∈ X.env.locals :: X.fs := fun b hb => by
  rcases I.ok.stk with e | ⟨e, hf⟩
  · rw [e] at hb; exact List.mem_cons_of_mem _ hb
  · rw [e] at hb
    unfold frs at hb
    rw [List.filterMap_cons, hf] at hb
    exact hb
theorem Inv.stkFree (I : Inv X pins σ H s) : ∀ b ∈ frs X.stack, H b = none := fun b hb => by
  rcases List.mem_cons.mp (I.stkSub b hb) with e | hb
  · rw [e]; exact I.free
  · obtain ⟨_, o, ho, _⟩ := I.ok.funs.mem hb
    exact I.base.free b o ho (I.ok.frf b hb) fun z => I.ok.exfs b z hb
theorem Inv.step {g' : Array GenState} {t' : Nat} {d' : Drawn} {ch : List Addr} (I : Inv X pins σ H s)
    (hch : ∀ b ∈ ch, (b ∈ X.ex ∨ X.s₀.heap.objs.size ≤ b) ∧ b ≠ X.env.locals ∧ (∀ x c, X.env.cells.lookup x = some c → c ≠ b) ∧ ∀ p ∈ X.pn ++ pins, p.1 ≠ b)
    (keep : ∀ b o, b ≠ X.env.locals → b ∉ X.fs → b ∉ ch → s.heap.get? b = some o → H b = none → h'.get? b = some o)
    (slot : ∀ b o, b ≠ X.env.locals → b ∈ X.fs → b ∉ ch → s.heap.get? b = some o → H b = none → ∃ sl, h'.get? b = some { o with slots := sl }) (free : ∀ b o, b ∉ ch → s.heap.get? b = some o → H b = none → H' b = none)
    (there : ∀ b o, b ∉ ch → s.heap.get? b = some o → ∃ o', h'.get? b = some o')
    (tups : ∀ b xs, H b = some (.tup xs) → H' b = some (.tup xs)) (frzs : ∀ b o u, H b = some (.frz o u) → H' b = some (.frz o u)) (tbls : ∀ b ps, H b = some (.tbl ps) → ∃ more, H' b = some (.tbl (ps ++ more)))
    (ns : ∀ m, s.heap.Ns X.env.locals m → h'.Ns X.env.locals m) (hok : HOk X.prog X.w H' h') (hg : AllBare g') :
    Inv X pins σ H' { s with heap := h', gens := g', drawn := d', toks := t' } := by
  have neL : ∀ b o, X.s₀.heap.get? b = some o → b ≠ X.env.locals := fun b o e => Nat.ne_of_lt (Nat.lt_of_lt_of_le (Heap.lt_size e) I.ok.above)
  have neC : ∀ b o, X.s₀.heap.get? b = some o → b ∉ X.ex → b ∉ ch := fun b o e hx hb => by
    rcases (hch b hb).1 with z | z
    · exact hx z
    · exact absurd (Nat.lt_of_lt_of_le (Heap.lt_size e) z) (Nat.lt_irrefl _)
  have cellK : ∀ x c, X.env.cells.lookup x = some c → ∀ v, s.heap.IsCell c v → h'.IsCell c v := fun x c e v ⟨o, ho, hd⟩ => by
    have nch : c ∉ ch := fun z => (hch c z).2.2.1 x c e rfl
    by_cases hc : c ∈ X.fs
    · obtain ⟨sl, q⟩ := slot c o (I.cne x c e) hc nch ho (I.freeC x c e)
      exact ⟨_, q, hd⟩
    · exact ⟨o, keep c o (I.cne x c e) hc nch ho (I.freeC x c e), hd⟩
  refine ⟨I.ok, I.os, hg, ⟨fun b o e n hb hx => ?_, fun b o e n hb hx => ?_, fun b o e n hx => ?_, fun b o e hx => ?_, fun b xs e => tups b xs (I.base.tups b xs e), fun b o xs e => frzs b o xs (I.base.frzs b o xs e), fun b ps e => ?_⟩, ?_, fun x c e => ?_, ?_, fun x c e => ?_, fun p hp => ?_, hok, I.len⟩
  · exact keep b o (neL b o e) hb (neC b o e hx) (I.base.keep b o e n hb hx) (I.base.free b o e n hx)
  · obtain ⟨sl, e1⟩ := I.base.slot b o e n hb hx
    obtain ⟨sl', e2⟩ := slot b _ (neL b o e) hb (neC b o e hx) e1 (I.base.free b o e n hx)
    exact ⟨sl', e2⟩
  · obtain ⟨o', e1⟩ := I.base.there b o e hx
    exact free b o' (neC b o e hx) e1 (I.base.free b o e n hx)
  · obtain ⟨o', e1⟩ := I.base.there b o e hx
    exact there b o' (neC b o e hx) e1
  · obtain ⟨m1, e1⟩ := I.base.tbls b ps e
    obtain ⟨m2, e2⟩ := tbls b _ e1
    exact ⟨m1 ++ m2, by rw [e2, Array.append_assoc]⟩
  · obtain ⟨m, hn, hl⟩ := I.loc
    refine ⟨m, ns m hn, fun i x v e1 e2 e3 => ?_⟩
    obtain ⟨u, r, l⟩ := hl i x v e1 e2 e3
    refine ⟨u, r, ?_⟩
    rcases l with l | ⟨k, c, e, z⟩
    · exact .inl l
    · exact .inr ⟨k, c, e, cellK x c e _ z⟩
  · obtain ⟨v, z⟩ := I.cell x c e
    exact ⟨v, cellK x c e v z⟩
  · obtain ⟨m, ⟨o, _, _, ho, _⟩, _⟩ := I.loc
    exact free _ o (fun z => (hch _ z).2.1 rfl) ho I.free
  · obtain ⟨v, o, ho, hd⟩ := I.cell x c e
    exact free c o (fun z => (hch c z).2.2.1 x c e rfl) ho (I.freeC x c e)
  · obtain ⟨e, n, ne, nf, d⟩ := I.pin p hp
    have nch : p.1 ∉ ch := fun z => (hch p.1 z).2.2.2 p hp rfl
    exact ⟨keep p.1 p.2 ne nf nch e n, free p.1 p.2 nch e n, ne, nf, d⟩
theorem Inv.un {t' : Nat} (I : Inv X pins σ H s) (u : Un X.fs [] H H' s.heap h') (hok : HOk X.prog X.w H' h') : Inv X pins σ H' { s with heap := h', toks := t' } := by
  obtain ⟨m, ⟨o, es, ep, ho, r⟩, _⟩ := id I.loc
  obtain ⟨sl, hL⟩ := u.any ho I.free (by simp)
  exact I.step (g' := s.gens) (d' := s.drawn) (ch := []) (fun _ z => nomatch z) (fun b o _ hb _ e n => u.keep b o e n hb (by simp)) (fun b o _ hb _ e n => u.slot b o e n hb (by simp)) (fun b o _ e n => u.free b o e n (by simp)) (fun b o _ e => u.there b o e (by simp)) u.tups u.frzs u.tbls (fun m' hm => by
    obtain ⟨o', es', ep', ho', r'⟩ := hm
    rw [ho] at ho'; cases ho'
    exact ⟨_, es', ep', hL, r'⟩) hok I.bare
theorem Inv.call {g' : Array GenState} {t' : Nat} {d' : Drawn} {ch : List Addr} (I : Inv X pins σ H s) (u : Un (frs X.stack) ch H H' s.heap h') (hok : HOk X.prog X.w H' h') (hg : AllBare g')
    (hch : ∀ b ∈ ch, (b ∈ X.ex ∨ X.s₀.heap.objs.size ≤ b) ∧ b ≠ X.env.locals ∧ (∀ x c, X.env.cells.lookup x = some c → c ≠ b) ∧ ∀ p ∈ X.pn ++ pins, p.1 ≠ b) :
    Inv X pins σ H' { s with heap := h', gens := g', drawn := d', toks := t' } := by
  obtain ⟨m, ⟨o, es, ep, ho, r⟩, _⟩ := id I.loc
  obtain ⟨sl, hL⟩ := u.any ho I.free fun z => (hch _ z).2.1 rfl
  exact I.step (ch := ch) hch (fun b o hL hb hc e n => u.keep b o e n (fun z => (List.mem_cons.mp (I.stkSub b z)).elim hL hb) hc) (fun b o _ _ hc e n => u.any e n hc) (fun b o hc e n => u.free b o e n hc) (fun b o hc e => u.there b o e hc) u.tups u.frzs u.tbls (fun m' hm => by
    obtain ⟨o', es', ep', ho', r'⟩ := hm
    rw [ho] at ho'; cases ho'
    exact ⟨_, es', ep', hL, r'⟩) hok hg
theorem Inv.turned {t' : Nat} {it : Addr} (I : Inv X pins σ H s) (k : ∀ b o, b ≠ it → s.heap.get? b = some o → h'.get? b = some o) (hn : H it = none) (hL : it ≠ X.env.locals)
    (h1 : it ∈ X.ex ∨ X.s₀.heap.objs.size ≤ it) (h2 : ∀ x c, X.env.cells.lookup x = some c → c ≠ it) (h3 : ∀ p ∈ X.pn ++ pins, p.1 ≠ it) : Inv X pins σ H { s with heap := h', toks := t' } := by
  have nit : ∀ b u, H b = some u → b ≠ it := fun b u e z => by rw [z, hn] at e; cases e
  refine I.step (g' := s.gens) (d' := s.drawn) (ch := [it]) (fun b hb => ?_) (fun b o _ _ hc e _ => k b o (fun z => hc (by simp [z])) e) (fun b o _ _ hc e _ => ⟨o.slots, k b o (fun z => hc (by simp [z])) e⟩) (fun _ _ _ _ n => n)
    (fun b o hc e => ⟨o, k b o (fun z => hc (by simp [z])) e⟩) (fun _ _ e => e) (fun _ _ _ e => e) (fun b ps e => ⟨#[], by rw [e]; simp⟩) (fun m hm => ?_) (fun b u e => ?_) I.bare
  · have e : b = it := by simpa using hb
    subst e
    exact ⟨h1, hL, h2, h3⟩
  · obtain ⟨o, es, ep, ho, r⟩ := hm
    exact ⟨o, es, ep, k _ o (Ne.symm hL) ho, r⟩
  · refine (I.hok b u e).stay (fun c v hc q => k c v ?_ q) (fun _ q => q) fun _ _ q => q
    rcases hc with z | z
    · rw [z]; exact nit b u e
    · exact nit c _ z
theorem Inv.tok (I : Inv X pins σ H s) (t : Nat) : Inv X pins σ H { s with toks := t } := I.un (h' := s.heap) (t' := t) Un.refl I.hok
theorem Inv.kept {t' : Nat} (I : Inv X pins σ H s) (k : ∀ b u, s.heap.get? b = some u → h'.get? b = some u) : Inv X pins σ H { s with heap := h', toks := t' } := I.un (Un.kept k) (I.hok.kept k)
theorem Inv.laid {a : Addr} {o : HO} {t' : Nat} (I : Inv X pins σ H s) (k : ∀ b u, s.heap.get? b = some u → h'.get? b = some u) (hp : s.heap.objs.size ≤ a) (new : ObjOk X.prog X.w (upd H a o) h' a o) :
    Inv X pins σ (upd H a o) { s with heap := h', toks := t' } := I.un (Un.laid k hp (I.hok.fresh hp)) (I.hok.laid k hp new)
theorem Inv.write {x e : Addr} {o : HO} {t' : Nat} (I : Inv X pins σ H s) (mu : Mut (H x)) (he : e = x ∨ H e = some (.own x)) (k : ∀ b u, b ≠ e → s.heap.get? b = some u → h'.get? b = some u) (heo : ∃ u, h'.get? e = some u)
    (new : ObjOk X.prog X.w (upd H x o) h' x o) : Inv X pins σ (upd H x o) { s with heap := h', toks := t' } := I.un (Un.write mu he k heo) (I.hok.write mu he k heo new)
theorem Inv.weak {σ' : List (Option V)} (I : Inv X pins σ H s) (hl : σ'.length = σ.length) (w : ∀ (i : Nat) v, σ'[i]? = some (some v) → σ[i]? = some (some v)) : Inv X pins σ' H s :=
  ⟨I.ok, I.os, I.bare, I.base, let ⟨m, hn, hl'⟩ := I.loc; ⟨m, hn, fun i x v e1 e2 e3 => hl' i x v e1 (w i v e2) e3⟩, I.cell, I.free, I.freeC, I.pin, I.hok, hl.trans I.len⟩
theorem Inv.pins_of {pins' : List (Addr × Obj)} (I : Inv X pins σ H s) (h : ∀ p ∈ pins', s.heap.get? p.1 = some p.2 ∧ H p.1 = none ∧ p.1 ≠ X.env.locals ∧ p.1 ∉ X.fs ∧ ∀ v, p.2.data ≠ .cell v) : Inv X pins' σ H s :=
  ⟨I.ok, I.os, I.bare, I.base, I.loc, I.cell, I.free, I.freeC, fun p hp => (List.mem_append.mp hp).elim (fun z => I.pin p (List.mem_append_left _ z)) (h p), I.hok, I.len⟩
theorem nodup_ix {N : List Str} (hN : N.Nodup) {i j : Nat} {x : Str} (a : N[i]? = some x) (b : N[j]? = some x) : i = j := by
  obtain ⟨h1, e1⟩ := List.getElem?_eq_some_iff.mp a
  obtain ⟨h2, e2⟩ := List.getElem?_eq_some_iff.mp b
  exact (List.getElem_inj hN).mp (e1.trans e2.symm)
theorem store_ok2 {M : Model} {A : Around} {E : Value → Shared → Prop} {i : Nat} {x : Str} {v : V} {u : Value} {Q : Unit → Shared → Prop} (I : Inv X pins σ H s) (hN : X.N.Nodup) (hi : X.N[i]? = some x) (hx : Loc X.env.scope x) (r : RelV v u)
    (h : ∀ s', Inv X pins (σ.set i (some v)) H s' → (∃ a, Heap.SameBut a s.heap s'.heap ∧ (a = X.env.locals ∨ X.env.cells.lookup x = some a)) → Q () s') (hf : X.fn x = true ∨ X.env.scope.names.lookup x = some .local := by first | exact .inl rfl | exact .inr rfl | assumption) : wpAny M A (storeName X.env x u) Q E s := by
  obtain ⟨m, hn, hl⟩ := id I.loc
  have hcls : (X.env.scope.kind == .class || (X.env.scope.kind == .module && X.env.locals != X.env.globals)) = false := by rw [I.ok.kind]; rfl
  have hiσ : i < σ.length := by rw [I.len]; exact (List.getElem?_eq_some_iff.mp hi).1
  have cne := I.cne
  have tracked : ∀ {a : Addr} {h' : Heap}, (∃ o, s.heap.get? a = some o ∧ H a = none) → Heap.SameBut a s.heap h' → HOk X.prog X.w H h' := fun {a h'} ha hs b ob e => by
    obtain ⟨_, _, hfree⟩ := ha
    refine (I.hok b ob e).stay (fun c w' hc q => (hs.2 c ?_).trans q) (fun _ q => q) fun _ _ q => q
    rintro rfl
    rcases hc with rfl | hc
    · rw [hfree] at e; cases e
    · rw [hfree] at hc; cases hc
  rcases hx with hk | hk
  · refine wpAny_storeName_local hk hn (fun h' hn' hs => ?_) hcls
    obtain ⟨oL, _, _, hoL, _⟩ := id hn
    refine h _ ⟨I.ok, I.os, I.bare, ⟨fun b o e n hb hx => ?_, fun b o e n hb hx => ?_, I.base.free, fun b o e hx => ?_, I.base.tups, I.base.frzs, I.base.tbls⟩, ⟨_, hn', fun j y v' e1 e2 e3 => ?_⟩, fun y c e => ?_, I.free, I.freeC, fun p hp => ?_, tracked ⟨oL, hoL, I.free⟩ hs, by simpa using I.len⟩ ⟨_, hs, .inl rfl⟩
    · exact (hs.2 b (Nat.ne_of_lt (Nat.lt_of_lt_of_le (Heap.lt_size e) I.ok.above))).trans (I.base.keep b o e n hb hx)
    · obtain ⟨sl, e1⟩ := I.base.slot b o e n hb hx
      exact ⟨sl, (hs.2 b (Nat.ne_of_lt (Nat.lt_of_lt_of_le (Heap.lt_size e) I.ok.above))).trans e1⟩
    · obtain ⟨o', e1⟩ := I.base.there b o e hx
      exact ⟨o', (hs.2 b (Nat.ne_of_lt (Nat.lt_of_lt_of_le (Heap.lt_size e) I.ok.above))).trans e1⟩
    · by_cases hj : j = i
      · subst hj
        rw [hi] at e1; cases e1
        rw [List.getElem?_set_self hiσ] at e2
        cases e2
        exact ⟨u, r, .inl ⟨hk, by simp⟩⟩
      · rw [List.getElem?_set_ne (Ne.symm hj)] at e2
        obtain ⟨u', r', q⟩ := hl j y v' e1 e2 e3
        refine ⟨u', r', ?_⟩
        rcases q with ⟨k, e⟩ | ⟨k, c, e, z⟩
        · refine .inl ⟨k, ?_⟩
          have : y ≠ x := fun e => hj (nodup_ix hN e1 (e ▸ hi))
          simp [this, e]
        · exact .inr ⟨k, c, e, z.sameBut hs (cne y c e)⟩
    · obtain ⟨w', z⟩ := I.cell y c e
      exact ⟨w', z.sameBut hs (cne y c e)⟩
    · obtain ⟨e, n, ne, nf, d⟩ := I.pin p hp
      exact ⟨(hs.2 p.1 ne).trans e, n, ne, nf, d⟩
  · have hfn : X.fn x = true := by
      rcases hf with z | z
      · exact z
      · rw [z] at hk; cases hk
    obtain ⟨c, hc⟩ := I.ok.has x (.inl hk)
    obtain ⟨w', z⟩ := I.cell x c hc
    refine wpAny_storeName_cell I.ok.kind hk hc z (fun h' hc' hs => ?_)
    obtain ⟨oc, hoc, hocd⟩ := id z
    refine h { s with heap := h' } ⟨I.ok, I.os, I.bare, ⟨fun b o e n hb hx => ?_, fun b o e n hb hx => ?_, I.base.free, fun b o e hx => ?_, I.base.tups, I.base.frzs, I.base.tbls⟩, ⟨m, hn.sameBut hs (Ne.symm (cne x c hc)), fun j y v' e1 e2 e3 => ?_⟩, fun y c' e => ?_, I.free, I.freeC, fun p hp => ?_, tracked ⟨oc, hoc, I.freeC x c hc⟩ hs, by simpa using I.len⟩ ⟨c, hs, .inr hc⟩
    · exact (hs.2 b (Nat.ne_of_lt (Nat.lt_of_lt_of_le (Heap.lt_size e) (I.ok.cab x c hfn hc)))).trans (I.base.keep b o e n hb hx)
    · obtain ⟨sl, e1⟩ := I.base.slot b o e n hb hx
      exact ⟨sl, (hs.2 b (Nat.ne_of_lt (Nat.lt_of_lt_of_le (Heap.lt_size e) (I.ok.cab x c hfn hc)))).trans e1⟩
    · obtain ⟨o', e1⟩ := I.base.there b o e hx
      exact ⟨o', (hs.2 b (Nat.ne_of_lt (Nat.lt_of_lt_of_le (Heap.lt_size e) (I.ok.cab x c hfn hc)))).trans e1⟩
    · by_cases hj : j = i
      · subst hj
        rw [hi] at e1; cases e1
        rw [List.getElem?_set_self hiσ] at e2
        cases e2
        exact ⟨u, r, .inr ⟨.inl hk, c, hc, hc'⟩⟩
      · rw [List.getElem?_set_ne (Ne.symm hj)] at e2
        obtain ⟨u', r', q⟩ := hl j y v' e1 e2 e3
        refine ⟨u', r', ?_⟩
        rcases q with q | ⟨k, c', e, z'⟩
        · exact .inl q
        · refine .inr ⟨k, c', e, z'.sameBut hs ?_⟩
          rintro rfl
          exact hj (nodup_ix hN e1 (I.ok.inj _ _ _ e hc ▸ hi))
    · by_cases hcc : c' = c
      · subst hcc; exact ⟨_, hc'⟩
      · obtain ⟨w2, z2⟩ := I.cell y c' e
        exact ⟨w2, z2.sameBut hs hcc⟩
    · obtain ⟨e, n, ne, nf, d⟩ := I.pin p hp
      refine ⟨(hs.2 p.1 ?_).trans e, n, ne, nf, d⟩
      intro q
      rw [q, hoc] at e
      have q' : oc = p.2 := Option.some.inj e
      exact d w' (by rw [← q']; exact hocd)
theorem store_ok {M : Model} {A : Around} {E : Value → Shared → Prop} {i : Nat} {x : Str} {v : V} {u : Value} {Q : Unit → Shared → Prop} (I : Inv X pins σ H s) (hN : X.N.Nodup) (hi : X.N[i]? = some x) (hx : Loc X.env.scope x) (r : RelV v u)
    (h : ∀ s', Inv X pins (σ.set i (some v)) H s' → Q () s') (hf : X.fn x = true ∨ X.env.scope.names.lookup x = some .local := by first | exact .inl rfl | exact .inr rfl | assumption) : wpAny M A (storeName X.env x u) Q E s :=
  store_ok2 I hN hi hx r (fun s' I' _ => h s' I') hf
theorem Inv.call' {s' : Shared} {ch : List Addr} (I : Inv X pins σ H s) (ho : s'.os = s.os) (u : Un (frs X.stack) ch H H' s.heap s'.heap) (hok : HOk X.prog X.w H' s'.heap) (hg : AllBare s'.gens)
    (hch : ∀ b ∈ ch, (b ∈ X.ex ∨ X.s₀.heap.objs.size ≤ b) ∧ b ≠ X.env.locals ∧ (∀ x c, X.env.cells.lookup x = some c → c ≠ b) ∧ ∀ p ∈ X.pn ++ pins, p.1 ≠ b) : Inv X pins σ H' s' := by
  obtain ⟨h', g', d', t', o'⟩ := s'
  have e : o' = s.os := ho
  subst e
  exact I.call (g' := g') (t' := t') (d' := d') u hok hg hch
end
abbrev XK := Value → Option Addr → Hp → Prop
abbrev St := List (Option V)
abbrev VK := V → Hp → Prop
abbrev TE := St → Hp → VK → Prop
abbrev TT := St → Hp → (Bool → Hp → Prop) → Prop
abbrev TA := St → Hp → (List V → Hp → Prop) → Prop
structure Ends where
  nx : St → Hp → Prop
  rt : VK
  bk : St → Hp → Prop := fun _ _ => False
  ct : St → Hp → Prop := fun _ _ => False
abbrev TS := Ends → St → Hp → Prop
def EP (X : Cx) (pins : List (Addr × Obj)) (σ : St) (Q : VK) (u : Value) (s' : Shared) : Prop := ∃ v H', Inv X pins σ H' s' ∧ RelV v u ∧ Q v H'
def TP (X : Cx) (pins : List (Addr × Obj)) (σ : St) (Q : Bool → Hp → Prop) (b : Bool) (s' : Shared) : Prop := ∃ H', Inv X pins σ H' s' ∧ Q b H'
def AP (X : Cx) (pins : List (Addr × Obj)) (σ : St) (Q : List V → Hp → Prop) (us : List Value) (s' : Shared) : Prop := ∃ vs H', Inv X pins σ H' s' ∧ Vals vs us ∧ Q vs H'
def SP (X : Cx) (pins : List (Addr × Obj)) (D : Ends) (f : Flow) (s' : Shared) : Prop :=
  match f with
  | .next => ∃ σ' H', Inv X pins σ' H' s' ∧ D.nx σ' H'
  | .brk => ∃ σ' H', Inv X pins σ' H' s' ∧ D.bk σ' H'
  | .cont => ∃ σ' H', Inv X pins σ' H' s' ∧ D.ct σ' H'
  | .ret u => ∃ v σ' H', Inv X pins σ' H' s' ∧ RelV v u ∧ D.rt v H'
def PE (X : Cx) (e : Expr) (t : TE) : Prop :=
  ∀ (pins : List (Addr × Obj)) (s : Shared) (σ : St) (H : Hp) (Q : VK), Inv X pins σ H s → t σ H Q → wpAny (model X.prog X.w) X.A (eval e X.env) (EP X pins σ Q) X.xe s
def PT (X : Cx) (e : Expr) (t : TT) : Prop :=
  ∀ (pins : List (Addr × Obj)) (s : Shared) (σ : St) (H : Hp) (Q : Bool → Hp → Prop), Inv X pins σ H s → t σ H Q → wpAny (model X.prog X.w) X.A (isTrue e X.env (eval e X.env)) (TP X pins σ Q) X.xe s
def PW (X : Cx) (e : Expr) (t : TT) : Prop :=
  ∀ (whole : Sem Value) (pins : List (Addr × Obj)) (s : Shared) (σ : St) (H : Hp) (Q : Bool → Hp → Prop), Inv X pins σ H s → t σ H Q → wpAny (model X.prog X.w) X.A (isTrue e X.env whole) (TP X pins σ Q) X.xe s
theorem PW.pt {X : Cx} {e : Expr} {t : TT} (h : PW X e t) : PT X e t := h _
def PA (X : Cx) (es : List Expr) (t : TA) : Prop :=
  ∀ (pos : Pos) (pins : List (Addr × Obj)) (s : Shared) (σ : St) (H : Hp) (Q : List V → Hp → Prop), Inv X pins σ H s → t σ H Q → wpAny (model X.prog X.w) X.A (spliced (backTo pos (starEach es X.env))) (AP X pins σ Q) X.xe s
def PS (X : Cx) (st : Stmt) (t : TS) : Prop :=
  ∀ (pins : List (Addr × Obj)) (s : Shared) (σ : St) (H : Hp) (D : Ends), Inv X pins σ H s → t D σ H → wpAny (model X.prog X.w) X.A (exec st X.env) (SP X pins D) X.xe s
def PSs (X : Cx) (st : List Stmt) (t : TS) : Prop :=
  ∀ (pins : List (Addr × Obj)) (s : Shared) (σ : St) (H : Hp) (D : Ends), Inv X pins σ H s → t D σ H → wpAny (model X.prog X.w) X.A (execs st X.env) (SP X pins D) X.xe s
theorem thn {α : Type} {t : Sem α} {Q Q' : α → Shared → Prop} {M : Model} {A : Around} {E : Value → Shared → Prop} {s : Shared} (h : wpAny M A t Q E s) (hQ : ∀ a s, Q a s → Q' a s) : wpAny M A t Q' E s := wpAny_mono h hQ fun _ _ x => x
end L2
namespace L2
open PySem PySem.Spec PyProof.Rows
section
variable {X : Cx}
def tVar (i : Nat) : TE := fun σ H Q => ∃ v, σ[i]? = some (some v) ∧ Q v H
def tC (v : V) : TE := fun _ H Q => Q v H
theorem pe_var {i : Nat} {x : Str} {pos : Pos} (hN : X.N[i]? = some x) (hv : Vis X.env.scope x) (hd : (x == ("__debug__" : Str)) = false := by decide) (hcd : (x == ("__classdict__" : Str)) = false := by decide) : PE X (.Name x pos) (tVar i) := by
  intro pins s σ H Q I h
  obtain ⟨v, e, h⟩ := h
  obtain ⟨m, hn, hl⟩ := I.loc
  obtain ⟨u, r, l⟩ := hl i x v hN e hv
  have fin : EP X pins σ Q u s := ⟨v, H, I, r, h⟩
  rcases l with ⟨hk, hm⟩ | ⟨hk, c, hc, hcell⟩
  · exact wpAny_Name (wpAny_loadName_local I.ok.kind hk hn hm fin) hd
  · rcases hk with hk | hk
    · exact wpAny_Name (wpAny_loadName_cell I.ok.kind hk hc hcell fin) hd
    · exact wpAny_Name (wpAny_loadName_free I.ok.kind hk hc hcell fin hcd) hd
theorem pe_int {i j pos} : PE X (.Constant (.int i) j pos) (tC (.int i)) := fun _ _ _ H _ I h => wpAny_Constant_int ⟨.int i, H, I.tok _, ⟨_, rfl⟩, h⟩
theorem pe_bl {b j pos} : PE X (.Constant (.bool b) j pos) (tC (.bl b)) := fun _ _ _ H _ I h => Constant_bool ⟨.bl b, H, I, rfl, h⟩
theorem pe_non {j pos} : PE X (.Constant .none j pos) (tC .non) := fun _ _ _ H _ I h => Constant_none ⟨.non, H, I, rfl, h⟩
theorem pe_str {x j pos} : PE X (.Constant (.str x) j pos) (tC (.str x)) := fun _ _ _ H _ I h => Calls.Constant_str ⟨.str x, H, I.tok _, ⟨_, rfl⟩, h⟩
def Gl (X : Cx) (x : Str) : Prop := X.env.kindOf x = some .globalImplicit
theorem ld_glob {E : Value → Shared → Prop} {pins : List (Addr × Obj)} {s : Shared} {σ : St} {H : Hp} {x : Str} {u : Value} {pos : Pos} {Q : Value → Shared → Prop} (I : Inv X pins σ H s) (hg : Gl X x) (hm : X.mg x = some u) (h : Q u s)
    (hd : (x == ("__debug__" : Str)) = false := by decide) : wpAny (model X.prog X.w) X.A (eval (.Name x pos) X.env) Q E s :=
  Calls.Name_function_global I.ok.kind hg (Calls.loadGlobal_global (by rw [I.ok.glob]; exact I.mod.glob.keeps I.bk) hm h) hd
theorem ld_blt {E : Value → Shared → Prop} {pins : List (Addr × Obj)} {s : Shared} {σ : St} {H : Hp} {x : Str} {u : Value} {pos : Pos} {Q : Value → Shared → Prop} (I : Inv X pins σ H s) (hg : Gl X x) (hm : X.mg x = none) (hv : bootBuiltins x = some u) (h : Q u s)
    (hn : x ≠ "__name__" := by decide) (hd : (x == ("__debug__" : Str)) = false := by decide) : wpAny (model X.prog X.w) X.A (eval (.Name x pos) X.env) Q E s := by
  obtain ⟨mb, h1, h2⟩ := I.mod.blt
  exact Calls.Name_function_global I.ok.kind hg (Calls.loadGlobal_builtin (by rw [I.ok.glob]; exact I.mod.glob.keeps I.bk) hm (by rw [I.ok.blt]; exact h1.keeps I.bk) ((h2 x hn).trans hv) h) hd
theorem pe_glob {x : Str} {v : V} {u : Value} {pos : Pos} (hg : Gl X x) (hm : X.mg x = some u) (r : RelV v u) (hd : (x == ("__debug__" : Str)) = false := by decide) : PE X (.Name x pos) (tC v) :=
  fun _ _ _ H _ I h => ld_glob I hg hm ⟨v, H, I, r, h⟩ hd
theorem pe_bltn {x : Str} {v : V} {u : Value} {pos : Pos} (hg : Gl X x) (hm : X.mg x = none) (hv : bootBuiltins x = some u) (r : RelV v u) (hn : x ≠ "__name__" := by decide) (hd : (x == ("__debug__" : Str)) = false := by decide) : PE X (.Name x pos) (tC v) :=
  fun _ _ _ H _ I h => ld_blt I hg hm hv ⟨v, H, I, r, h⟩ hn hd
variable {a b : Expr} {ta tb : TE} {pos : Pos}
def PC (X : Cx) (op : CmpOp) (a b : Expr) (t : TE) : Prop :=
  ∀ (pins : List (Addr × Obj)) (s : Shared) (σ : St) (H : Hp) (Q : VK), Inv X pins σ H s → t σ H Q →
    wpAny (model X.prog X.w) X.A (eval a X.env) (fun v s₁ => wpAny (model X.prog X.w) X.A (eval b X.env) (fun u s₂ => wpAny (model X.prog X.w) X.A (compareOp op v u) (EP X pins σ Q) X.xe s₂) X.xe s₁) X.xe s
theorem nobehind (b : Expr) {op : CmpOp} (h : op ≠ .In) (h2 : op ≠ .NotIn) : behindInMarks op b = false := by
  have e1 : (op == CmpOp.In) = false := by cases op <;> first | rfl | exact absurd rfl h
  have e2 : (op == CmpOp.NotIn) = false := by cases op <;> first | rfl | exact absurd rfl h2
  cases b <;> simp [behindInMarks, e1, e2]
def tIsN (ta : TE) : TE := fun σ H Q => ta σ H fun x H1 => Q (.bl (decide (x = .non))) H1
def tNotN (ta : TE) : TE := fun σ H Q => ta σ H fun x H1 => Q (.bl (!decide (x = .non))) H1
theorem RelV.none_iff {x : V} {v : Value} (r : RelV x v) : (v == Value.none) = decide (x = .non) := by
  cases x with
  | non => cases r; rfl
  | bl _ => cases r; rfl
  | int _ => obtain ⟨t, rfl⟩ := r; rfl
  | str _ => obtain ⟨t, rfl⟩ := r; rfl
  | byt _ => obtain ⟨t, rfl⟩ := r; rfl
  | flt _ => obtain ⟨t, rfl⟩ := r; rfl
  | ref _ => cases r; rfl
  | ty _ => cases r; rfl
theorem pc_isN {j pos'} (ha : PE X a ta) : PC X .Is a (.Constant .none j pos') (tIsN ta) := by
  intro pins s σ H Q I h
  refine thn (ha pins s σ H _ I h) fun v s1 ⟨x, H1, I1, r1, q1⟩ => ?_
  exact Constant_none (is_none_gen ⟨.bl _, H1, I1, by rw [r1.none_iff]; rfl, q1⟩)
theorem pc_notN {j pos'} (ha : PE X a ta) : PC X .IsNot a (.Constant .none j pos') (tNotN ta) := by
  intro pins s σ H Q I h
  refine thn (ha pins s σ H _ I h) fun v s1 ⟨x, H1, I1, r1, q1⟩ => ?_
  exact Constant_none (isnot_none_gen ⟨.bl _, H1, I1, by rw [r1.none_iff]; rfl, q1⟩)
def tB (t : TE) : TT := fun σ H Q => t σ H fun x H1 => ∃ c, x = .bl c ∧ Q c H1
theorem pt_cmp {op : CmpOp} {t : TE} (h : PC X op a b t) (h1 : behindInMarks op b = false := by first | exact nobehind _ (by decide) (by decide) | rfl) : PT X (.Compare a [op] [b] pos) (tB t) := by
  intro pins s σ H Q I hw
  refine wpAny_isTrue_Compare1 (thn (h pins s σ H _ I hw) fun v s1 h1 => thn h1 fun u s2 h2 => thn h2 fun c s3 ⟨x, H1, I1, r1, q1⟩ => ?_) h1
  obtain ⟨d, rfl, q⟩ := q1
  cases r1
  exact wpAny_truthy_bool ⟨H1, I1, q⟩
variable {tA tB' : TT} {rest : List Expr}
def tAnd (t u : TT) : TT := fun σ H Q => t σ H fun c H1 => if c = true then u σ H1 Q else Q false H1
def tOr (t u : TT) : TT := fun σ H Q => t σ H fun c H1 => if c = true then Q true H1 else u σ H1 Q
def tNot (t : TT) : TT := fun σ H Q => t σ H fun c H1 => Q (!c) H1
theorem pw_and1 (ha : PT X a tA) : PW X (.BoolOp .And [a] pos) tA := by
  intro wh pins s σ H Q I h
  refine isTrue_and (thn (ha pins s σ H Q I h) fun c s1 e => ?_)
  cases c with
  | true => exact isTrue_and_nil e
  | false => exact e
theorem pw_or1 (ha : PT X a tA) : PW X (.BoolOp .Or [a] pos) tA := by
  intro wh pins s σ H Q I h
  refine isTrue_or (thn (ha pins s σ H Q I h) fun c s1 e => ?_)
  cases c with
  | false => exact isTrue_or_nil e
  | true => exact e
theorem pw_and (ha : PT X a tA) (hb : PW X (.BoolOp .And (b :: rest) pos) tB') : PW X (.BoolOp .And (a :: b :: rest) pos) (tAnd tA tB') := by
  intro wh pins s σ H Q I h
  refine isTrue_and (thn (ha pins s σ H _ I h) fun c s1 ⟨H1, I1, q1⟩ => ?_)
  cases c with
  | true => exact hb wh pins s1 σ H1 Q I1 q1
  | false => exact ⟨H1, I1, q1⟩
theorem pw_or (ha : PT X a tA) (hb : PW X (.BoolOp .Or (b :: rest) pos) tB') : PW X (.BoolOp .Or (a :: b :: rest) pos) (tOr tA tB') := by
  intro wh pins s σ H Q I h
  refine isTrue_or (thn (ha pins s σ H _ I h) fun c s1 ⟨H1, I1, q1⟩ => ?_)
  cases c with
  | true => exact ⟨H1, I1, q1⟩
  | false => exact hb wh pins s1 σ H1 Q I1 q1
theorem pt_not (ha : PT X a tA) : PT X (.UnaryOp .Not a pos) (tNot tA) := by
  intro pins s σ H Q I h
  exact isTrue_not (ha pins s σ H (fun c H1 => Q (!c) H1) I h)
def tAndV (ta tb : TE) : TE := fun σ H Q => ta σ H fun x H1 => ∃ c, x = .bl c ∧ if c = true then tb σ H1 Q else Q (.bl false) H1
def tOrV (ta tb : TE) : TE := fun σ H Q => ta σ H fun x H1 => ∃ c, x = .bl c ∧ if c = true then Q (.bl true) H1 else tb σ H1 Q
def tNotV (ta : TE) : TE := fun σ H Q => ta σ H fun x H1 => ∃ c, x = .bl c ∧ Q (.bl (!c)) H1
theorem pe_one {op} {t : TE} (h : PE X a t) : PE X (.BoolOp op [a] pos) t := fun pins s σ H Q I hw => BoolOp_one (h pins s σ H Q I hw)
theorem pe_and (ha : PE X a ta) (hb : PE X (.BoolOp .And (b :: rest) pos) tb) : PE X (.BoolOp .And (a :: b :: rest) pos) (tAndV ta tb) := by
  intro pins s σ H Q I h
  refine BoolOp_and (thn (ha pins s σ H _ I h) fun v s1 ⟨x, H1, I1, r1, q1⟩ => ?_)
  obtain ⟨c, rfl, q1⟩ := q1
  cases r1
  refine wpAny_truthy_bool ?_
  cases c with
  | true => exact hb pins s1 σ H1 Q I1 q1
  | false => exact ⟨.bl false, H1, I1, rfl, q1⟩
theorem pe_or (ha : PE X a ta) (hb : PE X (.BoolOp .Or (b :: rest) pos) tb) : PE X (.BoolOp .Or (a :: b :: rest) pos) (tOrV ta tb) := by
  intro pins s σ H Q I h
  refine BoolOp_or (thn (ha pins s σ H _ I h) fun v s1 ⟨x, H1, I1, r1, q1⟩ => ?_)
  obtain ⟨c, rfl, q1⟩ := q1
  cases r1
  refine wpAny_truthy_bool ?_
  cases c with
  | false => exact hb pins s1 σ H1 Q I1 q1
  | true => exact ⟨.bl true, H1, I1, rfl, q1⟩
theorem pe_not (ha : PE X a ta) : PE X (.UnaryOp .Not a pos) (tNotV ta) := by
  intro pins s σ H Q I h
  refine UnaryOp_ (thn (ha pins s σ H _ I h) fun v s1 ⟨x, H1, I1, r1, q1⟩ => ?_)
  obtain ⟨c, rfl, q1⟩ := q1
  cases r1
  exact not_of (wpAny_truthy_bool ⟨.bl (!c), H1, I1, rfl, q1⟩)
def tIf (t : TT) (ta tb : TE) : TE := fun σ H Q => t σ H fun c H1 => if c = true then ta σ H1 Q else tb σ H1 Q
theorem pe_ifExp {c : Expr} (hc : PT X c tA) (ha : PE X a ta) (hb : PE X b tb) : PE X (.IfExp c a b pos) (tIf tA ta tb) := by
  intro pins s σ H Q I h
  refine wpAny_IfExp (thn (hc pins s σ H _ I h) fun d s1 ⟨H1, I1, q1⟩ => ?_)
  cases d with
  | true => exact ha pins s1 σ H1 Q I1 q1
  | false => exact hb pins s1 σ H1 Q I1 q1
end
end L2
namespace L2
open PySem PySem.Spec PyProof.Rows
def SqL (K : PySem.W.Frag) (H : Hp) (a : Addr) (xs : List V) : Prop :=
  Rd H a (.lst xs) ∨
    ∃ (o : Obj) (its : Array Value) (n : Nat), K.lookup a = some o ∧ o.cls = .type "list" ∧ o.dict = none ∧ o.data = .seq its n ∧ its.size ≤ sizeLine ∧ Vals xs its.toList
def SqT (K : PySem.W.Frag) (H : Hp) (a : Addr) (xs : List V) : Prop :=
  Rd H a (.tup xs) ∨
    ∃ (o : Obj) (its : Array Value) (n : Nat), K.lookup a = some o ∧ o.cls = .type "tuple" ∧ o.data = .seq its n ∧ its.size ≤ sizeLine ∧ Vals xs its.toList
def absV : Value → Option V
  | .none => some .non
  | .bool b => some (.bl b)
  | .int i _ => some (.int i)
  | .str x _ => some (.str x)
  | .bytes b _ => some (.byt b)
  | .float b _ => some (.flt b)
  | .ref a => some (.ref a)
  | .type n => some (.ty n)
  | _ => none
theorem RelV.abs {x : V} {u : Value} (r : RelV x u) : absV u = some x := by
  cases x with
  | non => cases r; rfl
  | bl _ => cases r; rfl
  | int _ => obtain ⟨t, rfl⟩ := r; rfl
  | str _ => obtain ⟨t, rfl⟩ := r; rfl
  | byt _ => obtain ⟨t, rfl⟩ := r; rfl
  | flt _ => obtain ⟨t, rfl⟩ := r; rfl
  | ref _ => cases r; rfl
  | ty _ => cases r; rfl
theorem RelV.inj {x y : V} {u : Value} (r : RelV x u) (q : RelV y u) : x = y := Option.some.inj (r.abs.symm.trans q.abs)
theorem Vals.inj : ∀ {xs ys : List V} {us : List Value}, Vals xs us → Vals ys us → xs = ys
  | _, _, _, .nil, .nil => rfl
  | _, _, _, .cons r t, .cons r' t' => by rw [r.inj r', Vals.inj t t']
section
variable {X : Cx} {pins : List (Addr × Obj)} {σ : St} {H : Hp} {s : Shared} {a : Addr} {xs ys : List V}
theorem SqL.of {K : PySem.W.Frag} (h : H a = some (.lst xs)) : SqL K H a xs := .inl (.inl h)
theorem SqT.of {K : PySem.W.Frag} (h : H a = some (.tup xs)) : SqT K H a xs := .inl (.inl h)
theorem Inv.list (I : Inv X pins σ H s) (h : SqL X.K H a xs) : ∃ its : List Value, Vals xs its ∧ PlainL s.heap a its.toArray ∧ xs.length ≤ sizeLine := by
  rcases h with h | ⟨o, its, n, hk, hc, hd, hs, hz, r⟩
  · obtain ⟨z, its, n, r, e⟩ := h.ok I.hok
    exact ⟨its, r, ⟨_, n, e, rfl, rfl, rfl⟩, z⟩
  · refine ⟨its.toList, r, ⟨o, n, I.kIn a o hk, hc, hd, by simpa using hs⟩, ?_⟩
    have e := r.length
    simp only [Array.length_toList] at e
    omega
theorem Inv.tuple (I : Inv X pins σ H s) (h : SqT X.K H a xs) : ∃ its : List Value, Vals xs its ∧ IsTup s.heap a its.toArray ∧ xs.length ≤ sizeLine := by
  rcases h with h | ⟨o, its, n, hk, hc, hs, hz, r⟩
  · obtain ⟨z, its, r, p⟩ := h.ok I.hok
    exact ⟨its, r, p, z⟩
  · refine ⟨its.toList, r, ⟨o, I.kIn a o hk, hc, n, by simpa using hs⟩, ?_⟩
    have e := r.length
    simp only [Array.length_toList] at e
    omega
theorem Inv.list_inj (I : Inv X pins σ H s) (h : SqL X.K H a xs) (h' : SqL X.K H a ys) : xs = ys := by
  obtain ⟨its, r, ⟨o, n, e, _, _, d⟩, _⟩ := I.list h
  obtain ⟨its', r', ⟨o', n', e', _, _, d'⟩, _⟩ := I.list h'
  rw [e] at e'; cases e'
  rw [d] at d'
  injection d' with d1 _
  have : its = its' := by simpa using congrArg Array.toList d1
  subst this
  exact r.inj r'
theorem Inv.tuple_inj (I : Inv X pins σ H s) (h : SqT X.K H a xs) (h' : SqT X.K H a ys) : xs = ys := by
  obtain ⟨its, r, ⟨o, e, _, n, d⟩, _⟩ := I.tuple h
  obtain ⟨its', r', ⟨o', e', _, n', d'⟩, _⟩ := I.tuple h'
  rw [e] at e'; cases e'
  rw [d] at d'
  injection d' with d1 _
  have : its = its' := by simpa using congrArg Array.toList d1
  subst this
  exact r.inj r'
end
abbrev Cx.wish (X : Cx) (E : Value → Shared → Prop) : Cx := { X with xe := E }
abbrev Cx.nox (X : Cx) : Cx := X.wish fun _ _ => False
theorem Cx.Ok.wish {X : Cx} (ok : X.Ok) (E : Value → Shared → Prop) : (X.wish E).Ok :=
  ⟨ok.mod, ok.kind, ok.glob, ok.blt, ok.above, ok.inj, ok.has, ok.cab, ok.hd, ok.frames, ok.stk, ok.exf, ok.bs, ok.bsz, ok.noex, ok.exfs, ok.funs, ok.frf⟩
theorem Cx.Ok.unwish {X : Cx} {E : Value → Shared → Prop} (ok : (X.wish E).Ok) : X.Ok :=
  ⟨ok.mod, ok.kind, ok.glob, ok.blt, ok.above, ok.inj, ok.has, ok.cab, ok.hd, ok.frames, ok.stk, ok.exf, ok.bs, ok.bsz, ok.noex, ok.exfs, ok.funs, ok.frf⟩
section
variable {X : Cx} {pins : List (Addr × Obj)} {σ : St} {H : Hp} {s : Shared} {E : Value → Shared → Prop}
theorem Inv.wish (I : Inv X pins σ H s) (E : Value → Shared → Prop) : Inv (X.wish E) pins σ H s := ⟨I.ok.wish E, I.os, I.bare, I.base, I.loc, I.cell, I.free, I.freeC, I.pin, I.hok, I.len⟩
theorem Inv.unwish (I : Inv (X.wish E) pins σ H s) : Inv X pins σ H s := ⟨I.ok.unwish, I.os, I.bare, I.base, I.loc, I.cell, I.free, I.freeC, I.pin, I.hok, I.len⟩
theorem SP.unwish {D : Ends} {f : Flow} {s' : Shared} (h : SP (X.wish E) pins D f s') : SP X pins D f s' := by
  cases f with
  | next => obtain ⟨σ', H', I, q⟩ := h; exact ⟨σ', H', I.unwish, q⟩
  | brk => obtain ⟨σ', H', I, q⟩ := h; exact ⟨σ', H', I.unwish, q⟩
  | cont => obtain ⟨σ', H', I, q⟩ := h; exact ⟨σ', H', I.unwish, q⟩
  | ret u => obtain ⟨v, σ', H', I, r, q⟩ := h; exact ⟨v, σ', H', I.unwish, r, q⟩
theorem PE.nox {e : Expr} {t : TE} (h : PE X.nox e t) : PE X e t := fun pins s σ H Q I hw =>
  wpAny_mono (h pins s σ H Q (I.wish _) hw) (fun _ _ ⟨v, H', I', r, q⟩ => ⟨v, H', I'.unwish, r, q⟩) fun _ _ z => False.elim z
theorem PT.nox {e : Expr} {t : TT} (h : PT X.nox e t) : PT X e t := fun pins s σ H Q I hw =>
  wpAny_mono (h pins s σ H Q (I.wish _) hw) (fun _ _ ⟨H', I', q⟩ => ⟨H', I'.unwish, q⟩) fun _ _ z => False.elim z
theorem PSs.nox {st : List Stmt} {t : TS} (h : PSs X.nox st t) : PSs X st t := fun pins s σ H D I hw =>
  wpAny_mono (h pins s σ H D (I.wish _) hw) (fun _ _ q => q.unwish) fun _ _ z => False.elim z
end
section
variable {X : Cx} {st : Stmt} {rest : List Stmt} {t u : TS} {e : Expr} {te : TE} {pos : Pos}
def tNext : TS := fun D σ H => D.nx σ H
def tSeq (t u : TS) : TS := fun D σ H => t { D with nx := u D } σ H
theorem pss_nil : PSs X [] tNext := fun _ _ σ H _ I h => wpAny_execs_nil ⟨σ, H, I, h⟩
theorem pss_cons (h1 : PS X st t) (h2 : PSs X rest u) : PSs X (st :: rest) (tSeq t u) := by
  intro pins s σ H D I h
  refine wpAny_execs_cons (thn (h1 pins s σ H { D with nx := u D } I h) fun f s1 q => ?_)
  cases f with
  | next =>
    obtain ⟨σ', H', I', q⟩ := q
    exact h2 pins s1 σ' H' D I' q
  | ret v => exact q
  | brk => exact q
  | cont => exact q
theorem Inv.quiet {pins : List (Addr × Obj)} {σ : St} {H : Hp} {s : Shared} (I : Inv X pins σ H s) : interactive X.env = false := by simp [interactive, I.ok.kind]
def tDrop (te : TE) : TS := fun D σ H => te σ H fun _ H1 => D.nx σ H1
theorem ps_expr (he : PE X e te) (hs : swapsWith e none pos.line X.env = pure false := by rfl) : PS X (.Expr e pos) (tDrop te) := by
  intro pins s σ H D I h
  exact wpAny_Expr_any (thn (he pins s σ H _ I h) fun v s1 ⟨x, H1, I1, r1, q1⟩ => ⟨σ, H1, I1, q1⟩) I.quiet hs
def tRet (te : TE) : TS := fun D σ H => te σ H D.rt
theorem ps_ret (he : PE X e te) : PS X (.Return (some e) pos) (tRet te) := by
  intro pins s σ H D I h
  exact wpAny_Return_some (thn (he pins s σ H _ I h) fun v s1 ⟨x, H1, I1, r1, q1⟩ => ⟨x, σ, H1, I1, r1, q1⟩)
def tIfS (c : TT) (t u : TS) : TS := fun D σ H => c σ H fun b H1 => if b = true then t D σ H1 else u D σ H1
theorem ps_if {c : Expr} {a b : List Stmt} {tc : TT} (hc : PT X c tc) (ha : PSs X a t) (hb : PSs X b u) : PS X (.If c a b pos) (tIfS tc t u) := by
  intro pins s σ H D I h
  refine wpAny_If (thn (hc pins s σ H _ I h) fun d s1 ⟨H1, I1, q1⟩ => ?_)
  cases d with
  | true => exact ha pins s1 σ H1 D I1 q1
  | false => exact hb pins s1 σ H1 D I1 q1
end
abbrev TG := V → St → Hp → (St → Hp → Prop) → Prop
abbrev TGs := List V → St → Hp → (St → Hp → Prop) → Prop
def PG (X : Cx) (target : Expr) (t : TG) : Prop :=
  ∀ (pins : List (Addr × Obj)) (s : Shared) (σ : St) (H : Hp) (v : V) (u : Value) (Q : St → Hp → Prop), Inv X pins σ H s → RelV v u → t v σ H Q →
    wpAny (model X.prog X.w) X.A (assign target X.env u) (fun _ s' => ∃ σ' H', Inv X pins σ' H' s' ∧ Q σ' H') X.xe s
def PGs (X : Cx) (ts : List Expr) (t : TGs) : Prop :=
  ∀ (pins : List (Addr × Obj)) (s : Shared) (σ : St) (H : Hp) (vs : List V) (us : List Value) (Q : St → Hp → Prop), Inv X pins σ H s → Vals vs us → t vs σ H Q →
    wpAny (model X.prog X.w) X.A (assignInOrder ((assignEach ts X.env).map (·.2)) us) (fun _ s' => ∃ σ' H', Inv X pins σ' H' s' ∧ Q σ' H') X.xe s
section
variable {X : Cx} {pos : Pos}
def gName (i : Nat) : TG := fun v σ H Q => Q (σ.set i (some v)) H
theorem pg_name {i : Nat} {x : Str} (hN : X.N.Nodup) (hi : X.N[i]? = some x) (hx : Loc X.env.scope x) (hf : X.fn x = true ∨ X.env.scope.names.lookup x = some .local := by first | exact .inl rfl | exact .inr rfl | assumption) : PG X (.Name x pos) (gName i) := by
  intro pins s σ H v u Q I r h
  exact wpAny_assign_Name (store_ok I hN hi hx r (fun s' I' => ⟨_, H, I', h⟩) hf)
def gNil : TGs := fun vs σ H Q => vs = [] ∧ Q σ H
def gCons (t : TG) (u : TGs) : TGs := fun vs σ H Q => ∃ v r, vs = v :: r ∧ t v σ H fun σ' H' => u r σ' H' Q
theorem pgs_nil : PGs X [] gNil := by
  intro pins s σ H vs us Q I r h
  obtain ⟨e, h⟩ := h
  subst e
  cases r
  exact assignInOrder_nil ⟨σ, H, I, h⟩
theorem pgs_cons {e : Expr} {es : List Expr} {t : TG} {u : TGs} (h1 : PG X e t) (h2 : PGs X es u)
    (hs : (assignEach (e :: es) X.env).map (·.2) = assign e X.env :: (assignEach es X.env).map (·.2) := by rfl) : PGs X (e :: es) (gCons t u) := by
  intro pins s σ H vs us Q I r h
  obtain ⟨v, vr, e1, h⟩ := h
  subst e1
  cases r with
  | cons r rr =>
    rw [hs]
    refine assignInOrder_cons (thn (h1 pins s σ H _ _ _ I r h) fun _ s1 ⟨σ1, H1, I1, q1⟩ => ?_)
    exact h2 pins s1 σ1 H1 _ _ Q I1 rr q1
def gTup (K : PySem.W.Frag) (n : Nat) (t : TGs) : TG := fun v σ H Q => ∃ a xs, v = .ref a ∧ SqT K H a xs ∧ xs.length = n ∧ t xs σ H Q
theorem pg_tup {es : List Expr} {k : Nat} {t : TGs} {n : Nat} (hc : X.calm = true) (h : PGs X es t)
    (hn : (assignEach es X.env).length = n := by rfl) (hst : (assignEach es X.env).findIdx? (·.1) = none := by rfl) : PG X (.Tuple es k pos) (gTup X.K n t) := by
  intro pins s σ H v u Q I r hw
  obtain ⟨a, xs, e1, hq, hl, hw⟩ := hw
  subst e1
  cases r
  obtain ⟨its, rv, ht, hz⟩ := I.tuple hq
  refine assign_Tuple_tuple (I.ok.hd hc) ht (by simp [hn, ← hl, rv.length]) hst fun h' hx => ?_
  have I1 : Inv X pins σ H { s with heap := h' } := I.kept (t' := s.toks) fun b o e => hx b o (Nat.ne_of_lt (Heap.lt_size e)) e
  exact h pins _ σ H xs _ Q I1 (by simpa using rv) hw
def tAsg (te : TE) (g : TG) : TS := fun D σ H => te σ H fun x H1 => g x σ H1 D.nx
theorem ps_asg {tg e : Expr} {te : TE} {g : TG} (he : PE X e te) (hg : PG X tg g) (hs : swapsWithSole [tg] e pos.line X.env = pure false := by rfl) (hw : swappedStores [tg] e X.env = pure none := by rfl)
    (h1 : (assignEach [tg] X.env).map (·.2) = [assign tg X.env] := by rfl) : PS X (.Assign [tg] e pos) (tAsg te g) := by
  intro pins s σ H D I h
  refine wpAny_Assign_stores (thn (he pins s σ H _ I h) fun v s1 ⟨x, H1, I1, r1, q1⟩ => ?_) hs hw
  rw [h1]
  exact thn (hg pins s1 σ H1 x v _ I1 r1 q1) fun _ s2 q => q
theorem ps_set {i : Nat} {x : Str} {e : Expr} {te : TE} {pos' : Pos} (hN : X.N.Nodup) (hi : X.N[i]? = some x) (hx : Loc X.env.scope x) (he : PE X e te) (hs : swapsWith e (some (.Name x pos')) pos.line X.env = pure false := by rfl) (hf : X.fn x = true ∨ X.env.scope.names.lookup x = some .local := by first | exact .inl rfl | exact .inr rfl | assumption) :
    PS X (.Assign [.Name x pos'] e pos) (tAsg te (gName i)) := by
  intro pins s σ H D I h
  refine wpAny_Assign_Name (thn (he pins s σ H _ I h) fun v s1 ⟨y, H1, I1, r1, q1⟩ => ?_) hs
  exact store_ok I1 hN hi hx r1 (fun s2 I2 => ⟨_, H1, I2, q1⟩) hf
end
section
variable {X : Cx} {pos : Pos}
def tWhile (c : TT) (tb : TS) : TS := fun D σ H => ∃ W : Nat → St → Hp → Prop, (∃ m, W m σ H) ∧ ∀ m σ H, W m σ H →
  c σ H fun b H1 => if b = true then ∃ N : St → Hp → Prop, (∀ σ' H', N σ' H' → ∃ m', m' < m ∧ W m' σ' H') ∧ tb { D with nx := N, ct := N, bk := D.nx } σ H1 else D.nx σ H1
theorem ps_while {c : Expr} {body : List Stmt} {tc : TT} {tb : TS} (hp : PassesOwn (model X.prog X.w) X.A X.env X.xe) (hc : PT X c tc) (hb : PSs X body tb) : PS X (.While c body [] pos) (tWhile tc tb) := by
  intro pins s σ H D I h
  obtain ⟨W, ⟨m0, w0⟩, turn⟩ := h
  refine wpAny_While (codeAny_whileLoop (fun n s' => ∃ σ' H', Inv X pins σ' H' s' ∧ W n σ' H') ?_ m0 ⟨σ, H, I, w0⟩)
  rintro n s1 ⟨σ1, H1, I1, w1⟩
  refine wpAny_passesOwn hp (thn (hc pins s1 σ1 H1 _ I1 (turn n σ1 H1 w1)) fun b s2 ⟨H2, I2, q2⟩ => ?_)
  cases b with
  | true =>
    obtain ⟨N, hN, q2⟩ := q2
    rw [if_pos rfl]
    refine wpAny_passesOwn hp (thn (hb pins s2 σ1 H2 _ I2 q2) fun f s3 q3 => ?_)
    cases f with
    | next =>
      obtain ⟨σ3, H3, I3, n3⟩ := q3
      obtain ⟨m', hm, w3⟩ := hN σ3 H3 n3
      exact ⟨m', hm, σ3, H3, I3, w3⟩
    | cont =>
      obtain ⟨σ3, H3, I3, n3⟩ := q3
      obtain ⟨m', hm, w3⟩ := hN σ3 H3 n3
      exact ⟨m', hm, σ3, H3, I3, w3⟩
    | brk => exact q3
    | ret v => exact q3
  | false =>
    rw [if_neg Bool.false_ne_true]
    exact wpAny_execs_nil ⟨σ1, H2, I2, q2⟩
end
structure It where
  go : Nat → Hp → Prop
  yld : Nat → Hp → V → Hp → Prop
  stop : Nat → Hp → Prop
def FpOk (X : Cx) (pins : List (Addr × Obj)) (H : Hp) (b : Addr) : Prop :=
  H b = none ∧ b ≠ X.env.locals ∧ b ∉ X.fs ∧ (b ∈ X.ex ∨ X.s₀.heap.objs.size ≤ b) ∧ (∀ x c, X.env.cells.lookup x = some c → c ≠ b) ∧ ∀ p ∈ X.pn ++ pins, p.1 ≠ b
theorem Inv.fpOk {X : Cx} {pins : List (Addr × Obj)} {σ : St} {H H' : Hp} {s : Shared} {b : Addr} (I : Inv X pins σ H s) (hb : s.heap.objs.size ≤ b) (hn : H' b = none) : FpOk X pins H' b := by
  refine ⟨hn, Nat.ne_of_gt (Nat.lt_of_lt_of_le I.lt hb), I.nofs hb, .inr (Nat.le_trans I.sz hb), fun x c e z => ?_, fun p hp z => ?_⟩
  · obtain ⟨v, q⟩ := I.cell x c e
    exact absurd (Nat.lt_of_lt_of_le q.lt (by rw [z]; exact hb)) (Nat.lt_irrefl _)
  · exact absurd (Nat.lt_of_lt_of_le (Heap.lt_size (I.pin p hp).1) (by rw [z]; exact hb)) (Nat.lt_irrefl _)
structure Turn (P : Program) (w : World) (K : PySem.W.Frag) (tg : Expr) (J : It) (fp : List Addr) (it : Addr) (tn : Nat → Heap → Prop) : Prop where
  mem : it ∈ fp
  obj : ∀ i h, tn i h → ∀ b ∈ fp, ∃ o, h.get? b = some o ∧ ∀ v, o.data ≠ .cell v
  keep : ∀ i h h', tn i h → (∀ b ∈ fp, ∀ o, h.get? b = some o → h'.get? b = some o) → tn i h'
  item : ∀ (X : Cx), X.prog = P → X.w = w → X.K = K → X.calm = true → ∀ (i : Nat) (pins : List (Addr × Obj)) (s : Shared) (σ : St) (H : Hp) (E : Value → Shared → Prop), Inv X pins σ H s → (∀ b ∈ fp, FpOk X pins H b) → tn i s.heap → J.go i H →
    wpAny (model P w) X.A (pyNext (.ref it)) (fun r s1 => ∃ u, r = some u ∧
      wpAny (model P w) X.A (letOwnedTupleGo tg (.ref it) u) (fun _ s2 => ∃ x H', Inv X pins σ H' s2 ∧ RelV x u ∧ J.yld i H x H' ∧ tn (i + 1) s2.heap ∧ ∀ b ∈ fp, H' b = none) E s1) E s
  done : ∀ (X : Cx), X.prog = P → X.w = w → X.K = K → X.calm = true → ∀ (i : Nat) (pins : List (Addr × Obj)) (s : Shared) (σ : St) (H : Hp) (E : Value → Shared → Prop), Inv X pins σ H s → (∀ b ∈ fp, FpOk X pins H b) → tn i s.heap → J.stop i H →
    wpAny (model P w) X.A (pyNext (.ref it)) (fun r s1 => r = none ∧ Inv X pins σ H s1) E s
  self : ∀ (A : Around) (i : Nat) (s : Shared) (Q : Value → Shared → Prop) (E : Value → Shared → Prop), tn i s.heap → Q (.ref it) s → wpAny (model P w) A (pyIter (.ref it)) Q E s
abbrev TI := St → Hp → (It → Hp → Prop) → Prop
def PIE (X : Cx) (pins : List (Addr × Obj)) (σ : St) (tg : Expr) (R : It → Hp → Prop) (itv : Value) (s2 : Shared) : Prop :=
  ∃ (it : Addr) (fp : List Addr) (tn : Nat → Heap → Prop) (J : It) (H' : Hp), itv = .ref it ∧ Inv X pins σ H' s2 ∧ Turn X.prog X.w X.K tg J fp it tn ∧ tn 0 s2.heap ∧ (∀ b ∈ fp, FpOk X pins H' b) ∧ R J H'
def PI (X : Cx) (tg iter : Expr) (wi : TI) : Prop :=
  ∀ (pins : List (Addr × Obj)) (s : Shared) (σ : St) (H : Hp) (R : It → Hp → Prop), Inv X pins σ H s → wi σ H R →
    wpAny (model X.prog X.w) X.A (eval iter X.env) (fun v s1 => wpAny (model X.prog X.w) X.A (pyIter v) (PIE X pins σ tg R) X.xe s1) X.xe s
theorem go_of {M : Model} {A : Around} {E : Value → Shared → Prop} {s : Shared} {tg : Expr} {it : Addr} {u : Value} {o : Obj} {n : String} {vs : Array Value} {Q : Unit → Shared → Prop} (ho : s.heap.get? it = some o) (hc : o.cls = .type n) (hd : o.data = .fields vs)
    (hn : ["enumerate", "zip", "dict_itemiterator", "dict_reverseitemiterator", "odict_iterator", "itertools.zip_longest", "itertools.pairwise"].contains n = false) (hQ : Q () s) : wpAny M A (letOwnedTupleGo tg (.ref it) u) Q E s := by
  unfold letOwnedTupleGo
  cases tg <;> first
    | exact wpAny_pure hQ
    | (cases u <;> first
        | exact wpAny_pure hQ
        | (refine wpAny_bind (wpAny_load ho ?_)
           rw [hc, hd]
           show wpAny M A (if (["enumerate", "zip", "dict_itemiterator", "dict_reverseitemiterator", "odict_iterator", "itertools.zip_longest", "itertools.pairwise"].contains n && vs[0]? == some (rawInt _)) = true then _ else _) Q E s
           rw [if_neg (by intro h; rw [hn, Bool.false_and] at h; cases h)]
           exact wpAny_pure hQ))
def Itl (K : PySem.W.Frag) (a : Addr) : It :=
  ⟨fun i H => ∃ xs x, SqL K H a xs ∧ xs[i]? = some x, fun i H x H' => H' = H ∧ ∀ xs, SqL K H a xs → xs[i]? = some x, fun i H => ∃ xs, SqL K H a xs ∧ xs.length ≤ i⟩
def Itt (K : PySem.W.Frag) (a : Addr) : It :=
  ⟨fun i H => ∃ xs x, SqT K H a xs ∧ xs[i]? = some x, fun i H x H' => H' = H ∧ ∀ xs, SqT K H a xs → xs[i]? = some x, fun i H => ∃ xs, SqT K H a xs ∧ xs.length ≤ i⟩
def Itr (lo : Int) (n : Nat) : It := ⟨fun i _ => i < n, fun i H x H' => H' = H ∧ x = .int (lo + i), fun i _ => n ≤ i⟩
theorem turn_list {P : Program} {w : World} {K : PySem.W.Frag} {tg : Expr} (a it : Addr) : Turn P w K tg (Itl K a) [it] it (fun i h => h.IsListIter it a i) where
  mem := by simp
  obj := fun i h st b hb => by
    have e : b = it := by simpa using hb
    subst e
    obtain ⟨o, e, c, d⟩ := st
    exact ⟨o, e, fun v z => by rw [d] at z; cases z⟩
  keep := fun i h h' st k => st.at fun o e => k it (by simp) o e
  item := by
    intro X hP hw hK hc i pins s σ H E I hf st hg
    subst hP hw hK
    obtain ⟨xs, x, hq, hx⟩ := hg
    obtain ⟨its, rv, p, hz⟩ := I.list hq
    obtain ⟨u, hu, ru⟩ := rv.get hx
    obtain ⟨f0, f1, f2, f3, f4, f5⟩ := hf it (by simp)
    refine wpAny_pyNext_list_item st p.isList (x := u) (by simpa using hu) fun h' st' sb => ?_
    have I1 : Inv X pins σ H { s with heap := h' } := I.turned (t' := s.toks) (fun b o hb e => (sb.2 b hb).trans e) f0 f1 f3 f4 f5
    obtain ⟨o, e, c, d⟩ := id st'
    exact ⟨u, rfl, go_of (s := { s with heap := h' }) e c d (by decide) ⟨x, H, I1, ru, ⟨rfl, fun ys hy => by rw [I.list_inj hy hq]; exact hx⟩, st', fun b hb => (hf b hb).1⟩⟩
  done := by
    intro X hP hw hK hc i pins s σ H E I hf st hg
    subst hP hw hK
    obtain ⟨xs, hq, hx⟩ := hg
    obtain ⟨its, rv, p, hz⟩ := I.list hq
    obtain ⟨f0, f1, f2, f3, f4, f5⟩ := hf it (by simp)
    have hl := rv.length
    exact wpAny_pyNext_list_end (I.ok.hd hc) st p.isList (by simp; omega) fun h' eb => ⟨rfl, I.turned (t' := s.toks) (fun b o hb e => eb b o hb e) f0 f1 f3 f4 f5⟩
  self := fun _ _ _ _ _ st h => wpAny_pyIter_listiter st h
theorem turn_tuple {P : Program} {w : World} {K : PySem.W.Frag} {tg : Expr} (a it : Addr) : Turn P w K tg (Itt K a) [it] it (fun i h => h.IsTupleIter it a i) where
  mem := by simp
  obj := fun i h st b hb => by
    have e : b = it := by simpa using hb
    subst e
    obtain ⟨o, e, c, d⟩ := st
    exact ⟨o, e, fun v z => by rw [d] at z; cases z⟩
  keep := fun i h h' st k => st.at fun o e => k it (by simp) o e
  item := by
    intro X hP hw hK hc i pins s σ H E I hf st hg
    subst hP hw hK
    obtain ⟨xs, x, hq, hx⟩ := hg
    obtain ⟨its, rv, p, hz⟩ := I.tuple hq
    obtain ⟨u, hu, ru⟩ := rv.get hx
    obtain ⟨f0, f1, f2, f3, f4, f5⟩ := hf it (by simp)
    refine wpAny_pyNext_tuple_item st (show s.heap.IsTuple a its.toArray from p) (x := u) (by simpa using hu) fun h' st' sb => ?_
    have I1 : Inv X pins σ H { s with heap := h' } := I.turned (t' := s.toks) (fun b o hb e => (sb.2 b hb).trans e) f0 f1 f3 f4 f5
    obtain ⟨o, e, c, d⟩ := id st'
    exact ⟨u, rfl, go_of (s := { s with heap := h' }) e c d (by decide) ⟨x, H, I1, ru, ⟨rfl, fun ys hy => by rw [I.tuple_inj hy hq]; exact hx⟩, st', fun b hb => (hf b hb).1⟩⟩
  done := by
    intro X hP hw hK hc i pins s σ H E I hf st hg
    subst hP hw hK
    obtain ⟨xs, hq, hx⟩ := hg
    obtain ⟨its, rv, p, hz⟩ := I.tuple hq
    obtain ⟨f0, f1, f2, f3, f4, f5⟩ := hf it (by simp)
    have hl := rv.length
    exact wpAny_pyNext_tuple_end (I.ok.hd hc) st (show s.heap.IsTuple a its.toArray from p) (by simp; omega) fun h' eb => ⟨rfl, I.turned (t' := s.toks) (fun b o hb e => eb b o hb e) f0 f1 f3 f4 f5⟩
  self := fun _ _ _ _ _ st h => wpAny_pyIter_tupleiter st h
theorem turn_range {P : Program} {w : World} {K : PySem.W.Frag} {tg : Expr} (it : Addr) (lo : Int) (n : Nat) : Turn P w K tg (Itr lo n) [it] it (fun i h => IsRangeIter h it (lo + (i : Nat) * 1) ((n : Int) - (i : Nat)) 1) where
  mem := by simp
  obj := fun i h st b hb => by
    have e : b = it := by simpa using hb
    subst e
    exact ⟨_, st, fun v z => by
      have z' : Data.fields _ = Data.cell v := z
      cases z'⟩
  keep := fun i h h' st k => k it (by simp) _ st
  item := by
    intro X hP hw hK hc i pins s σ H E I hf st hg
    subst hP hw hK
    obtain ⟨f0, f1, f2, f3, f4, f5⟩ := hf it (by simp)
    have W := Walks.range (prog := X.prog) (w := X.w) (I.ok.hd hc) it lo 1 n
    refine W.item i s _ _ hg st fun v h' tk hv st' kk => ?_
    obtain ⟨t, rfl⟩ := hv
    have I1 : Inv X pins σ H { s with heap := h', toks := tk } := I.turned (fun b o hb e => kk b o (by simpa using hb) e) f0 f1 f3 f4 f5
    refine ⟨_, rfl, go_of (s := { s with heap := h', toks := tk }) (n := "range_iterator") st' rfl rfl (by decide) ⟨.int (lo + i), H, I1, ⟨t, ?_⟩, ⟨rfl, rfl⟩, st', fun b hb => (hf b hb).1⟩⟩
    rw [Int.mul_one]
  done := by
    intro X hP hw hK hc i pins s σ H E I hf st hg
    subst hP hw hK
    obtain ⟨f0, f1, f2, f3, f4, f5⟩ := hf it (by simp)
    exact wpAny_pyNext_range_end (I.ok.hd hc) st (by have : n ≤ i := hg; omega) fun h' eb => ⟨rfl, I.turned (t' := s.toks) (fun b o hb e => eb b o hb e) f0 f1 f3 f4 f5⟩
  self := fun _ _ _ _ _ st h => wpAny_pyIter_rangeiter st h
end L2
namespace L2
open PySem PySem.Spec PyProof.Rows
section
variable {X : Cx} {tg : Expr}
def iList (K : PySem.W.Frag) (tl : TE) : TI := fun σ H R => tl σ H fun x H1 => ∃ a, x = .ref a ∧ (∃ xs, SqL K H1 a xs) ∧ R (Itl K a) H1
def iTup (K : PySem.W.Frag) (tl : TE) : TI := fun σ H R => tl σ H fun x H1 => ∃ a, x = .ref a ∧ (∃ xs, SqT K H1 a xs) ∧ R (Itt K a) H1
theorem pi_list {l : Expr} {tl : TE} (hl : PE X l tl) : PI X tg l (iList X.K tl) := by
  intro pins s σ H R I h
  refine thn (hl pins s σ H _ I h) fun v s1 ⟨x, H1, I1, r1, q1⟩ => ?_
  obtain ⟨a, e, ⟨xs, hq⟩, q⟩ := q1
  subst e
  cases r1
  obtain ⟨its, rv, p, hz⟩ := I1.list hq
  refine wpAny_pyIter_list p.isList ?_
  refine ⟨s1.heap.objs.size, [s1.heap.objs.size], _, _, H1, rfl, I1.kept (t' := s1.toks) fun b o e => Heap.get?_push_of_some _ e, turn_list a _, ⟨_, Heap.get?_push_size _ rfl, rfl, rfl⟩, fun b hb => ?_, q⟩
  have e : b = s1.heap.objs.size := by simpa using hb
  subst e
  exact I1.fpOk (Nat.le_refl _) (I1.hok.fresh (Nat.le_refl _))
theorem pi_tup {l : Expr} {tl : TE} (hl : PE X l tl) : PI X tg l (iTup X.K tl) := by
  intro pins s σ H R I h
  refine thn (hl pins s σ H _ I h) fun v s1 ⟨x, H1, I1, r1, q1⟩ => ?_
  obtain ⟨a, e, ⟨xs, hq⟩, q⟩ := q1
  subst e
  cases r1
  obtain ⟨its, rv, p, hz⟩ := I1.tuple hq
  refine wpAny_pyIter_tuple (show s1.heap.IsTuple a its.toArray from p) ?_
  refine ⟨s1.heap.objs.size, [s1.heap.objs.size], _, _, H1, rfl, I1.kept (t' := s1.toks) fun b o e => Heap.get?_push_of_some _ e, turn_tuple a _, ⟨_, Heap.get?_push_size _ rfl, rfl, rfl⟩, fun b hb => ?_, q⟩
  have e : b = s1.heap.objs.size := by simpa using hb
  subst e
  exact I1.fpOk (Nat.le_refl _) (I1.hok.fresh (Nat.le_refl _))
theorem range_it {pins : List (Addr × Obj)} {σ : St} {H : Hp} {s : Shared} {R : It → Hp → Prop} {E : Value → Shared → Prop} {lo hi : Int} {t u v : Tok} {tk : Nat} (I : Inv X pins σ H s) (h1 : -(2 ^ 62) ≤ lo) (h2 : lo < 2 ^ 62) (h3 : -(2 ^ 62) ≤ hi) (h4 : hi < 2 ^ 62)
    (q : R (Itr lo (hi - lo).toNat) H) : wpAny (model X.prog X.w) X.A (pyIter (.ref s.heap.objs.size)) (PIE X pins σ tg R) E { s with heap := s.heap.push { cls := .type "range", data := .fields #[.int lo t, .int hi u, .int 1 v] }, toks := tk } := by
  refine wpAny_pyIter_range (IsRange.new ..) (small_one h1 h2 h3 h4) ?_
  have I1 : Inv X pins σ H { s with heap := s.heap.push { cls := .type "range", data := .fields #[.int lo t, .int hi u, .int 1 v] }, toks := tk } := I.kept fun b o e => Heap.get?_push_of_some _ e
  refine ⟨(s.heap.push { cls := .type "range", data := .fields #[.int lo t, .int hi u, .int 1 v] }).objs.size, [(s.heap.push { cls := .type "range", data := .fields #[.int lo t, .int hi u, .int 1 v] }).objs.size], _, _, H, rfl,
    I1.kept (t' := tk) fun b o e => Heap.get?_push_of_some _ e, turn_range _ lo (hi - lo).toNat, ?_, fun b hb => ?_, q⟩
  · have e1 : lo + ((0 : Nat) : Int) * 1 = lo := by simp
    have e2 : (((hi - lo).toNat : Nat) : Int) - ((0 : Nat) : Int) = Builtin.Range.rangeSize lo hi 1 := by rw [rangeSize_one]; split <;> omega
    show IsRangeIter _ _ (lo + ((0 : Nat) : Int) * 1) ((((hi - lo).toNat : Nat) : Int) - ((0 : Nat) : Int)) 1
    rw [e1, e2]
    exact Heap.get?_push_size _ rfl
  · have e : b = (s.heap.push { cls := .type "range", data := .fields #[.int lo t, .int hi u, .int 1 v] }).objs.size := by simpa using hb
    subst e
    exact I1.fpOk (Nat.le_refl _) (I1.hok.fresh (Nat.le_refl _))
def iRng1 (ta : TA) : TI := fun σ H R => ta σ H fun vs H1 => ∃ j : Int, vs = [.int j] ∧ -(2 ^ 62) ≤ j ∧ j < 2 ^ 62 ∧ R (Itr 0 j.toNat) H1
theorem pi_range1 {a : Expr} {ta : TA} {p pos : Pos} (hg : Gl X "range") (hm : X.mg "range" = none) (ha : PA X [a] ta) (hs : starEach [a] X.env = [(false, eval a X.env)] := by rfl) : PI X tg (.Call (.Name "range" p) [a] [] pos) (iRng1 ta) := by
  intro pins s σ H R I h
  refine Call_ (ld_blt I hg hm boot_range (PyProof.Rows.callWith_type1 (thn (ha pos pins s σ H _ I h) fun us s1 ⟨vs, H1, I1, r1, q1⟩ => ?_) hs rfl))
  obtain ⟨j, e, q1, q2, q⟩ := q1
  subst e
  cases r1 with
  | cons r rr =>
    cases rr
    obtain ⟨t, rfl⟩ := r
    exact call_range_1 (range_it I1 (by omega) (by omega) q1 q2 (by simpa using q))
def tFor (wi : TI) (g : TG) (tb : TS) : TS := fun D σ H => wi σ H fun J H1 => ∃ W : Nat → Nat → St → Hp → Prop, (∃ m, W 0 m σ H1) ∧ ∀ i m σ H, W i m σ H →
  (J.stop i H ∧ D.nx σ H) ∨ (J.go i H ∧ ∃ N : St → Hp → Prop, (∀ σ' H', N σ' H' → ∃ m', m' < m ∧ W (i + 1) m' σ' H') ∧ ∀ x H', J.yld i H x H' → g x σ H' fun σ2 H2 => tb { D with nx := N, ct := N, bk := D.nx } σ2 H2)
def pinsAt (fp : List Addr) (h : Heap) : List (Addr × Obj) := fp.filterMap fun b => (h.get? b).map fun o => (b, o)
theorem mem_pinsAt {fp : List Addr} {h : Heap} {b : Addr} {o : Obj} (hb : b ∈ fp) (e : h.get? b = some o) : (b, o) ∈ pinsAt fp h := List.mem_filterMap.mpr ⟨b, hb, by rw [e]; rfl⟩
theorem of_pinsAt {fp : List Addr} {h : Heap} {p : Addr × Obj} (hp : p ∈ pinsAt fp h) : p.1 ∈ fp ∧ h.get? p.1 = some p.2 := by
  obtain ⟨b, hb, e⟩ := List.mem_filterMap.mp hp
  cases q : h.get? b with
  | none => rw [q] at e; cases e
  | some o =>
    rw [q] at e
    have e' : (b, o) = p := Option.some.inj e
    subst e'
    exact ⟨hb, q⟩
theorem Inv.pinned {pins : List (Addr × Obj)} {σ : St} {H : Hp} {s : Shared} {fp : List Addr} (I : Inv X pins σ H s) (hf : ∀ b ∈ fp, FpOk X pins H b) (ho : ∀ b ∈ fp, ∃ o, s.heap.get? b = some o ∧ ∀ v, o.data ≠ .cell v) : Inv X (pins ++ pinsAt fp s.heap) σ H s :=
  I.pins_of fun p hp => (List.mem_append.mp hp).elim (fun z => I.pin p (List.mem_append_right _ z)) fun z => by
    obtain ⟨hb, e⟩ := of_pinsAt z
    obtain ⟨f0, f1, f2, _⟩ := hf p.1 hb
    obtain ⟨o, e', d⟩ := ho p.1 hb
    rw [e] at e'; cases e'
    exact ⟨e, f0, f1, f2, d⟩
theorem Inv.unpinned {pins pl : List (Addr × Obj)} {σ : St} {H : Hp} {s : Shared} (I : Inv X (pins ++ pl) σ H s) : Inv X pins σ H s := I.pins_of fun p hp => I.pin p (List.mem_append_right _ (List.mem_append_left _ hp))
theorem ps_for {iter : Expr} {body : List Stmt} {wi : TI} {g : TG} {tb : TS} {pos : Pos} (hp : PassesOwn (model X.prog X.w) X.A X.env X.xe) (hc : X.calm = true) (hi : PI X tg iter wi) (hg : PG X tg g) (hb : PSs X body tb)
    (hs : ∀ x, foldedSetIterable iter X.env x = pure x := by intro _; rfl) : PS X (.For tg iter body [] pos) (tFor wi g tb) := by
  intro pins s σ H D I h
  refine wpAny_For (thn (hi pins s σ H _ I h) fun v s1 h1 => thn h1 fun itv s2 h2 => ?_) hs
  obtain ⟨it, fp, tn, J, H2, e, I2, T, st2, f2, W, ⟨m0, w0⟩, turn⟩ := h2
  subst e
  -- what stays true of the iterator's objects through the loop
  have stat : ∀ {H' : Hp}, (∀ b ∈ fp, H' b = none) → ∀ b ∈ fp, FpOk X pins H' b := fun hn b hb => ⟨hn b hb, (f2 b hb).2⟩
  refine codeAny_forLoop_any (fun n s' => ∃ i σ' H', Inv X pins σ' H' s' ∧ tn i s'.heap ∧ (∀ b ∈ fp, H' b = none) ∧ W i n σ' H') ?_ m0 ⟨0, σ, H2, I2, st2, fun b hb => (f2 b hb).1, w0⟩
  rintro n s3 ⟨i, σ3, H3, I3, st3, fr3, w3⟩
  rcases turn i n σ3 H3 w3 with ⟨stop, qn⟩ | ⟨go, N, hN, step⟩
  · refine wpAny_passesOwn hp (thn (T.done X rfl rfl rfl hc i pins s3 σ3 H3 X.xe I3 (stat fr3) st3 stop) fun r s4 ⟨hr, I4⟩ => ?_)
    subst hr
    exact wpAny_execs_nil ⟨σ3, H3, I4, qn⟩
  · refine wpAny_passesOwn hp (thn (T.item X rfl rfl rfl hc i pins s3 σ3 H3 X.xe I3 (stat fr3) st3 go) fun r s4 ⟨u, hr, h4⟩ => ?_)
    subst hr
    refine wpAny_passesOwn hp (thn h4 fun _ s5 ⟨x, H5, I5, r5, y5, st5, fr5⟩ => ?_)
    have I5' := I5.pinned (stat fr5) (T.obj _ _ st5)
    refine wpAny_passesOwn hp (thn (hg _ s5 σ3 H5 x u _ I5' r5 (step x H5 y5)) fun _ s6 ⟨σ6, H6, I6, q6⟩ => ?_)
    refine wpAny_passesOwn hp (thn (hb _ s6 σ6 H6 _ I6 q6) fun f s7 q7 => ?_)
    have again : ∀ {σ7 : St} {H7 : Hp}, Inv X (pins ++ pinsAt fp s5.heap) σ7 H7 s7 → N σ7 H7 → ∃ m, m < n ∧ ∃ i σ' H', Inv X pins σ' H' s7 ∧ tn i s7.heap ∧ (∀ b ∈ fp, H' b = none) ∧ W i m σ' H' := fun {σ7 H7} I7 n7 => by
      obtain ⟨m', hm, w7⟩ := hN σ7 H7 n7
      refine ⟨m', hm, i + 1, σ7, H7, I7.unpinned, T.keep _ _ _ st5 fun b hb o e => (I7.pin (b, o) (List.mem_append_right _ (List.mem_append_right _ (mem_pinsAt hb e)))).1, fun b hb => ?_, w7⟩
      obtain ⟨o, e, d⟩ := T.obj _ _ st5 b hb
      exact (I7.pin (b, o) (List.mem_append_right _ (List.mem_append_right _ (mem_pinsAt hb e)))).2.1
    cases f with
    | next => obtain ⟨σ7, H7, I7, n7⟩ := q7; exact again I7 n7
    | cont => obtain ⟨σ7, H7, I7, n7⟩ := q7; exact again I7 n7
    | brk => obtain ⟨σ7, H7, I7, q7⟩ := q7; exact ⟨σ7, H7, I7.unpinned, q7⟩
    | ret v => obtain ⟨x7, σ7, H7, I7, r7, q7⟩ := q7; exact ⟨x7, σ7, H7, I7.unpinned, r7, q7⟩
end
end L2
namespace L2
open PySem PySem.Spec PyProof.Rows
abbrev R2 := V → V → Hp → VK → Prop
def OpR (X : Cx) (f : Value → Value → Sem Value) (r : R2) : Prop :=
  ∀ (pins : List (Addr × Obj)) (s : Shared) (σ : St) (H : Hp) (x y : V) (v u : Value) (Q : VK), Inv X pins σ H s → RelV x v → RelV y u → r x y H Q →
    wpAny (model X.prog X.w) X.A (f v u) (EP X pins σ Q) X.xe s
def CallR (X : Cx) (f : Value) (r : List V → Hp → VK → Prop) : Prop :=
  ∀ (pins : List (Addr × Obj)) (s : Shared) (σ : St) (H : Hp) (xs : List V) (us : List Value) (Q : VK), Inv X pins σ H s → Vals xs us → r xs H Q →
    wpAny (model X.prog X.w) X.A (call f us) (EP X pins σ Q) X.xe s
def TruR (X : Cx) (r : V → Hp → (Bool → Hp → Prop) → Prop) : Prop :=
  ∀ (pins : List (Addr × Obj)) (s : Shared) (σ : St) (H : Hp) (x : V) (v : Value) (Q : Bool → Hp → Prop), Inv X pins σ H s → RelV x v → r x H Q →
    wpAny (model X.prog X.w) X.A (truthy v) (TP X pins σ Q) X.xe s
def tOp (r : R2) (ta tb : TE) : TE := fun σ H Q => ta σ H fun x H1 => tb σ H1 fun y H2 => r x y H2 Q
def rI (C : Int → Int → Prop) (g : Int → Int → V) : R2 := fun x y H Q => ∃ i j, x = .int i ∧ y = .int j ∧ C i j ∧ Q (g i j) H
def rI0 (g : Int → Int → V) : R2 := fun x y H Q => ∃ i j, x = .int i ∧ y = .int j ∧ Q (g i j) H
section
variable {X : Cx} {a b c : Expr} {ta tb tc : TE} {pos : Pos}
theorem binT (ha : PE X a ta) (hb : PE X b tb) {pins : List (Addr × Obj)} {s : Shared} {σ : St} {H : Hp} {R : V → V → Hp → Prop} (I : Inv X pins σ H s)
    (h : ta σ H fun x H1 => tb σ H1 fun y H2 => R x y H2) {Q : Value → Shared → Prop} {f : Value → Value → Sem Value}
    (hf : ∀ v u s2 x y H2, Inv X pins σ H2 s2 → RelV x v → RelV y u → R x y H2 → wpAny (model X.prog X.w) X.A (f v u) Q X.xe s2) :
    wpAny (model X.prog X.w) X.A (eval a X.env) (fun v s₁ => wpAny (model X.prog X.w) X.A (eval b X.env) (fun u s₂ => wpAny (model X.prog X.w) X.A (f v u) Q X.xe s₂) X.xe s₁) X.xe s := by
  refine thn (ha pins s σ H _ I h) fun v s1 ⟨x, H1, I1, r1, q1⟩ => ?_
  refine thn (hb pins s1 σ H1 _ I1 q1) fun u s2 ⟨y, H2, I2, r2, q2⟩ => ?_
  exact hf v u s2 x y H2 I2 r1 r2 q2
theorem pe_op {op : Operator} {r : R2} (ho : OpR X (binaryOp op) r) (ha : PE X a ta) (hb : PE X b tb) : PE X (.BinOp a op b pos) (tOp r ta tb) := by
  intro pins s σ H Q I h
  exact wpAny_BinOp (binT ha hb I h fun v u s2 x y H2 I2 rx ry q => ho pins s2 σ H2 x y v u Q I2 rx ry q)
theorem opI {f : Value → Value → Sem Value} {C : Int → Int → Prop} {g : Int → Int → Int}
    (rule : ∀ (i j : Int) (t u : Tok) (s : Shared) (Q : Value → Shared → Prop) (E : Value → Shared → Prop), C i j → Q (.int (g i j) s.toks) { s with toks := s.toks + 1 } → wpAny (model X.prog X.w) X.A (f (.int i t) (.int j u)) Q E s) :
    OpR X f (rI C fun i j => .int (g i j)) := by
  intro pins s σ H x y v u Q I rx ry h
  obtain ⟨i, j, rfl, rfl, hc, q⟩ := h
  obtain ⟨t, rfl⟩ := rx
  obtain ⟨t', rfl⟩ := ry
  exact rule i j t t' s _ _ hc ⟨.int (g i j), H, I.tok _, ⟨_, rfl⟩, q⟩
theorem opI0 {f : Value → Value → Sem Value} {g : Int → Int → Int}
    (rule : ∀ (i j : Int) (t u : Tok) (s : Shared) (Q : Value → Shared → Prop) (E : Value → Shared → Prop), Q (.int (g i j) s.toks) { s with toks := s.toks + 1 } → wpAny (model X.prog X.w) X.A (f (.int i t) (.int j u)) Q E s) :
    OpR X f (rI0 fun i j => .int (g i j)) := by
  intro pins s σ H x y v u Q I rx ry h
  obtain ⟨i, j, rfl, rfl, q⟩ := h
  obtain ⟨t, rfl⟩ := rx
  obtain ⟨t', rfl⟩ := ry
  exact rule i j t t' s _ _ ⟨.int (g i j), H, I.tok _, ⟨_, rfl⟩, q⟩
theorem opB0 {f : Value → Value → Sem Value} {g : Int → Int → Bool}
    (rule : ∀ (i j : Int) (t u : Tok) (s : Shared) (Q : Value → Shared → Prop) (E : Value → Shared → Prop), Q (.bool (g i j)) s → wpAny (model X.prog X.w) X.A (f (.int i t) (.int j u)) Q E s) :
    OpR X f (rI0 fun i j => .bl (g i j)) := by
  intro pins s σ H x y v u Q I rx ry h
  obtain ⟨i, j, rfl, rfl, q⟩ := h
  obtain ⟨t, rfl⟩ := rx
  obtain ⟨t', rfl⟩ := ry
  exact rule i j t t' s _ _ ⟨.bl (g i j), H, I, rfl, q⟩
def CDiv (i j : Int) : Prop := 0 < j ∧ j < 1073741824
def CPow (i j : Int) : Prop := 0 ≤ j ∧ j ≤ 1000000 ∧ i.natAbs < 2 ^ 64
def CMul (i j : Int) : Prop := (-(2 ^ 64) < i ∧ i < 2 ^ 64) ∨ (-(2 ^ 64) < j ∧ j < 2 ^ 64)
theorem CMul.ok {i j : Int} (h : CMul i j) : IntMulOk i j := by
  rcases h with ⟨h1, h2⟩ | ⟨h1, h2⟩
  · exact .of_left (intBits_le_64 h1 h2)
  · exact .of_right (intBits_le_64 h1 h2)
theorem op_add : OpR X (binaryOp .Add) (rI0 fun i j => .int (i + j)) := opI0 fun _ _ _ _ _ _ _ q => add_int q
theorem op_sub : OpR X (binaryOp .Sub) (rI0 fun i j => .int (i - j)) := opI0 fun _ _ _ _ _ _ _ q => sub_int q
theorem op_mul : OpR X (binaryOp .Mult) (rI CMul fun i j => .int (i * j)) := opI fun _ _ _ _ _ _ _ hc q => mul_int q hc.ok
theorem op_fdiv : OpR X (binaryOp .FloorDiv) (rI CDiv fun i j => .int (i / j)) := opI fun i j _ _ _ _ _ hc q => by
  have h1 : (0 : Int) < j := hc.1
  have h2 : j < 1073741824 := hc.2
  exact floordiv_int (by omega) (by rw [Int.fdiv_eq_ediv_of_nonneg i (by omega)]; exact q) (.inl (PyProof.noPylong_small (by omega)))
theorem op_mod : OpR X (binaryOp .Mod) (rI (fun _ j => 0 < j) fun i j => .int (i % j)) := opI fun i j _ _ _ _ _ hc q => by
  have h1 : (0 : Int) < j := hc
  exact mod_int' (by omega) (by rw [Int.fmod_eq_emod_of_nonneg i (by omega)]; exact q)
theorem op_pow : OpR X (binaryOp .Pow) (rI CPow fun i j => .int (i ^ j.toNat)) := opI fun _ _ _ _ _ _ _ hc q => pow_int_small hc.1 hc.2.1 hc.2.2 q
end
section
variable {X : Cx} {a b c : Expr} {ta tb tc : TE} {pos : Pos}
theorem fin_bl {pins : List (Addr × Obj)} {σ : St} {H : Hp} {s : Shared} {Q : VK} {k k' : Bool} (I : Inv X pins σ H s) (q : Q (.bl k) H) (e : k = k') : EP X pins σ Q (.bool k') s := by
  subst e
  exact ⟨.bl k, H, I, rfl, q⟩
theorem op_gt : OpR X (compareOp .Gt) (rI0 fun i j => .bl (decide (j < i))) := opB0 fun _ _ _ _ _ _ _ q => gt_int q
theorem op_ge : OpR X (compareOp .GtE) (rI0 fun i j => .bl (decide (j ≤ i))) := opB0 fun _ _ _ _ _ _ _ q => ge_int q
theorem op_in_str : OpR X (compareOp .In) (fun x y H Q => ∃ i j, x = .str i ∧ y = .str j ∧ Q (.bl (!(Builtin.Str.occurrences j i 0 j.length 1).isEmpty)) H) := by
  intro pins s σ H x y v u Q I rx ry h
  obtain ⟨i, j, rfl, rfl, q⟩ := h
  obtain ⟨t, rfl⟩ := rx
  obtain ⟨t', rfl⟩ := ry
  exact in_str (fin_bl I q rfl)
theorem OpR.or {f : Value → Value → Sem Value} {r r' : R2} (h : OpR X f r) (h' : OpR X f r') : OpR X f (fun x y H Q => r x y H Q ∨ r' x y H Q) := by
  intro pins s σ H x y v u Q I rx ry q
  rcases q with q | q
  · exact h pins s σ H x y v u Q I rx ry q
  · exact h' pins s σ H x y v u Q I rx ry q
theorem pe_cmpR {op : CmpOp} {r : R2} (ho : OpR X (compareOp op) r) (ha : PE X a ta) (hb : PE X b tb) (hm : behindInMarks op b = false) : PE X (.Compare a [op] [b] pos) (tOp r ta tb) := by
  intro pins s σ H Q I h
  exact wpAny_Compare1 (binT ha hb I h fun v u s2 x y H2 I2 rx ry q => ho pins s2 σ H2 x y v u Q I2 rx ry q) hm
def tTest (t : TE) : TT := fun σ H Q => t σ H fun x H' => ∃ k, x = .bl k ∧ Q k H'
theorem pt_cmpR {op : CmpOp} {r : R2} (ho : OpR X (compareOp op) r) (ha : PE X a ta) (hb : PE X b tb) (hm : behindInMarks op b = false) : PT X (.Compare a [op] [b] pos) (tTest (tOp r ta tb)) := by
  intro pins s σ H Q I h
  refine wpAny_isTrue_Compare1 (thn (ha pins s σ H _ I h) fun v s1 ⟨x, H1, I1, r1, q1⟩ => thn (hb pins s1 σ H1 _ I1 q1) fun u s2 ⟨y, H2, I2, r2, q2⟩ =>
    thn (ho pins s2 σ H2 x y v u _ I2 r1 r2 q2) fun c s3 ⟨z, H3, I3, r3, k, e, q3⟩ => ?_) hm
  subst e
  cases r3
  exact wpAny_truthy_bool ⟨H3, I3, q3⟩
def TruV (K : PySem.W.Frag) (x : V) (H : Hp) (k : Bool) : Prop :=
  match x with
  | .non => k = false
  | .bl b => k = b
  | .int i => k = (i != 0)
  | .str y => y.length ≤ sizeLine ∧ k = ((y.length : Int) != 0)
  | .byt y => y.size ≤ sizeLine ∧ k = ((y.size : Int) != 0)
  | .ref p => (∃ xs, SqL K H p xs ∧ k = !xs.isEmpty) ∨ (∃ xs, SqT K H p xs ∧ k = !xs.isEmpty) ∨ ∃ kvs, H p = some (.dK kvs) ∧ k = !kvs.isEmpty
  | _ => False
theorem isEmpty_kv {κ : Type} {kvs : List (κ × V)} {vs : List (κ × Value)} (r : KV kvs vs) : (!vs.isEmpty) = !kvs.isEmpty := by
  cases r <;> rfl
theorem isEmpty_of {xs : List V} {its : List Value} (r : Vals xs its) : (!its.toArray.isEmpty) = !xs.isEmpty := by
  cases r <;> simp
theorem line63 : (sizeLine : Nat) < 2 ^ 63 := by rw [sizeLine_eq]; decide
theorem tru_ok : TruR X (fun x H Q => ∃ k, TruV X.K x H k ∧ Q k H) := by
  intro pins s σ H x v Q I rx h
  obtain ⟨k, e, q⟩ := h
  have hl := line63
  have hs : sizeLine = 16777216 := sizeLine_eq
  cases x with
  | non =>
    cases rx
    have e' : k = false := e
    subst e'
    exact truthy_none ⟨H, I, q⟩
  | bl b =>
    cases rx
    have e' : k = b := e
    subst e'
    exact wpAny_truthy_bool ⟨H, I, q⟩
  | int i =>
    obtain ⟨t, rfl⟩ := rx
    have e' : k = (i != 0) := e
    subst e'
    exact PySem.P.truthy_int ⟨H, I, q⟩
  | str y =>
    obtain ⟨t, rfl⟩ := rx
    obtain ⟨hy, e'⟩ : y.length ≤ sizeLine ∧ k = ((y.length : Int) != 0) := e
    subst e'
    exact PySem.P.truthy_str (by omega) ⟨H, I.tok _, q⟩
  | byt y =>
    obtain ⟨t, rfl⟩ := rx
    obtain ⟨hy, e'⟩ : y.size ≤ sizeLine ∧ k = ((y.size : Int) != 0) := e
    subst e'
    exact PySem.W.truthy_bytes (by omega) ⟨H, I.tok _, q⟩
  | ref p =>
    cases rx
    have e' : (∃ xs, SqL X.K H p xs ∧ k = !xs.isEmpty) ∨ (∃ xs, SqT X.K H p xs ∧ k = !xs.isEmpty) ∨ ∃ kvs, H p = some (.dK kvs) ∧ k = !kvs.isEmpty := e
    rcases e' with ⟨xs, hx, e'⟩ | ⟨xs, hx, e'⟩ | ⟨kvs, hx, e'⟩
    · subst e'
      obtain ⟨its, r, pl, hz⟩ := I.list hx
      have hlen := r.length
      exact wpAny_truthy_list pl.isList (by simp only [List.size_toArray]; omega) ⟨H, I.tok _, by rw [isEmpty_of r]; exact q⟩
    · subst e'
      obtain ⟨its, r, pl, hz⟩ := I.tuple hx
      have hlen := r.length
      exact truthy_tuple pl (by simp only [List.size_toArray]; omega) ⟨H, I.tok _, by rw [isEmpty_of r]; exact q⟩
    · subst e'
      obtain ⟨hz, hS, vs, r, m⟩ : kvs.length ≤ sizeLine ∧ (p == sysModules) = false ∧ ∃ vs, KV kvs vs ∧ s.heap.DictOf (mixKind X.prog X.w) p vs := I.hok p _ hx
      have hlen : kvs.length = vs.length := Paired.length r
      exact wpAny_truthy_dict hS m (by omega) ⟨H, I.tok _, by rw [isEmpty_kv r]; exact q⟩
  | _ => exact (show False from e).elim
theorem pt_truth (ha : PE X a ta) (he : ∀ whole, isTrue a X.env whole = (do let v ← whole; standAt a.pos; holding [v] (truthy v))) :
    PT X a (fun σ H Q => ta σ H fun x H' => ∃ k, TruV X.K x H' k ∧ Q k H') := by
  intro pins s σ H Q I h
  exact isTrue_plain (thn (ha pins s σ H _ I h) fun v s1 ⟨x, H1, I1, r1, q1⟩ => tru_ok pins s1 σ H1 x v Q I1 r1 q1) (he _)
theorem op_add_str : OpR X (binaryOp .Add) (fun x y H Q => ∃ i j, x = .str i ∧ y = .str j ∧ i.length + j.length ≤ sizeLine ∧ Q (.str (i ++ j)) H) := by
  intro pins s σ H x y v u Q I rx ry h
  obtain ⟨i, j, rfl, rfl, hz, q⟩ := h
  obtain ⟨t, rfl⟩ := rx
  obtain ⟨t', rfl⟩ := ry
  exact add_str (fun t' tk => ⟨.str (i ++ j), H, I.tok _, ⟨_, rfl⟩, q⟩) hz
theorem vals1 {x : V} {us : List Value} (r : Vals [x] us) : ∃ u, us = [u] ∧ RelV x u := by
  cases r with
  | cons r1 r2 => cases r2; exact ⟨_, rfl, r1⟩
theorem vals2 {x y : V} {us : List Value} (r : Vals [x, y] us) : ∃ u w', us = [u, w'] ∧ RelV x u ∧ RelV y w' := by
  cases r with
  | cons r1 r2 =>
    cases r2 with
    | cons r3 r4 => cases r4; exact ⟨_, _, rfl, r1, r3⟩
theorem call_abs : CallR X (.builtin "abs") (fun xs H Q => ∃ i, xs = [.int i] ∧ Q (.int (if i < 0 then -i else i)) H) := by
  intro pins s σ H xs us Q I r h
  obtain ⟨i, rfl, q⟩ := h
  obtain ⟨u, rfl, t, rfl⟩ := vals1 r
  exact call_abs_int fun u tk => ⟨.int (if i < 0 then -i else i), H, I.tok _, ⟨_, rfl⟩, q⟩
theorem call_max2 (hc : X.calm = true) : CallR X (.builtin "max") (fun xs H Q => ∃ i j, xs = [.int i, .int j] ∧ Q (.int (if j > i then j else i)) H) := by
  intro pins s σ H xs us Q I r h
  obtain ⟨i, j, rfl, q⟩ := h
  obtain ⟨u, w', rfl, ⟨t, rfl⟩, ⟨t', rfl⟩⟩ := vals2 r
  refine max_two_ints (I.ok.hd hc) fun h' tk k => ⟨_, H, I.kept k, ?_, q⟩
  by_cases hj : j > i
  · rw [if_pos hj, if_pos hj]; exact ⟨_, rfl⟩
  · rw [if_neg hj, if_neg hj]; exact ⟨_, rfl⟩
theorem call_str_int : CallR X (.type "str") (fun xs H Q => ∃ i, xs = [.int i] ∧ i.natAbs.log2 < 1920 ∧ Q (.str (toString i)) H) := by
  intro pins s σ H xs us Q I r h
  obtain ⟨i, rfl, hz, q⟩ := h
  obtain ⟨u, rfl, t, rfl⟩ := vals1 r
  exact PySem.P.str_of_int hz ⟨.str _, H, I.tok _, ⟨_, rfl⟩, q⟩
def LenV (K : PySem.W.Frag) (x : V) (H : Hp) (n : Nat) : Prop :=
  match x with
  | .str y => y.length ≤ sizeLine ∧ n = y.length
  | .byt y => y.size ≤ sizeLine ∧ n = y.size
  | .ref p => (∃ xs, SqL K H p xs ∧ n = xs.length) ∨ ∃ xs, SqT K H p xs ∧ n = xs.length
  | _ => False
theorem call_len : CallR X (.builtin "len") (fun xs H Q => ∃ x n, xs = [x] ∧ LenV X.K x H n ∧ Q (.int n) H) := by
  intro pins s σ H xs us Q I r h
  obtain ⟨x, n, rfl, e, q⟩ := h
  obtain ⟨u, rfl, rx⟩ := vals1 r
  have hl := line63
  have hs : sizeLine = 16777216 := sizeLine_eq
  cases x with
  | str y =>
    obtain ⟨t, rfl⟩ := rx
    obtain ⟨hy, e'⟩ : y.length ≤ sizeLine ∧ n = y.length := e
    subst e'
    exact len_str (by omega) ⟨.int _, H, I.tok _, ⟨_, rfl⟩, q⟩
  | byt y =>
    obtain ⟨t, rfl⟩ := rx
    obtain ⟨hy, e'⟩ : y.size ≤ sizeLine ∧ n = y.size := e
    subst e'
    exact PySem.W.len_bytes (by omega) ⟨.int _, H, I.tok _, ⟨_, rfl⟩, q⟩
  | ref p =>
    cases rx
    have e' : (∃ xs, SqL X.K H p xs ∧ n = xs.length) ∨ ∃ xs, SqT X.K H p xs ∧ n = xs.length := e
    rcases e' with ⟨xs, hx, e'⟩ | ⟨xs, hx, e'⟩
    · subst e'
      obtain ⟨its, r', pl, hz⟩ := I.list hx
      have hlen := r'.length
      exact Calls.call_len_list pl.isList (by simp only [List.size_toArray]; omega) ⟨.int xs.length, H, I.tok _, ⟨_, by simp only [List.size_toArray]; rw [hlen]⟩, q⟩
    · subst e'
      obtain ⟨its, r', pl, hz⟩ := I.tuple hx
      have hlen := r'.length
      exact len_tuple pl (by simp only [List.size_toArray]; omega) ⟨.int xs.length, H, I.tok _, ⟨_, by simp only [List.size_toArray]; rw [hlen]⟩, q⟩
  | _ => exact (show False from e).elim
end
end L2
namespace L2
open PySem PySem.Spec PyProof.Rows
section
variable {prog : Program} {w : World} {A : Around} {E : Value → Shared → Prop} {s : Shared} {K : PySem.W.Frag} {x dx C f : Addr} {mA : Str → Option Value} {name : Str} {v : Value}
end
section
variable {P : Program} {w : World} {H H' : Hp} {h h' : Heap} {a C dx : Addr} {fs fs' : List (Str × V)}
end
structure Cls (K : PySem.W.Frag) (C : Addr) : Prop where
  pg : PySem.W.plainGet K C Str.empty = true
  hd : PySem.W.hasDictIn K C = true
  po : PySem.W.plainOver K C = true
  sa : PySem.W.findIn K (.ref C) "__setattr__" = some (some (.builtin "object.__setattr__"))
theorem Cls.get {K : PySem.W.Frag} {C : Addr} (c : Cls K C) (f : Str) : PySem.W.plainGet K C f = true := c.pg
section
variable {X : Cx} {pins : List (Addr × Obj)} {σ : St} {H : Hp} {s : Shared} {a C dx : Addr} {fs : List (Str × V)} {f : Str} {v : V} {A : Around} {E : Value → Shared → Prop}
end
section
variable {X : Cx} {o e value : Expr} {f : Str} {pos pos' tpos : Pos} {ta tv : TE}
end
section
variable {X : Cx} {pins : List (Addr × Obj)} {σ : St} {H : Hp} {s : Shared} {A : Around} {E : Value → Shared → Prop} {Q : Value → Shared → Prop} {c : Value} {b : Bool}
end
end L2
namespace L2
open PySem PySem.Spec PyProof.Rows
structure Room (k : Nat) (A : Around) : Prop where
  hd : A.handled = none
  dp : A.depth + 3 * k + 5 < recursionLimit
  un : A.units + 16 * k + 200 < cLine
theorem Room.mono {j k : Nat} {A : Around} (r : Room k A) (h : j ≤ k) : Room j A := ⟨r.hd, by have := r.dp; omega, by have := r.un; omega⟩
theorem Room.deeper {k : Nat} {A : Around} (r : Room (k + 1) A) (env : Env) : Room k (A.deeper env) :=
  ⟨r.hd, by have := r.dp; show A.depth + 1 + 3 * k + 5 < _; omega, by have := r.un; show A.units + 3 + 16 * k + 200 < _; omega⟩
theorem Room.in1 {k : Nat} {A : Around} (r : Room (k + 1) A) : Room k A.in1 :=
  ⟨r.hd, by have := r.dp; show A.depth + 3 * k + 5 < _; omega, by have := r.un; show A.units + 1 + 16 * k + 200 < _; omega⟩
theorem Room.depth {k : Nat} {A : Around} (r : Room k A) : A.depth < recursionLimit := by have := r.dp; omega
theorem Room.units {k : Nat} {A : Around} (r : Room k A) : A.units + 64 < cLine := by have := r.un; omega
def tNil : TA := fun _ H Q => Q [] H
def tCons (ta : TE) (tr : TA) : TA := fun σ H Q => ta σ H fun x H1 => tr σ H1 fun xs H2 => Q (x :: xs) H2
section
variable {X : Cx} {e : Expr} {es : List Expr} {te : TE} {t : TA} {pos : Pos}
theorem pa_nil : PA X [] tNil := fun _ _ _ _ H Q I h => Calls.spliced_nil ⟨[], H, I, .nil, h⟩
theorem pa_cons (ha : PE X e te) (hr : PA X es t) (hs : starEach (e :: es) X.env = (false, eval e X.env) :: starEach es X.env := by rfl) : PA X (e :: es) (tCons te t) := by
  intro pos pins s σ H Q I h
  rw [hs]
  show wpAny _ _ (spliced ((false, eval e X.env) :: backTo pos (starEach es X.env))) _ _ s
  refine Calls.spliced_cons (thn (ha pins s σ H _ I h) fun u s1 ⟨x, H1, I1, r1, q1⟩ => ?_)
  exact thn (hr pos pins s1 σ H1 _ I1 q1) fun us s2 ⟨xs, H2, I2, r2, q2⟩ => ⟨x :: xs, H2, I2, .cons r1 r2, q2⟩
def tTup (t : TA) : TE := fun σ H Q => t σ H fun xs H1 => xs.length ≤ sizeLine ∧ ∀ p, H1 p = none → Q (.ref p) (upd H1 p (.tup xs))
def tLst (t : TA) : TE := fun σ H Q => t σ H fun xs H1 => xs.length ≤ sizeLine ∧ ∀ p, H1 p = none → Q (.ref p) (upd H1 p (.lst xs))
theorem pe_tup {x1} (h : PA X es t) : PE X (.Tuple es x1 pos) (tTup t) := by
  intro pins s σ H Q I hq
  refine wpAny_Tuple_spliced (thn (h pos pins s σ H _ I hq) fun us s1 ⟨xs, H1, I1, r, z, q⟩ => ⟨by rw [← r.length]; exact z, ?_⟩)
  have hf : H1 s1.heap.objs.size = none := I1.hok.fresh (Nat.le_refl _)
  refine ⟨.ref s1.heap.objs.size, upd H1 s1.heap.objs.size (.tup xs), I1.laid (t' := s1.toks) (fun b u e => Heap.get?_push_of_some _ e) (Nat.le_refl _) ?_, rfl, q _ hf⟩
  exact ⟨z, us, r, ⟨_, Heap.get?_push_size _ rfl, rfl, _, rfl⟩⟩
theorem pe_lst (h : PA X es t) : PE X (.List es pos) (tLst t) := by
  intro pins s σ H Q I hq
  refine wpAny_List_spliced (thn (h pos pins s σ H _ I hq) fun us s1 ⟨xs, H1, I1, r, z, q⟩ => ⟨by rw [← r.length]; exact z, ?_⟩)
  have hf : H1 s1.heap.objs.size = none := I1.hok.fresh (Nat.le_refl _)
  refine ⟨.ref s1.heap.objs.size, upd H1 s1.heap.objs.size (.lst xs), I1.laid (t' := s1.toks) (fun b u e => Heap.get?_push_of_some _ e) (Nat.le_refl _) ?_, rfl, q _ hf⟩
  exact ⟨z, us, 0, r, Heap.get?_push_size _ rfl⟩
end
abbrev Sp := List V → Hp → VK → XK → Prop
abbrev CXT := List Env → Hp → Shared → XK → Value → Shared → Prop
structure Env0 (P : Program) (w : World) (K : PySem.W.Frag) (mg : Str → Option Value) (base : Heap) (A : Around) (outer : List Env) (s : Shared) (H : Hp) : Prop where
  frames : A.frames = some outer
  mod : Mod K mg base
  bs : ∀ b o, base.get? b = some o → s.heap.get? b = some o ∧ H b = none
  bsz : base.objs.size ≤ s.heap.objs.size
  funs : s.heap.FunFrames base outer
  frf : ∀ b ∈ frs outer, H b = none
  hok : HOk P w H s.heap
  bare : AllBare s.gens
def CE (outer : List Env) (P : Program) (w : World) (H : Hp) (s : Shared) (Q : VK) (u : Value) (s' : Shared) : Prop :=
  ∃ v H', s'.os = s.os ∧ AllBare s'.gens ∧ Un (frs outer) [] H H' s.heap s'.heap ∧ HOk P w H' s'.heap ∧ RelV v u ∧ Q v H'
def CR (CX : CXT) (outer : List Env) (P : Program) (w : World) (H : Hp) (s : Shared) (Q : VK) (E : XK) (r : Result) (s' : Shared) : Prop :=
  match r with
  | .ok (.ret u) => CE outer P w H s Q u s'
  | .ok _ => False
  | .error e => CX outer H s E e s'
structure FnOk (P : Program) (w : World) (K : PySem.W.Frag) (mg : Str → Option Value) (base : Heap) (CX : CXT) (k : Nat) (f : Addr) (fd : FuncData) (ps : List Str) (sp : Sp) : Prop where
  len : ∀ vs H Q E, sp vs H Q E → vs.length = ps.length
  run : ∀ (A : Around) (outer : List Env) (s : Shared) (H : Hp) (args : Args) (us : List Value) (vs : List V) (Q : VK) (E : XK), Room k A → Env0 P w K mg base A outer s H → BindsTo s fd args (ps.zip us) → Vals vs us → sp vs H Q E →
    codeAny (model P w) A (.call (.ref f) args) (CR CX outer P w H s Q E) s
theorem FnOk.mono {P : Program} {w : World} {K : PySem.W.Frag} {mg : Str → Option Value} {base : Heap} {CX : CXT} {j k : Nat} {f : Addr} {fd : FuncData} {ps : List Str} {sp : Sp} (F : FnOk P w K mg base CX j f fd ps sp) (h : j ≤ k) :
    FnOk P w K mg base CX k f fd ps sp := ⟨F.len, fun A outer s H args us vs Q E hr => F.run A outer s H args us vs Q E (hr.mono h)⟩
theorem FnOk.imp {P : Program} {w : World} {K : PySem.W.Frag} {mg : Str → Option Value} {base : Heap} {CX : CXT} {k : Nat} {f : Addr} {fd : FuncData} {ps : List Str} {sp sp' : Sp} (F : FnOk P w K mg base CX k f fd ps sp)
    (h : ∀ vs H Q E, sp' vs H Q E → sp vs H Q E) : FnOk P w K mg base CX k f fd ps sp' :=
  ⟨fun vs H Q E q => F.len vs H Q E (h _ _ _ _ q), fun A outer s H args us vs Q E hr he hb hv hs => F.run A outer s H args us vs Q E hr he hb hv (h _ _ _ _ hs)⟩
theorem Env0.in1 {P : Program} {w : World} {K : PySem.W.Frag} {mg : Str → Option Value} {base : Heap} {A : Around} {outer : List Env} {s : Shared} {H : Hp} (e : Env0 P w K mg base A outer s H) :
    Env0 P w K mg base A.in1 outer s H := ⟨e.frames, e.mod, e.bs, e.bsz, e.funs, e.frf, e.hok, e.bare⟩
section
variable {X : Cx} {pins : List (Addr × Obj)} {σ : St} {H : Hp} {s s' : Shared}
theorem Inv.env0 (I : Inv X pins σ H s) : Env0 X.prog X.w X.K X.mg X.base X.A X.stack s H :=
  ⟨I.ok.frames, I.ok.mod, I.bs, Nat.le_trans I.ok.bsz I.sz, I.stack, I.stkFree, I.hok, I.bare⟩
theorem Inv.after {Q : VK} {u : Value} (I : Inv X pins σ H s) (h : CE X.stack X.prog X.w H s Q u s') : EP X pins σ Q u s' := by
  obtain ⟨v, H', os, bare, un, hok, r, q⟩ := h
  obtain ⟨hh, g, d, t, os'⟩ := s'
  obtain rfl : os' = s.os := os
  exact ⟨v, H', I.call (h' := hh) (g' := g) (d' := d) (t' := t) (ch := []) un hok bare (fun b z => absurd z (by simp)), r, q⟩
end
def tCall (sp : Sp) (dvs : List V) (E : XK) (t : TA) : TE := fun σ H Q => t σ H fun vs H1 => sp (vs ++ dvs) H1 Q E
def Binds (K : PySem.W.Frag) (fd : FuncData) (ps : List Str) (ds : List Value) : Prop :=
  ∀ (s : Shared) (us : List Value), K.In s.heap → (us ++ ds).length = ps.length → BindsTo s fd ⟨us, []⟩ (ps.zip (us ++ ds))
theorem Binds.all {K : PySem.W.Frag} {fd : FuncData} {ps : List Str} (h : ∀ us : List Value, us.length = ps.length → bindArgs fd ⟨us, []⟩ = pure (ps.zip us)) : Binds K fd ps [] := fun s us _ hl => by
  rw [List.append_nil] at hl ⊢
  exact .of_eq (h us hl)
def Passes (CX : CXT) (X : Cx) (E : XK) : Prop := ∀ (pins : List (Addr × Obj)) (σ : St) (H : Hp) (s : Shared) (e : Value) (s' : Shared), Inv X pins σ H s → CX X.stack H s E e s' → X.xe e s'
section
variable {X : Cx} {CX : CXT} {k : Nat} {f C : Addr} {fd : FuncData} {ps : List Str} {sp : Sp} {dvs : List V} {ds : List Value} {E : XK} {x m : Str} {p pos apos : Pos} {e o : Expr} {es : List Expr} {ta : TE} {t : TA}
theorem run_fn {pins : List (Addr × Obj)} {σ : St} {H : Hp} {s : Shared} {Q : VK} {us : List Value} {vs : List V} (F : FnOk X.prog X.w X.K X.mg X.base CX k f fd ps sp) (hr : Room k X.A) (hb : Binds X.K fd ps ds) (hd : Vals dvs ds) (hx : Passes CX X E)
    (I : Inv X pins σ H s) (r : Vals vs us) (h : sp (vs ++ dvs) H Q E) : wpAny (model X.prog X.w) X.A (call (.ref f) us) (EP X pins σ Q) X.xe s := by
  have r2 : Vals (vs ++ dvs) (us ++ ds) := r.append hd
  have hl : (us ++ ds).length = ps.length := by rw [← r2.length]; exact F.len _ _ _ _ h
  refine wpAny_call (codeAny_mono (F.run X.A X.stack s H ⟨us, []⟩ (us ++ ds) (vs ++ dvs) Q E hr I.env0 (hb s us I.kIn hl) r2 h) fun r s' hq => ?_)
  cases r with
  | error e => exact hx pins σ H s e s' I hq
  | ok fl =>
    cases fl with
    | ret u => exact I.after hq
    | next => exact False.elim hq
    | brk => exact False.elim hq
    | cont => exact False.elim hq
theorem pe_call (F : FnOk X.prog X.w X.K X.mg X.base CX k f fd ps sp) (hr : Room k X.A) (hg : Gl X x) (hm : X.mg x = some (.ref f)) (hk : PySem.W.keepIn X.K (.ref f) = true) (hb : Binds X.K fd ps ds) (hd : Vals dvs ds) (hx : Passes CX X E)
    (ha : PA X (e :: es) t) (hdb : (x == ("__debug__" : Str)) = false := by decide) (he : starEach (e :: es) X.env = (false, eval e X.env) :: starEach es X.env := by rfl) (hpl : (backTo pos (starEach es X.env)).any (·.1) = false := by rfl) :
    PE X (.Call (.Name x p) (e :: es) [] pos) (tCall sp dvs E t) := by
  intro pins s σ H Q I h
  refine wpAny_Call_Name_kw (ld_glob I hg hm ?_ hdb)
  refine PySem.W.callWith_K (h₀ := X.base) I.ok.mod.kin hk (thn (ha pos pins s σ H _ I h) fun us s1 ⟨vs, H1, I1, r, q⟩ => ⟨I1.kIn, ?_⟩) he hpl
  exact run_fn F hr hb hd hx I1 r q
end
def PK (X : Cx) (kws : List Keyword) (t : TA) : Prop :=
  ∀ (pos : Pos) (pins : List (Addr × Obj)) (s : Shared) (σ : St) (H : Hp) (Q : List V → Hp → Prop), Inv X pins σ H s → t σ H Q → wpAny (model X.prog X.w) X.A (evalAll ((backToKw pos (keywordEach kws X.env)).map (·.2))) (AP X pins σ Q) X.xe s
section
variable {X : Cx} {CX : CXT} {k : Nat} {f C : Addr} {fd : FuncData} {ps ks : List Str} {sp : Sp} {E : XK} {x m : Str} {p pos apos kpos : Pos} {e o : Expr} {es : List Expr} {kws : List Keyword} {te ta : TE} {t tk : TA} {nm : Option Str}
variable {g : List Value → List Value → List Value} {gV : List V → List V → List V}
end
structure FnScope (N P : List Str) (sc : Scope) : Prop where
  kind : sc.kind = .function
  co : sc.isCoroutine = false
  gen : sc.isGenerator = false
  nd : N.Nodup
  pre : N.take P.length = P
  par : ∀ x ∈ P, sc.names.lookup x = some .local ∨ sc.names.lookup x = some .cell
  nofree : ∀ y ∈ sc.names, y.2 ≠ .free
theorem bindL_out {kindOf : Str → Option NameKind} {x : Str} : ∀ {binds : List (Str × Value)} {m : Str → Option Value}, (∀ v, (x, v) ∉ binds) → bindL kindOf binds m x = m x
  | [], _, _ => rfl
  | (n, v) :: r, m, h => by
    unfold bindL
    rw [bindL_out fun w hw => h w (List.mem_cons_of_mem _ hw)]
    split
    · have : x ≠ n := by rintro rfl; exact h v List.mem_cons_self
      simp [this]
    · rfl
theorem bindC_out {kindOf : Str → Option NameKind} {x : Str} : ∀ {binds : List (Str × Value)} {m : Str → Option Value}, (∀ v, (x, v) ∉ binds) → bindC kindOf binds m x = m x
  | [], _, _ => rfl
  | (n, v) :: r, m, h => by
    unfold bindC
    rw [bindC_out fun w hw => h w (List.mem_cons_of_mem _ hw)]
    split
    · rfl
    · have : x ≠ n := by rintro rfl; exact h v List.mem_cons_self
      simp [this]
theorem bindL_get {kindOf : Str → Option NameKind} {x : Str} {v : Value} : ∀ {P : List Str} {vs : List Value} {i : Nat} {m : Str → Option Value}, P.Nodup → P[i]? = some x → vs[i]? = some v → kindOf x = some .local →
    bindL kindOf (P.zip vs) m x = some v
  | [], _, _, _, _, h, _, _ => by simp at h
  | _ :: _, [], _, _, _, _, h, _ => by simp at h
  | p :: P, w :: vs, 0, m, nd, h1, h2, hk => by
    simp at h1 h2; subst h1; subst h2
    show bindL kindOf ((p, w) :: P.zip vs) m p = _
    unfold bindL
    rw [bindL_out fun v hv => (List.nodup_cons.mp nd).1 (List.of_mem_zip hv).1, if_pos hk]
    simp
  | p :: P, w :: vs, i + 1, m, nd, h1, h2, hk => by
    show bindL kindOf ((p, w) :: P.zip vs) m x = _
    unfold bindL
    exact bindL_get (i := i) (List.nodup_cons.mp nd).2 (by simpa using h1) (by simpa using h2) hk
theorem bindC_get {kindOf : Str → Option NameKind} {x : Str} {v : Value} : ∀ {P : List Str} {vs : List Value} {i : Nat} {m : Str → Option Value}, P.Nodup → P[i]? = some x → vs[i]? = some v → kindOf x ≠ some .local →
    bindC kindOf (P.zip vs) m x = some v
  | [], _, _, _, _, h, _, _ => by simp at h
  | _ :: _, [], _, _, _, _, h, _ => by simp at h
  | p :: P, w :: vs, 0, m, nd, h1, h2, hk => by
    simp at h1 h2; subst h1; subst h2
    show bindC kindOf ((p, w) :: P.zip vs) m p = _
    unfold bindC
    rw [bindC_out fun v hv => (List.nodup_cons.mp nd).1 (List.of_mem_zip hv).1, if_neg hk]
    simp
  | p :: P, w :: vs, i + 1, m, nd, h1, h2, hk => by
    show bindC kindOf ((p, w) :: P.zip vs) m x = _
    unfold bindC
    exact bindC_get (i := i) (List.nodup_cons.mp nd).2 (by simpa using h1) (by simpa using h2) hk
def start (N : List Str) (vs : List V) : St := vs.map some ++ List.replicate (N.length - vs.length) none
def cxOf (CX : CXT) (P : Program) (w : World) (K : PySem.W.Frag) (mg : Str → Option Value) (base : Heap) (N : List Str) (qual : Str) (scope : Scope) (f : Addr) (cd : Value) (A : Around) (outer : List Env) (s : Shared) (H : Hp) (E : XK) : Cx where
  prog := P
  w := w
  K := K
  mg := mg
  base := base
  A := A.deeper (envOfC qual scope s.heap.objs.size f cd)
  N := N
  s₀ := s
  H₀ := H
  env := envOfC qual scope s.heap.objs.size f cd
  outer := outer
  stack := envOfC qual scope s.heap.objs.size f cd :: outer
  ex := []
  calm := true
  fn := fun _ => true
  pn := []
  xe := fun e s' => wpAny (model P w) (A.deeper (envOfC qual scope s.heap.objs.size f cd)) (leaving (envOfC qual scope s.heap.objs.size f cd) e) (fun _ s'' => CX outer H s E e s'') (fun e' s'' => CX outer H s E e' s'') s'
theorem cell_has {sc : Scope} {n : Nat} {x : Str} (h : sc.names.lookup x = some .cell) : ∃ c, (cellsFrom n sc.names []).lookup x = some c := by
  have q := PySem.W.cellsFrom_some sc.names n [] (.inl h)
  exact Option.isSome_iff_exists.mp q
theorem inv_start {CX : CXT} {P : Program} {w : World} {K : PySem.W.Frag} {mg : Str → Option Value} {base : Heap} {N ps : List Str} {qual : Str} {scope : Scope} {f : Addr} {cd : Value} {A : Around} {outer : List Env} {s s1 : Shared} {H : Hp} {E : XK} {us : List Value} {vs : List V}
    (S : FnScope N ps scope) (hd : A.handled = none) (e0 : Env0 P w K mg base A outer s H) (hl : vs.length = ps.length) (r : Vals vs us)
    (x : InCallC s s.heap.objs.size (bindL (envOfC qual scope s.heap.objs.size f cd).kindOf (ps.zip us) fun _ => none) (cellsFrom (s.heap.objs.size + 1) scope.names []) (bindC (envOfC qual scope s.heap.objs.size f cd).kindOf (ps.zip us) fun _ => none) s1) :
    Inv (cxOf CX P w K mg base N qual scope f cd A outer s H E) [] (start N vs) H s1 := by
  have hpl : ps.length ≤ N.length := by have := congrArg List.length S.pre; rw [List.length_take] at this; omega
  obtain ⟨h1, tk, rfl, hk⟩ := x.done
  have noA : ∀ b : Addr, b ∉ (cxOf CX P w K mg base N qual scope f cd A outer s H E).ex := fun b z => absurd (show b ∈ ([] : List Addr) from z) (by simp)
  refine ⟨⟨e0.mod, S.kind, rfl, rfl, Nat.le_refl _, fun y z c h1 h2 => ?_, fun y hy => ?_, fun y c _ h => ?_, fun _ => hd, Around.frames_deeper e0.frames, .inr ⟨rfl, rfl⟩, fun b z => absurd z (noA b), e0.bs, e0.bsz, fun b _ _ => noA b, fun b z => absurd z (noA b), e0.funs, e0.frf⟩,
    rfl, e0.bare, Un.kept hk, ⟨_, x.toInCall.ns, fun i y v h1 h2 h3 => ?_⟩, fun y c h => ⟨_, x.cell y c h⟩, e0.hok.fresh (Nat.le_refl _), fun y c h => ?_, fun p hp => absurd (show p ∈ ([] : List (Addr × Obj)) from hp) (by simp), e0.hok.kept hk, ?_⟩
  · exact name_of_addr x.apart (PySem.mem_of_lookup h1) (PySem.mem_of_lookup h2)
  · have hy : scope.names.lookup y = some .cell ∨ scope.names.lookup y = some .free := hy
    rcases hy with hy | hy
    · exact cell_has hy
    · exact absurd rfl (S.nofree _ (PySem.mem_of_lookup hy))
  · exact Nat.le_of_lt (x.above y c (PySem.mem_of_lookup h))
  · have hi : i < vs.length := by
      unfold start at h2
      by_cases hi : i < vs.length
      · exact hi
      · rw [List.getElem?_append_right (by simpa using hi)] at h2
        rw [List.getElem?_replicate] at h2
        split at h2 <;> cases h2
    have ha : vs[i]? = some v := by
      unfold start at h2
      rw [List.getElem?_append_left (by simpa using hi), List.getElem?_map] at h2
      cases e : vs[i]? with
      | none => rw [e] at h2; cases h2
      | some a => rw [e] at h2; cases h2; rfl
    obtain ⟨u, hu, rv⟩ := r.get ha
    have hp : ps[i]? = some y := by
      rw [← S.pre, List.getElem?_take_of_lt (by omega)]; exact h1
    have ndP : ps.Nodup := by rw [← S.pre]; exact S.nd.sublist (List.take_sublist _ _)
    refine ⟨u, rv, ?_⟩
    rcases S.par y (List.mem_of_getElem? hp) with k | k
    · exact .inl ⟨k, bindL_get ndP hp hu k⟩
    · obtain ⟨c, e⟩ := cell_has (n := s.heap.objs.size + 1) k
      refine .inr ⟨.inl k, c, e, ?_⟩
      have q := x.cell y c e
      rw [bindC_get ndP hp hu (by show scope.names.lookup y ≠ _; rw [k]; decide)] at q
      exact q
  · exact e0.hok.fresh (Nat.le_of_lt (x.above y c (PySem.mem_of_lookup h)))
  · unfold start
    show _ = N.length
    rw [List.length_append, List.length_map, List.length_replicate]
    omega
theorem fn_of {CX : CXT} {P : Program} {w : World} {K : PySem.W.Frag} {mg : Str → Option Value} {base : Heap} {k : Nat} {f : Addr} {name qual : Str} {params : Arguments} {body : List Stmt} {scope : Scope} {dV kV doc pm cdv ct oc : Value} {an od : Option Addr}
    {osl : Array (Option Value)} {N ps : List Str} {sp : Sp} (lk : K.lookup f = some ⟨oc, od, .func (PySem.W.fnOf name qual params body scope dV kV doc pm an cdv ct), osl⟩) (hcd : PySem.W.codeIn K cdv qual = true) (S : FnScope N ps scope)
    (len : ∀ vs H Q E, sp vs H Q E → vs.length = ps.length)
    (hbody : ∀ (A : Around) (outer : List Env) (s : Shared) (H : Hp) (vs : List V) (Q : VK) (E : XK), Room k (A.deeper (envOfC qual scope s.heap.objs.size f cdv)) → sp vs H Q E →
      ∃ t, PSs (cxOf CX P w K mg base N qual scope f cdv A outer s H E) body t ∧ t { nx := fun _ H' => Q .non H', rt := Q } (start N vs) H) :
    FnOk P w K mg base CX (k + 1) f (PySem.W.fnOf name qual params body scope dV kV doc pm an cdv ct) ps sp := by
  refine ⟨len, fun A outer s H args us vs Q E hr e0 hb r hsp => ?_⟩
  have hl := len _ _ _ _ hsp
  have KX : K.In s.heap := e0.mod.kin.keeps fun b o e => (e0.bs b o e).1
  have lim : s.heap.NoLimit := e0.mod.nolimit.keeps fun b o e => (e0.bs b o e).1
  have hkind : ∀ y ∈ ps.zip us, scope.names.lookup y.1 = some .local ∨ (scope.names.lookup y.1 = some .cell ∧ ((cellsFrom (s.heap.objs.size + 1) scope.names []).lookup y.1).isSome = true) := fun ⟨n, v⟩ hy => by
    rcases S.par n (List.of_mem_zip hy).1 with q | q
    · exact .inl q
    · exact .inr ⟨q, PySem.W.cellsFrom_some _ _ _ (.inl q)⟩
  refine codeAny_call_function hr.depth (KX _ _ lk) rfl S.co S.gen rfl (PySem.W.codeRec_of KX hcd) (hb _ _ _ _ ?_)
  refine wpAny_newFunctionEnv_cells S.kind hkind fun env he s1 x => ?_
  subst he
  refine ⟨lim.keeps x.toInCall.keep, codeAny_func ?_⟩
  obtain ⟨t, ht, hq⟩ := hbody A outer s H vs Q E (hr.deeper _) hsp
  have I : Inv (cxOf CX P w K mg base N qual scope f cdv A outer s H E) [] (start N vs) H s1 := inv_start S hr.hd e0 hl r x
  refine wpAny_mono (ht [] s1 (start N vs) H _ I hq) (fun fl s' hs => ?_) fun e s' hs => hs
  have fin : ∀ {σ' : St} {H' : Hp} {v : V} {u : Value}, Inv (cxOf CX P w K mg base N qual scope f cdv A outer s H E) [] σ' H' s' → RelV v u → Q v H' → CE outer P w H s Q u s' :=
    fun {σ' H' v u} J rv q => ⟨v, H', J.os, J.bare, J.base, J.hok, rv, q⟩
  cases fl with
  | ret u =>
    obtain ⟨v, σ', H', J, rv, q⟩ := hs
    exact fin J rv q
  | next =>
    obtain ⟨σ', H', J, q⟩ := hs
    exact fin (v := V.non) (u := Value.none) J rfl q
  | brk =>
    obtain ⟨_, _, _, q⟩ := hs
    exact False.elim q
  | cont =>
    obtain ⟨_, _, _, q⟩ := hs
    exact False.elim q
end L2
namespace L2
open PySem PySem.Spec PyProof.Rows
section
variable {X : Cx} {x : Str} {p pos : Pos} {e : Expr} {es : List Expr} {t : TA} {id T : String} {r : List V → Hp → VK → Prop}
def tCB (r : List V → Hp → VK → Prop) (t : TA) : TE := fun σ H Q => t σ H fun vs H1 => r vs H1 Q
theorem pe_callB (hc : CallR X (.builtin id) r) (hg : Gl X x) (hm : X.mg x = none) (hv : bootBuiltins x = some (.builtin id)) (ha : PA X (e :: es) t) (hn : x ≠ "__name__" := by decide) (hdb : (x == ("__debug__" : Str)) = false := by decide)
    (he : starEach (e :: es) X.env = (false, eval e X.env) :: starEach es X.env := by rfl) (hpl : (backTo pos (starEach es X.env)).any (·.1) = false := by rfl) : PE X (.Call (.Name x p) (e :: es) [] pos) (tCB r t) := by
  intro pins s σ H Q I h
  refine wpAny_Call_Name_kw (ld_blt I hg hm hv ?_ hn hdb)
  exact PyProof.Rows.callWith_builtin1 (thn (ha pos pins s σ H _ I h) fun us s1 ⟨vs, H1, I1, r1, q1⟩ => hc pins s1 σ H1 vs us Q I1 r1 q1) he hpl
theorem pe_callTy (hc : CallR X (.type T) r) (hg : Gl X x) (hm : X.mg x = none) (hv : bootBuiltins x = some (.type T)) (ha : PA X (e :: es) t) (hn : x ≠ "__name__" := by decide) (hdb : (x == ("__debug__" : Str)) = false := by decide)
    (he : starEach (e :: es) X.env = (false, eval e X.env) :: starEach es X.env := by rfl) (hpl : (backTo pos (starEach es X.env)).any (·.1) = false := by rfl) : PE X (.Call (.Name x p) (e :: es) [] pos) (tCB r t) := by
  intro pins s σ H Q I h
  refine wpAny_Call_Name_kw (ld_blt I hg hm hv ?_ hn hdb)
  exact PyProof.Rows.callWith_type1 (thn (ha pos pins s σ H _ I h) fun us s1 ⟨vs, H1, I1, r1, q1⟩ => hc pins s1 σ H1 vs us Q I1 r1 q1) he hpl
end
end L2
namespace HT
open PySem PyProof.Rows
theorem rcLt_int (A : Around) (s : Shared) (a : Int) (t : Tok) (c : Int) (u : Tok) (prog : Program) (w : World) (E : Value → Shared → Prop) (Q : Value → Shared → Prop) (h : Q (.bool (decide (a < c))) s) :
    wpAny (model prog w) A (richCompare .Lt (.int a t) (.int c u)) Q E s :=
  (PyProof.Rows.lt_int h : wpAny (model prog w) A (compareOp .Lt (.int a t) (.int c u)) Q E s)
section
open PySem.SeqAt
open PySem.AutoSeq1 (wpAny_loadPart')
open PySem.MeetsSeq PySem.MeetsSeq2 PySem.MeetsSeq3
end
section
variable {prog : Program} {w : World} {A : Around} {E : Value → Shared → Prop} {s : Shared}
def sIx (n d : Nat) : Option Int → Nat
  | none => d
  | some v => if v < 0 then (v + (n : Int)).toNat else min v.toNat n
theorem sIx_le (n d : Nat) (hd : d ≤ n) (o : Option Int) : sIx n d o ≤ n := by
  cases o with
  | none => exact hd
  | some v =>
    show (if v < 0 then (v + (n : Int)).toNat else min v.toNat n) ≤ n
    by_cases hv : v < 0
    · rw [if_pos hv]; omega
    · rw [if_neg hv]; exact Nat.min_le_right _ _
theorem clip_eq (v : Int) (n d : Nat) : (if v < 0 then max (v + (n : Int)) 0 else min v (n : Int)) = ((sIx n d (some v) : Nat) : Int) := by
  show (if v < 0 then max (v + (n : Int)) 0 else min v (n : Int)) = (((if v < 0 then (v + (n : Int)).toNat else min v.toNat n) : Nat) : Int)
  by_cases hv : v < 0
  · simp only [if_pos hv]; omega
  · simp only [if_neg hv]; omega
theorem adjust_gen (lo hi : Option Int) (n : Nat) : Builtin.Slice.sliceAdjust lo hi 1 (n : Int) = (((sIx n 0 lo : Nat) : Int), ((sIx n n hi : Nat) : Int)) := by
  have h1 : ¬ ((1 : Int) < 0) := by omega
  unfold Builtin.Slice.sliceAdjust
  simp only [h1, if_false]
  refine Prod.ext ?_ ?_
  · cases lo with
    | none => rfl
    | some v => exact clip_eq v n 0
  · cases hi with
    | none => rfl
    | some v => exact clip_eq v n n
theorem places_gen (i j : Nat) : Builtin.Slice.slicePlaces (i : Int) (j : Int) 1 = j - i := by
  unfold Builtin.Slice.slicePlaces
  have h1 : (1 : Int) > 0 := by omega
  simp only [h1, if_true, Int.ediv_one]
  split <;> omega
theorem slicePart_ {v : Value} {o : Option Int} {Q : Option Int → Shared → Prop} (p : IsPart v o) (h : Q o s) : wpAny (model prog w) A (Builtin.Slice.slicePartIndex v) Q E s := by
  cases p with
  | none => exact slicePart_none h
  | int i t => exact slicePart_int h
theorem sliceApplied_gen {sl : Addr} {vl vu : Value} {lo hi : Option Int} {n : Nat} {Q : Int × Int × Nat → Shared → Prop} (hs : s.heap.IsSliceOf sl vl vu .none) (pl : IsPart vl lo) (pu : IsPart vu hi)
    (h : Q (((sIx n 0 lo : Nat) : Int), 1, sIx n n hi - sIx n 0 lo) s) : wpAny (model prog w) A (Builtin.Slice.sliceApplied (.ref sl) (pure (n : Int))) Q E s := by
  obtain ⟨os, hos, hcs, hds⟩ := id hs
  unfold Builtin.Slice.sliceApplied Builtin.Slice.sliceFields
  refine wpAny_bind (wpAny_bind (wpAny_field hos hds (x := vl) rfl (wpAny_bind (wpAny_field hos hds (x := vu) rfl (wpAny_bind (wpAny_field hos hds (x := .none) rfl (wpAny_pure ?_)))))))
  refine wpAny_bind (slicePart_none ?_)
  show wpAny _ _ (if ((1 : Int) == 0) = true then _ else _) _ _ s
  rw [if_neg (by decide)]
  refine wpAny_bind (slicePart_ pl (wpAny_bind (slicePart_ pu (wpAny_bind (wpAny_pure ?_)))))
  show wpAny _ _ (match Builtin.Slice.sliceAdjust lo hi 1 (n : Int) with | (lo, hi) => pure (lo, (1 : Int), Builtin.Slice.slicePlaces lo hi 1)) _ _ s
  rw [adjust_gen lo hi n]
  show wpAny _ _ (pure (((sIx n 0 lo : Nat) : Int), (1 : Int), Builtin.Slice.slicePlaces ((sIx n 0 lo : Nat) : Int) ((sIx n n hi : Nat) : Int) 1)) _ _ s
  rw [places_gen]
  exact wpAny_pure h
theorem pick_gen (xs : Array Value) (i k : Nat) : ((List.range k).filterMap fun (m : Nat) => xs[((i : Int) + (m : Int) * 1).toNat]?).toArray = ((xs.toList.drop i).take k).toArray := by
  have e : (fun (m : Nat) => xs[((i : Int) + (m : Int) * 1).toNat]?) = fun m => xs[i + m]? := by
    funext m
    have : ((i : Int) + (m : Int) * 1).toNat = i + m := by omega
    rw [this]
  rw [e]
  have := pick_run xs i k
  rw [List.filterMap_map] at this
  have e2 : ((fun x => xs[x]?) ∘ fun x => i + x) = fun m => xs[i + m]? := rfl
  rw [e2] at this
  rw [this]
theorem getItem_tuple_cut {t sl : Addr} {items : Array Value} {vl vu : Value} {lo hi : Option Int} {Q : Value → Shared → Prop} (ht : IsTup s.heap t items) (hs : s.heap.IsSliceOf sl vl vu .none) (pl : IsPart vl lo) (pu : IsPart vu hi)
    (hw : ¬ (sIx items.size 0 lo = 0 ∧ sIx items.size items.size hi = items.size))
    (h : Q (.ref s.heap.objs.size) { s with heap := s.heap.push { cls := .type "tuple", data := .seq ((items.toList.drop (sIx items.size 0 lo)).take (sIx items.size items.size hi - sIx items.size 0 lo)).toArray } })
    (hsz : items.size ≤ sizeLine) : wpAny (model prog w) A (getItem (.ref t) (.ref sl)) Q E s := by
  have htake : sizeOk (.seq ((items.toList.drop (sIx items.size 0 lo)).take (sIx items.size items.size hi - sIx items.size 0 lo)).toArray) := by
    show ((items.toList.drop (sIx items.size 0 lo)).take (sIx items.size items.size hi - sIx items.size 0 lo)).toArray.size ≤ sizeLine
    rw [List.size_toArray, List.length_take, List.length_drop, Array.length_toList]
    omega
  have hj : sIx items.size items.size hi ≤ items.size := sIx_le _ _ (Nat.le_refl _) hi
  obtain ⟨os, hos, hcs, hds⟩ := id hs
  have hTs : s.TypeIs (.ref sl) "slice" := ⟨os, hos, hcs⟩
  unfold getItem
  try with_reducible refine wpAny_holding ?_
  first | refine wpAny_bind (wpAny_pure ?_) | skip
  refine wpAny_bind (wpAny_sequenceKey ht.typeIs (by decide) ?_)
  refine wpAny_bind (wpAny_callSpecial?_slot (name := Str.ofString "__getitem__") ht.typeIs PyProof.Rows.slot_tuple_getitem
    (wpAny_call_entry PyProof.Rows.slot_tuple_getitem ht.typeIs entry_tuple_getitem ?_ (args_tuple_getitem _ _)))
  show wpAny _ _ (Builtin.Tuple.tupleItemsOf (.ref t) >>= _) _ _ s
  refine wpAny_bind (tupleItemsOf_ ht ?_)
  refine wpAny_bind (wpAny_typeOf hTs ?_)
  rw [if_pos (by decide)]
  refine wpAny_bind (sliceApplied_gen hs pl pu ?_)
  have hno : ¬ ((((sIx items.size 0 lo : Nat) : Int) == 0 && (1 : Int) == 1 && (sIx items.size items.size hi - sIx items.size 0 lo) == items.size) = true) := by
    intro q
    rw [Bool.and_eq_true, Bool.and_eq_true] at q
    have q1 : ((sIx items.size 0 lo : Nat) : Int) = 0 := eq_of_beq q.1.1
    have q2 : sIx items.size items.size hi - sIx items.size 0 lo = items.size := eq_of_beq q.2
    exact hw ⟨by omega, by omega⟩
  show wpAny _ _ (if (((sIx items.size 0 lo : Nat) : Int) == 0 && (1 : Int) == 1 && (sIx items.size items.size hi - sIx items.size 0 lo) == items.size) = true then _ else _) _ _ s
  rw [if_neg hno, pick_gen]
  first
    | exact wpAny_bind (m := Builtin.Tuple.tupleExact _) (wpAny_newObj_type (wpAny_pure ⟨_, rfl, wpAny_pure h⟩) htake)
    | exact wpAny_bind (m := Builtin.Tuple.tupleExact _) (wpAny_newObj_type (wpAny_bind (wpAny_pure (wpAny_pure ⟨_, rfl, wpAny_pure h⟩))) htake)
    | exact wpAny_bind (wpAny_bind (m := Builtin.Tuple.tupleExact _) (wpAny_newObj_type (wpAny_pure (wpAny_pure ⟨_, rfl, wpAny_pure h⟩)) htake))
    | exact wpAny_bind (wpAny_bind (m := Builtin.Tuple.tupleExact _) (wpAny_newObj_type (wpAny_pure ⟨_, rfl, wpAny_pure h⟩) htake))
end
end HT
namespace L2
open PySem PySem.Spec PyProof.Rows
abbrev TO := St → Hp → (Option Int → Hp → Prop) → Prop
def PO (X : Cx) (e : Option Expr) (t : TO) : Prop :=
  ∀ (pins : List (Addr × Obj)) (s : Shared) (σ : St) (H : Hp) (Q : Option Int → Hp → Prop), Inv X pins σ H s → t σ H Q →
    wpAny (model X.prog X.w) X.A (evalPart e X.env) (fun u s' => ∃ o H', Inv X pins σ H' s' ∧ IsPart u o ∧ Q o H') X.xe s
def tNoPart : TO := fun _ H Q => Q none H
def tPart (t : TE) : TO := fun σ H Q => t σ H fun x H1 => ∃ i, x = .int i ∧ Q (some i) H1
theorem intsAre_of {ns : List Int} : ∀ {us : List Value}, Vals (ns.map V.int) us → IntsAre us ns := by
  induction ns with
  | nil => intro us r; rw [List.map_nil] at r; cases r; exact .nil
  | cons n ns ih =>
    intro us r
    rw [List.map_cons] at r
    cases r with
    | cons r1 r2 =>
      obtain ⟨t, e⟩ := r1
      subst e
      exact .cons n t (ih r2)
section
variable {X : Cx} {e : Expr} {te : TE} {lo hi : Option Expr} {tl th : TO} {pos p2 : Pos}
theorem po_none : PO X none tNoPart := by
  intro pins s σ H Q I h
  rw [evalPart_none]
  exact wpAny_pure ⟨none, H, I, .none, h⟩
theorem po_some (h : PE X e te) : PO X (some e) (tPart te) := by
  intro pins s σ H Q I hw
  rw [evalPart_some]
  refine thn (h pins s σ H _ I hw) fun u s1 ⟨x, H1, I1, r1, q1⟩ => ?_
  obtain ⟨i, rfl, q⟩ := q1
  obtain ⟨t, rfl⟩ := r1
  exact ⟨some i, H1, I1, .int i t, q⟩
def SlR (X : Cx) (r : V → Option Int → Option Int → Hp → VK → Prop) : Prop :=
  ∀ (pins : List (Addr × Obj)) (s : Shared) (σ : St) (H : Hp) (x : V) (v vl vu : Value) (lo hi : Option Int) (sl : Addr) (Q : VK), Inv X pins σ H s → RelV x v → s.heap.IsSliceOf sl vl vu .none → IsPart vl lo → IsPart vu hi → r x lo hi H Q →
    ∃ T id, typeLookup (.type T) "__getitem__" = pure (some (.builtin id)) ∧ s.TypeIs v T ∧ wpAny (model X.prog X.w) X.A (getItem v (.ref sl)) (EP X pins σ Q) X.xe s
theorem SlR.or {r r' : V → Option Int → Option Int → Hp → VK → Prop} (h : SlR X r) (h' : SlR X r') : SlR X (fun x lo hi H Q => r x lo hi H Q ∨ r' x lo hi H Q) := by
  intro pins s σ H x v vl vu lo hi sl Q I rx hs pl pu q
  rcases q with q | q
  · exact h pins s σ H x v vl vu lo hi sl Q I rx hs pl pu q
  · exact h' pins s σ H x v vl vu lo hi sl Q I rx hs pl pu q
def tSl (r : V → Option Int → Option Int → Hp → VK → Prop) (te : TE) (tl th : TO) : TE := fun σ H Q => te σ H fun x H1 => tl σ H1 fun l H2 => th σ H2 fun u H3 => r x l u H3 Q
theorem pe_slice {r : V → Option Int → Option Int → Hp → VK → Prop} (hr : SlR X r) (he : PE X e te) (hl : PO X lo tl) (hu : PO X hi th) : PE X (.Subscript e (.Slice lo hi none p2) pos) (tSl r te tl th) := by
  intro pins s σ H Q I h
  refine Subscript_ (thn (he pins s σ H _ I h) fun v s1 ⟨x, H1, I1, r1, q1⟩ => ?_)
  refine wpAny_Slice (thn (hl pins s1 σ H1 _ I1 q1) fun vl s2 ⟨l, H2, I2, pl, q2⟩ => thn (hu pins s2 σ H2 _ I2 q2) fun vu s3 ⟨u, H3, I3, pu, q3⟩ => ?_)
  rw [evalPart_none]
  refine wpAny_pure ?_
  have I4 : Inv X pins σ H3 { s3 with heap := s3.heap.push { cls := .type "slice", data := .fields #[vl, vu, .none] } } := I3.kept (t' := s3.toks) fun b ob q => Heap.get?_push_of_some _ q
  obtain ⟨T, id, hT, ht, hg⟩ := hr pins { s3 with heap := s3.heap.push { cls := .type "slice", data := .fields #[vl, vu, .none] } } σ H3 x v vl vu l u s3.heap.objs.size Q I4 r1 (Heap.IsSliceOf.new ..) pl pu q3
  show wpAny (model X.prog X.w) X.A (subscriptTail e (.Slice lo hi none p2) v (.ref s3.heap.objs.size)) (EP X pins σ Q) X.xe { s3 with heap := s3.heap.push { cls := .type "slice", data := .fields #[vl, vu, .none] } }
  exact tail_any (ops := [.ref s3.heap.objs.size, v]) ht hT hg (by with_unfolding_all rfl)
def cutV (xs : List V) (lo hi : Option Int) : List V := (xs.drop (HT.sIx xs.length 0 lo)).take (HT.sIx xs.length xs.length hi - HT.sIx xs.length 0 lo)
theorem cutV_length (xs : List V) (lo hi : Option Int) : (cutV xs lo hi).length ≤ xs.length := by
  unfold cutV
  rw [List.length_take, List.length_drop]
  omega
def rSlT (K : PySem.W.Frag) : V → Option Int → Option Int → Hp → VK → Prop := fun x lo hi H Q => ∃ a xs, x = .ref a ∧ SqT K H a xs ∧
  ¬ (HT.sIx xs.length 0 lo = 0 ∧ HT.sIx xs.length xs.length hi = xs.length) ∧ ∀ p, H p = none → Q (.ref p) (upd H p (.tup (cutV xs lo hi)))
theorem sl_tup : SlR X (rSlT X.K) := by
  intro pins s σ H x v vl vu lo hi sl Q I rx hs pl pu h
  obtain ⟨a, xs, rfl, hx, hw, q⟩ := h
  cases rx
  obtain ⟨its, r, ht, hz⟩ := I.tuple hx
  have hlen : its.toArray.size = xs.length := by rw [List.size_toArray]; exact r.length.symm
  refine ⟨"tuple", _, PyProof.Rows.slot_tuple_getitem.lookup, ht.typeIs, ?_⟩
  refine HT.getItem_tuple_cut ht hs pl pu (by rw [hlen]; exact hw) ?_ (by rw [hlen]; exact hz)
  rw [hlen]
  refine ⟨.ref s.heap.objs.size, _, I.laid (t' := s.toks) (o := .tup (cutV xs lo hi)) (fun b ob q => Heap.get?_push_of_some _ q) (Nat.le_refl _) ?_, rfl, q _ (I.hok.fresh (Nat.le_refl _))⟩
  exact ⟨Nat.le_trans (cutV_length xs lo hi) hz, _, (r.drop (HT.sIx xs.length 0 lo)).take (HT.sIx xs.length xs.length hi - HT.sIx xs.length 0 lo), IsTup.new _ _⟩
end
end L2
namespace L2
open PySem PySem.Spec PyProof.Rows
def ixN (n : Nat) (i : Int) : Option Nat := if 0 ≤ i then (if i < n then some i.toNat else none) else if -(n : Int) ≤ i then some (i + n).toNat else none
def atI {α : Type} (xs : List α) (i : Int) : Option α := (ixN xs.length i).bind fun j => xs[j]?
theorem ixN_seq {n : Nat} {i : Int} {j : Nat} (h : ixN n i = some j) : seqIndex? i n = some j ∧ j < n ∧ -(n : Int) ≤ i ∧ i < n := by
  unfold ixN at h
  by_cases h0 : 0 ≤ i
  · rw [if_pos h0] at h
    by_cases h1 : i < n
    · rw [if_pos h1] at h
      have e : i.toNat = j := Option.some.inj h
      exact ⟨by rw [seqIndex_of h0 h1, e], by omega, by omega, h1⟩
    · rw [if_neg h1] at h; cases h
  · rw [if_neg h0] at h
    by_cases h1 : -(n : Int) ≤ i
    · rw [if_pos h1] at h
      have e : (i + n).toNat = j := Option.some.inj h
      exact ⟨by rw [seqIndex_neg (by omega) h1, e], by omega, h1, by omega⟩
    · rw [if_neg h1] at h; cases h
theorem atI_get {α : Type} {xs : List α} {i : Int} {v : α} (h : atI xs i = some v) : ∃ j, seqIndex? i xs.length = some j ∧ xs[j]? = some v ∧ j < xs.length ∧ -(xs.length : Int) ≤ i ∧ i < xs.length := by
  unfold atI at h
  cases e : ixN xs.length i with
  | none => rw [e] at h; cases h
  | some j =>
    rw [e] at h
    obtain ⟨h1, h2, h3, h4⟩ := ixN_seq e
    exact ⟨j, h1, h, h2, h3, h4⟩
theorem atI_nat {α : Type} {xs : List α} {j : Nat} {v : α} (h : xs[j]? = some v) : atI xs (j : Int) = some v := by
  have hj : j < xs.length := (List.getElem?_eq_some_iff.mp h).1
  have e : ixN xs.length (j : Int) = some j := by
    unfold ixN
    rw [if_pos (by omega), if_pos (by omega)]; simp
  unfold atI; rw [e]; exact h
def PlainIx (b : Expr) : Prop := ∀ o i, subscripted b false o i = operate [o, i] (getItem o i)
def IxR (X : Cx) (r : R2) : Prop :=
  ∀ (value slice : Expr) (pins : List (Addr × Obj)) (s : Shared) (σ : St) (H : Hp) (x y : V) (v u : Value) (Q : VK), Inv X pins σ H s → RelV x v → RelV y u → r x y H Q →
    subscripted slice false v u = operate [v, u] (getItem v u) → wpAny (model X.prog X.w) X.A (subscriptTail value slice v u) (EP X pins σ Q) X.xe s
def MtR (X : Cx) (id : String) (r : V → List V → Hp → VK → Prop) : Prop :=
  ∀ (pins : List (Addr × Obj)) (s : Shared) (σ : St) (H : Hp) (x : V) (xs : List V) (v : Value) (us : List Value) (Q : VK), Inv X pins σ H s → RelV x v → Vals xs us → r x xs H Q →
    wpAny (model X.prog X.w) X.A (call (.builtin id) (v :: us)) (EP X pins σ Q) X.xe s
section
variable {X : Cx} {a b : Expr} {ta tb : TE} {pos : Pos}
theorem IxR.or {r r' : R2} (h : IxR X r) (h' : IxR X r') : IxR X (fun x y H Q => r x y H Q ∨ r' x y H Q) := by
  intro value slice pins s σ H x y v u Q I rx ry q hs
  rcases q with q | q
  · exact h value slice pins s σ H x y v u Q I rx ry q hs
  · exact h' value slice pins s σ H x y v u Q I rx ry q hs
theorem MtR.or {id : String} {r r' : V → List V → Hp → VK → Prop} (h : MtR X id r) (h' : MtR X id r') : MtR X id (fun x xs H Q => r x xs H Q ∨ r' x xs H Q) := by
  intro pins s σ H x xs v us Q I rx rs q
  rcases q with q | q
  · exact h pins s σ H x xs v us Q I rx rs q
  · exact h' pins s σ H x xs v us Q I rx rs q
theorem pe_ix {r : R2} (hr : IxR X r) (ha : PE X a ta) (hb : PE X b tb) (hs : PlainIx b) : PE X (.Subscript a b pos) (tOp r ta tb) := by
  intro pins s σ H Q I h
  exact Subscript_ (binT ha hb I h fun v u s2 x y H2 I2 rx ry q => hr a b pins s2 σ H2 x y v u Q I2 rx ry q (hs _ _))
def rIxL (K : PySem.W.Frag) : R2 := fun x y H Q => ∃ p xs i v, x = .ref p ∧ y = .int i ∧ SqL K H p xs ∧ atI xs i = some v ∧ Q v H
def rIxT (K : PySem.W.Frag) : R2 := fun x y H Q => ∃ p xs i v, x = .ref p ∧ y = .int i ∧ SqT K H p xs ∧ atI xs i = some v ∧ Q v H
def rIxS : R2 := fun x y H Q => ∃ z i c, x = .str z ∧ y = .int i ∧ z.length ≤ sizeLine ∧ atI z.cps.toList i = some c ∧ Q (.str ⟨#[c]⟩) H
theorem ix_list : IxR X (rIxL X.K) := by
  intro value slice pins s σ H x y v u Q I rx ry h hs
  obtain ⟨p, xs, i, z, rfl, rfl, hq, he, q⟩ := h
  cases rx
  obtain ⟨t, rfl⟩ := ry
  obtain ⟨its, r, pl, hz⟩ := I.list hq
  obtain ⟨j, h1, h2, h3, h4, h5⟩ := atI_get he
  obtain ⟨w, ew, rw'⟩ := r.get h2
  have hl := r.length
  have hn := line63
  have fin : EP X pins σ Q w s := ⟨z, H, I, rw', q⟩
  by_cases h0 : 0 ≤ i
  · have hj : i.toNat = j := by
      rw [seqIndex_of h0 h5] at h1
      exact Option.some.inj h1
    exact item_listR pl.isList h0 (by omega) (by rw [hj]; simpa using ew) fin hs
  · have hj : (i + (its.toArray.size : Int)).toNat = j := by
      rw [seqIndex_neg (by omega) h4] at h1
      rw [List.size_toArray, ← hl]
      exact Option.some.inj h1
    exact subscriptTail_builtinR (x := w) pl.isList.typeIs slot_list_getitem.lookup
      (wpAny_getItem_list_neg (Q := fun r s' => r = w ∧ EP X pins σ Q r s') pl.isList (by omega) (by rw [List.size_toArray] <;> omega) (by omega) (by rw [hj]; simpa using ew) ⟨rfl, fin⟩) hs
theorem ix_tup : IxR X (rIxT X.K) := by
  intro value slice pins s σ H x y v u Q I rx ry h hs
  obtain ⟨p, xs, i, z, rfl, rfl, hq, he, q⟩ := h
  cases rx
  obtain ⟨t, rfl⟩ := ry
  obtain ⟨its, r, pl, hz⟩ := I.tuple hq
  obtain ⟨j, h1, h2, h3, h4, h5⟩ := atI_get he
  obtain ⟨w, ew, rw'⟩ := r.get h2
  have hl := r.length
  have hn := line63
  have fin : EP X pins σ Q w s := ⟨z, H, I, rw', q⟩
  exact subscriptTail_builtinR (x := w) pl.typeIs slot_tuple_getitem.lookup
    (getItem_tuple (j := j) (Q := fun r s' => r = w ∧ EP X pins σ Q r s') pl (by omega) (by omega) (by rw [List.size_toArray, ← hl]; exact h1) (by simpa using ew) ⟨rfl, fin⟩) hs
theorem ix_str : IxR X rIxS := by
  intro value slice pins s σ H x y v u Q I rx ry h hs
  obtain ⟨z, i, c, rfl, rfl, hz, he, q⟩ := h
  obtain ⟨t, rfl⟩ := rx
  obtain ⟨t', rfl⟩ := ry
  obtain ⟨j, h1, h2, h3, h4, h5⟩ := atI_get he
  have hl : z.cps.toList.length = z.length := by simp [Str.length]
  rw [hl] at h1 h4 h5
  have hn := line63
  exact tail_any (typeIs_str s z t) slot_str_getitem.lookup (getItem_str (c := c) (by
    have e1 : decide (i < -(2 ^ 63 : Int)) = false := decide_eq_false (by omega)
    have e2 : decide (i ≥ 2 ^ 63) = false := decide_eq_false (by omega)
    rw [e1, e2, Bool.or_false]) (by rw [h1]; simpa using h2) ⟨.str ⟨#[c]⟩, H, I.tok _, ⟨_, rfl⟩, q⟩) hs
def rIx (K : PySem.W.Frag) : R2 := fun x y H Q => rIxL K x y H Q ∨ rIxT K x y H Q ∨ rIxS x y H Q
theorem ix_seq : IxR X (rIx X.K) := ix_list.or (ix_tup.or ix_str)
theorem Inv.lst {pins : List (Addr × Obj)} {σ : St} {H : Hp} {s : Shared} {p : Addr} {xs : List V} (I : Inv X pins σ H s) (h : H p = some (.lst xs)) :
    ∃ (its : List Value) (n : Nat), Vals xs its ∧ s.heap.get? p = some { cls := .type "list", data := .seq its.toArray n } ∧ xs.length ≤ sizeLine := by
  obtain ⟨z, its, n, r, e⟩ := I.hok p _ h
  exact ⟨its, n, r, e, z⟩
theorem slice_bounds (lo hi : Option Int) (n : Nat) : (sliceBounds lo hi none n).1 = ((HT.sIx n 0 lo : Nat) : Int) ∧ (sliceBounds lo hi none n).2.1 = ((HT.sIx n n hi : Nat) : Int) ∧ (sliceBounds lo hi none n).2.2 = 1 := by
  refine ⟨?_, ?_, rfl⟩
  · cases lo with
    | none => simp [sliceBounds, HT.sIx]
    | some i =>
      simp only [sliceBounds, HT.sIx, Option.getD_none, show (1 : Int) > 0 by decide, if_true]
      by_cases h : i < 0
      · simp only [h, if_true] <;> omega
      · simp only [h, if_false] <;> omega
  · cases hi with
    | none => simp [sliceBounds, HT.sIx]
    | some i =>
      simp only [sliceBounds, HT.sIx, Option.getD_none, show (1 : Int) > 0 by decide, if_true]
      by_cases h : i < 0
      · simp only [h, if_true] <;> omega
      · simp only [h, if_false] <;> omega
theorem slicePick_cut (its : List Value) (lo hi : Option Int) : slicePick its.toArray lo hi none = ((its.drop (HT.sIx its.length 0 lo)).take (HT.sIx its.length its.length hi - HT.sIx its.length 0 lo)).toArray := by
  obtain ⟨h1, h2, h3⟩ := slice_bounds lo hi its.toArray.size
  unfold slicePick
  rw [h1, h2, h3]
  simp only [sliceRange_one, pick_run, List.size_toArray] <;> rfl
def rSlL (K : PySem.W.Frag) : V → Option Int → Option Int → Hp → VK → Prop := fun x lo hi H Q => ∃ a xs, x = .ref a ∧ SqL K H a xs ∧ ∀ p, H p = none → Q (.ref p) (upd H p (.lst (cutV xs lo hi)))
theorem sl_list : SlR X (rSlL X.K) := by
  intro pins s σ H x v vl vu lo hi sl Q I rx hs pl pu h
  obtain ⟨a, xs, rfl, hx, q⟩ := h
  cases rx
  obtain ⟨its, r, ht, hz⟩ := I.list hx
  have hlen := r.length
  refine ⟨"list", _, slot_list_getitem.lookup, ht.isList.typeIs, ?_⟩
  refine wpAny_getItem_list_slice ht.isList hs pl pu .none (by simp) ?_ (by rw [List.size_toArray] <;> omega)
  rw [slicePick_cut, ← hlen]
  refine ⟨.ref s.heap.objs.size, _, I.laid (t' := s.toks) (o := .lst (cutV xs lo hi)) (fun b ob q => Heap.get?_push_of_some _ q) (Nat.le_refl _) ?_, rfl, q _ (I.hok.fresh (Nat.le_refl _))⟩
  exact ⟨Nat.le_trans (cutV_length xs lo hi) hz, _, 0, (r.drop (HT.sIx xs.length 0 lo)).take (HT.sIx xs.length xs.length hi - HT.sIx xs.length 0 lo), Heap.get?_push_size _ rfl⟩
theorem CallR.or {f : Value} {r r' : List V → Hp → VK → Prop} (h : CallR X f r) (h' : CallR X f r') : CallR X f (fun xs H Q => r xs H Q ∨ r' xs H Q) := by
  intro pins s σ H xs us Q I rs q
  rcases q with q | q
  · exact h pins s σ H xs us Q I rs q
  · exact h' pins s σ H xs us Q I rs q
theorem call_tuple_of : CallR X (.type "tuple") (fun xs H Q => ∃ p ys, xs = [.ref p] ∧ ((SqL X.K H p ys ∧ ∀ l, H l = none → Q (.ref l) (upd H l (.tup ys))) ∨ (SqT X.K H p ys ∧ Q (.ref p) H))) := by
  intro pins s σ H xs us Q I r h
  obtain ⟨p, ys, rfl, h⟩ := h
  obtain ⟨u, rfl, rx⟩ := vals1 r
  cases rx
  rcases h with ⟨hq, q⟩ | ⟨hq, q⟩
  · obtain ⟨its, r', pl, hz⟩ := I.list hq
    have hlen := r'.length
    refine call_tuple_list pl.isList (fun h' kp => ?_) (by simp only [List.size_toArray] <;> omega)
    have I1 : Inv X pins σ H { s with heap := h' } := I.kept (t' := s.toks) kp
    have I2 : Inv X pins σ (upd H h'.objs.size (.tup ys)) { s with heap := h'.push { cls := .type "tuple", data := .seq its.toArray } } :=
      I1.laid (t' := s.toks) (fun b o e => Heap.get?_push_of_some _ e) (Nat.le_refl _) (show ObjOk X.prog X.w _ _ _ (.tup ys) from ⟨hz, its, r', IsTup.new _ _⟩)
    exact ⟨.ref h'.objs.size, _, I2, rfl, q _ (I1.hok.fresh (Nat.le_refl _))⟩
  · obtain ⟨its, r', pl, hz⟩ := I.tuple hq
    exact call_tuple_same pl ⟨.ref p, H, I, rfl, q⟩
def tyV (K : PySem.W.Frag) (T : String) (x : V) (H : Hp) : Prop := match x with
  | .str _ => T = "str"
  | .int _ => T = "int"
  | .ref p => (T = "list" ∧ ∃ xs, SqL K H p xs) ∨ (T = "tuple" ∧ ∃ o, K.lookup p = some o ∧ o.cls = .type "tuple" ∧ o.dict = none) ∨
      (T = "dict" ∧ ((∃ kvs, H p = some (.dK kvs)) ∨ (∃ kvs, H p = some (.dT kvs)) ∨ ∃ ks vs, Rd H p (.dct ks vs))) ∨ (T = "set" ∧ ∃ S n, H p = some (.set S n))
  | _ => False
theorem tyV_is {pins : List (Addr × Obj)} {σ : St} {H : Hp} {s : Shared} {T : String} {x : V} {v : Value} (I : Inv X pins σ H s) (r : RelV x v) (ty : tyV X.K T x H) :
    s.TypeIs v T ∧ ∀ a, v = .ref a → ∃ ob, s.heap.get? a = some ob ∧ ob.dict = none := by
  cases x with
  | str z =>
    obtain ⟨t, rfl⟩ := r
    cases (show T = "str" from ty)
    exact ⟨typeIs_str s z t, fun _ e => nomatch e⟩
  | int i =>
    obtain ⟨t, rfl⟩ := r
    cases (show T = "int" from ty)
    exact ⟨typeIs_int s i t, fun _ e => nomatch e⟩
  | ref p =>
    cases r
    rcases ty with ⟨rfl, xs, hq⟩ | ⟨rfl, o, hk, hc, hd⟩ | ⟨rfl, hk⟩ | ⟨rfl, S, n, hk⟩
    · obtain ⟨its, _, pl, _⟩ := I.list hq
      refine ⟨pl.isList.typeIs, fun a e => ?_⟩
      cases e
      obtain ⟨o, n, e, c, hd, _⟩ := pl
      exact ⟨o, e, hd⟩
    · refine ⟨⟨o, I.kIn p o hk, hc⟩, fun a e => ?_⟩
      cases e
      exact ⟨o, I.kIn _ o hk, hd⟩
    · have z : ∃ o, s.heap.get? p = some o ∧ o.ExactDict := by
        rcases hk with ⟨kvs, hk⟩ | ⟨kvs, hk⟩ | ⟨ks, vs, hk⟩
        · obtain ⟨_, _, _, _, o, _, _, e, ex, _⟩ := I.hok p _ hk
          exact ⟨o, e, ex⟩
        · obtain ⟨_, _, _, _, o, _, _, e, ex, _⟩ := I.hok p _ hk
          exact ⟨o, e, ex⟩
        · obtain ⟨_, _, _, o, _, _, e, ex, _⟩ := hk.ok I.hok
          exact ⟨o, e, ex⟩
      obtain ⟨o, e, ex⟩ := z
      refine ⟨⟨o, e, ex.1⟩, fun a e2 => ?_⟩
      cases e2
      exact ⟨o, e, ex.2.1⟩
    · obtain ⟨o, _, _, _, e, ex, _⟩ := I.hok p _ hk
      refine ⟨⟨o, e, ex.1⟩, fun a e2 => ?_⟩
      cases e2
      exact ⟨o, e, ex.2.1⟩
  | _ => exact False.elim ty
def tBM (K : PySem.W.Frag) (T : String) (r : V → List V → Hp → VK → Prop) (to : TE) (t : TA) : TE := fun σ H Q => to σ H fun x H1 => tyV K T x H1 ∧ t σ H1 fun xs H2 => r x xs H2 Q
variable {o e : Expr} {es : List Expr} {to : TE} {t : TA} {name : Str} {apos cpos : Pos} {T id : String} {r : V → List V → Hp → VK → Prop}
theorem pe_bm (pa : PlainAttrs T) (slot : Slot T name id) (hty : typeOf (.builtin id) = pure (.type "method_descriptor")) (hm : MtR X id r) (ho : PE X o to) (ha : PA X (e :: es) t)
    (hbase : attributeBase o name X.env (eval o X.env) = eval o X.env := by rfl)
    (hfew : ((backTo cpos (starEach (e :: es) X.env)).all (fun x => !x.1) && (backToKw cpos (keywordEach [] X.env)).all (fun x => x.1.isSome)
      && decide ((e :: es).length + ([] : List Keyword).length + (if ([] : List Keyword).isEmpty then 0 else 1) < 30)) = true := by rfl)
    (hline : (apos.endLine == cpos.line) = true := by rfl) (hs : starEach (e :: es) X.env = (false, eval e X.env) :: starEach es X.env := by rfl) (hplain : (backTo cpos (starEach es X.env)).any (·.1) = false := by rfl) :
    PE X (.Call (.Attribute o name apos) (e :: es) [] cpos) (tBM X.K T r to t) := by
  intro pins s σ H Q I h
  refine wpAny_Call_method_late hbase hfew hline rfl (thn (ho pins s σ H _ I h) fun v s1 ⟨x, H1, I1, r1, ty, q1⟩ => ?_)
  obtain ⟨h1, h2⟩ := tyV_is I1 r1 ty
  refine ⟨T, id, pa, slot, hty, h1, h2, ?_⟩
  have hA := ha cpos pins s1 σ H1 _ I1 q1
  rw [hs] at hA ⊢
  refine Calls.callWith_builtin (by show (false || (backTo cpos (starEach es X.env)).any (·.1)) = false; rw [hplain] <;> rfl) (Calls.evalArgs_plain ?_)
  exact thn hA fun us s2 ⟨vs, H2, I2, r2, q2⟩ => hm pins s2 σ H2 x vs v us Q I2 r1 r2 q2
end
end L2
namespace L2
open PySem PySem.Spec PyProof.Rows
def MtM (X : Cx) (id : String) (r : V → List V → Hp → VK → Prop) : Prop :=
  ∀ (pins : List (Addr × Obj)) (s : Shared) (σ : St) (H : Hp) (x : V) (xs : List V) (v : Value) (us : List Value) (Q : VK), Inv X pins σ H s → RelV x v → Vals xs us → r x xs H Q →
    wpAny (model X.prog X.w) X.A (call (.builtin id) (v :: us)) (EP X pins σ Q) X.xe s
theorem Vals.one : ∀ {x : V} {us : List Value}, Vals [x] us → ∃ u, us = [u] ∧ RelV x u
  | _, _, .cons r .nil => ⟨_, rfl, r⟩
theorem Vals.zero : ∀ {us : List Value}, Vals [] us → us = []
  | _, .nil => rfl
theorem Vals.reverse {xs : List V} {us : List Value} (h : Vals xs us) : Vals xs.reverse us.reverse := by
  induction h with
  | nil => exact .nil
  | cons r t ih => rw [List.reverse_cons, List.reverse_cons]; exact Vals.append ih (.cons r .nil)
theorem Vals.rep {xs : List V} {us : List Value} (h : Vals xs us) : ∀ k : Nat, Vals (List.replicate k xs).flatten (List.replicate k us).flatten
  | 0 => .nil
  | k + 1 => by
    rw [List.replicate_succ, List.replicate_succ, List.flatten_cons, List.flatten_cons]
    exact Vals.append h (Vals.rep h k)
section
variable {X : Cx} {pins : List (Addr × Obj)} {σ : St} {H : Hp} {s : Shared} {l b : Addr} {xs ys zs : List V}
theorem Inv.lset {its its' : List Value} {n : Nat} {f : Array Value → Array Value} {t' : Nat} (I : Inv X pins σ H s) (hH : H l = some (.lst xs))
    (e : s.heap.get? l = some { cls := .type "list", data := .seq its.toArray n }) (hf : f its.toArray = its'.toArray) (hv : Vals ys its') (hz : ys.length ≤ sizeLine) :
    Inv X pins σ (upd H l (.lst ys)) { s with heap := s.heap.update l (Obj.mapSeq f), toks := t' } := by
  have q := PySem.IsL.update e f
  rw [hf] at q
  refine I.write (x := l) (e := l) (by rw [hH]; exact trivial) (.inl rfl) (fun b' u hb hu => (Heap.get?_update_other s.heap (Obj.mapSeq f) (Ne.symm hb)).trans hu) ⟨_, q⟩ ?_
  exact ⟨hz, its', _, hv, q⟩
theorem Inv.lnew {its : List Value} {t' : Nat} (I : Inv X pins σ H s) (hv : Vals ys its) (hz : ys.length ≤ sizeLine) :
    Inv X pins σ (upd H s.heap.objs.size (.lst ys)) { s with heap := s.heap.push { cls := .type "list", data := .seq its.toArray }, toks := t' } :=
  I.laid (fun _ _ q => Heap.get?_push_of_some _ q) (Nat.le_refl _) ⟨hz, its, 0, hv, Heap.get?_push_size _ rfl⟩
theorem Inv.fresh (I : Inv X pins σ H s) : H s.heap.objs.size = none := I.hok.fresh (Nat.le_refl _)
theorem Inv.lstM (I : Inv X pins σ H s) (hH : H l = some (.lst xs)) : xs.length ≤ sizeLine ∧ ∃ (its : List Value) (n : Nat), Vals xs its ∧ xs.length = its.length ∧ s.heap.get? l = some { cls := .type "list", data := .seq its.toArray n } := by
  obtain ⟨z, its, n, r, e⟩ := I.hok l _ hH
  exact ⟨z, its, n, r, r.length, e⟩
end
section
variable {X : Cx}
def rAppend : V → List V → Hp → VK → Prop := fun x vs H Q => ∃ l xs y, x = .ref l ∧ vs = [y] ∧ H l = some (.lst xs) ∧ xs.length < sizeLine ∧ Q .non (upd H l (.lst (xs ++ [y])))
theorem mt_append : MtM X "list.append" rAppend := by
  intro pins s σ H x vs v us Q I rx rv h
  obtain ⟨l, xs, y, rfl, rfl, hH, hz, q⟩ := h
  cases rx
  obtain ⟨u, rfl, ru⟩ := rv.one
  obtain ⟨z, its, n, r, hl, e⟩ := I.lstM hH
  refine call_meets F.slot_list_append ⟨_, e, rfl⟩ F.entry_list_append (F.args_list_append_2 _ _) (PySem.list_append l its.toArray n u (by rw [List.size_toArray]; omega)) ⟨e, ?_⟩
  refine ⟨.non, _, I.lset (its' := its ++ [u]) hH e (by simp) (r.append (.cons ru .nil)) ?_, rfl, q⟩
  rw [List.length_append, List.length_singleton]
  omega
end
section
variable {prog : Program} {w : World} {A : Around} {E : Value → Shared → Prop} {s : Shared}
set_option maxRecDepth 100000 in
end
section
variable {X : Cx}
end
end L2
namespace Att
open PySem PySem.W PySem.Calls PyProof.Rows
theorem ints_of_wellAll {P : Params} {h : Heap} : ∀ (ns : List Int) (vs : List Value), WellAll P h vs (ns.map WData.int) → IntsAre vs ns := by
  intro ns
  induction ns with
  | nil =>
    intro vs w
    rw [List.map_nil] at w
    cases w
    exact .nil
  | cons n ns ih =>
    intro vs w
    rw [List.map_cons] at w
    cases w with
    | cons a b =>
      cases a
      exact .cons _ _ (ih _ b)
theorem script_of {l : OpenLaw} {n : Nat} (hn : l.most = some n) {P : Params} {h : Heap} {args : List WData} {vals : List Value}
    (hpre : l.row.toRowW.claim.pre args = true) (hwl : WellAll P h vals args) :
    ∃ a vs ns, vals = [Value.ref a] ∧ args = [WData.list (ns.map WData.int)] ∧ h.get? a = some { cls := .type "list", data := .seq vs.toArray } ∧ IntsAre vs ns ∧ ns.length ≤ n := by
  have hsh : WShape.hasAll [] args [.list .int] = true := (pre_splitW hpre).1
  have hc : l.pre.holds [] { args := args } = true := (pre_splitW hpre).2
  obtain ⟨d, r, rfl, h1, h2⟩ := hasAllW_cons hsh
  obtain rfl := hasAllW_nil h2
  obtain ⟨xs, rfl, h3⟩ := hasW_list h1
  obtain ⟨ns, rfl⟩ := items_int h3
  have hlen : ns.length ≤ n := by
    unfold OpenLaw.pre at hc
    have h4 : (WTm.not (.lt (.lit (.int (n : Int))) (.len (.arg 0)))).holds [] { args := [.list (ns.map .int)] } = true := by
      have h4 := (holds_andW hc).1
      rw [hn] at h4
      exact h4
    have h5 := condW_of h4 (w_not (w_lt w_lit (w_len_list (w_arg rfl))))
    rw [List.length_map] at h5
    refine Nat.le_of_not_lt fun q => ?_
    have q' : (n : Int) < ((ns.length : Nat) : Int) := by omega
    first
      | (rw [decide_eq_true q'] at h5; exact absurd h5 (by decide))
      | (simp at h5; omega)
  cases hwl with
  | cons w1 w2 =>
    cases w2
    cases w1 with
    | list ho hall => exact ⟨_, _, ns, rfl, rfl, ho, ints_of_wellAll ns _ hall, hlen⟩
theorem post_true (l : OpenLaw) (args : List WData) : l.row.toRowW.claim.post args (.bool true) args = true :=
  postW_of (r := l.row.toRowW) (X := (true == true))
    (show WShape.has [] (.bool true) .bool = true by first | rfl | decide | simp [WShape.has, WShape.arms, WShape.armsAll])
    (show (WTm.eq .res (.lit (.bool true))).value [] { args := args, res := some (.bool true), after := args } = some (.bool (true == true)) from w_eq_bool (w_res rfl) w_lit) rfl
theorem attach_call {l : OpenLaw} {n : Nat} {q : Program} {loose : List Str} {XP : (Str → Option Value) → Heap → Prop} {YP : World → Heap → Prop} {d : DefRec}
    (hn : l.most = some n) (hdf : d.params.defaults = [])
    (call : ∀ (w : World) (s₀ s₁ : Shared) (mg mb : Str → Option Value) (fa : Addr) (o : Obj) (pm cd doc : Value) (a : Addr) (vs : List Value) (ns : List Int),
      Ground q loose [] XP w s₀ mg mb s₁.heap → YP w s₁.heap →
      s₁.heap.get? fa = some o → o.data = .func (docDef d.name d.params d.body d.scope pm cd doc) → s₁.heap.CodeRec cd d.name → mg d.name = some (.ref fa) →
      s₁.heap.get? a = some { cls := .type "list", data := .seq vs.toArray } → IntsAre vs ns → ns.length ≤ n → s₁.gens = #[] →
      codeAny (model l.prog w) callerA (.call (.ref fa) ⟨[.ref a], []⟩) (fun r s' => r = .ok (.ret (.bool true)) ∧ OldK s₁.heap s'.heap ∧ s'.os = s₁.os ∧ AllBare s'.gens) s₁) :
    WalkO q loose XP YP l.row.toRowW d [] (fun f vs => PySem.call f vs) := by
  intro w s₀ s₁ mg mb G Y fa o pm cd doc dV kV ho hd hcd hD hmg hg args vals as hpre hlay hrd hwl hlo
  obtain rfl : dV = .none := Dflts.none hD hdf
  obtain rfl : kV = .none := Dflts.noKw hD
  obtain ⟨a, vs, ns, rfl, rfl, hobj, hints, hlen⟩ := script_of hn hpre hwl
  refine enter_call (codeAny_mono (call w s₀ s₁ mg mb fa o pm cd doc a vs ns G Y ho (fd_plain hd) hcd hmg hobj hints hlen hg) fun r s' hq => ?_)
  obtain ⟨rfl, h2, h3, h4⟩ := hq
  exact ⟨.inl ⟨.bool true, .bool true, [], rfl, fun _ => rfl, .bool true, post_true l _, fun _ => ⟨List.Pairwise.nil, fun _ hm => (nomatch hm)⟩⟩, h2, h3, h4⟩
section
variable {prog : Program} {w : World} {A : Around} {E : Value → Shared → Prop} {s : Shared} {K : Frag}
end
end Att
namespace L2
open PySem PySem.Spec PyProof.Rows
theorem vals_ints : ∀ {vs : List Value} {ns : List Int}, IntsAre vs ns → Vals (ns.map V.int) vs
  | _, _, .nil => .nil
  | _, _, .cons n t h => .cons ⟨t, rfl⟩ (vals_ints h)
def Only (H : Hp) : Prop := ∀ b, H b = none ∨ ∃ o xs, H b = some (.frz o (.lst xs))
theorem law_call {P : Program} {w : World} {K : PySem.W.Frag} {mg mb : Str → Option Value} {CX : CXT} {k : Nat} {fa a : Addr} {fd : FuncData} {x : Str} {sp : Sp} {s₁ : Shared} {vs : List Value} {ns : List Int}
    (KX : K.In s₁.heap) (hns : s₁.heap.Ns mainGlobals mg) (hb : s₁.heap.Ns builtinsNs mb) (hbb : ∀ x : Str, x ≠ "__name__" → mb x = bootBuiltins x) (hlim : s₁.heap.NoLimit) (hg : s₁.gens = #[])
    (ha : s₁.heap.get? a = some { cls := .type "list", data := .seq vs.toArray }) (hi : IntsAre vs ns) (hl : ns.length ≤ sizeLine) (hr : Room k callerA)
    (F : ∀ base : Heap, K.In base → base.Ns mainGlobals mg → FnOk P w K mg base CX k fa fd [x] sp) (hbind : ∀ (s : Shared) (u : Value), BindsTo s fd ⟨[u], []⟩ [(x, u)])
    (hsp : ∀ H : Hp, Only H → SqL K H a (ns.map V.int) → sp [.ref a] H (fun v _ => v = .bl true) fun _ _ _ => False)
    (hCX : ∀ H e s', CX [] H s₁ (fun _ _ _ => False) e s' → False) :
    codeAny (model P w) callerA (.call (.ref fa) ⟨[.ref a], []⟩) (fun r s' => r = .ok (.ret (.bool true)) ∧ OldK s₁.heap s'.heap ∧ s'.os = s₁.os ∧ AllBare s'.gens) s₁ := by
  have rv := vals_ints hi
  have lenV := hi.length
  -- from an abstract heap in which nothing but the script may be tracked
  have core : ∀ H : Hp, Only H → SqL K H a (ns.map V.int) → HOk P w H s₁.heap → (∀ b, H b ≠ none → b = a) → (H a ≠ none → K.lookup a = none) →
      codeAny (model P w) callerA (.call (.ref fa) ⟨[.ref a], []⟩) (fun r s' => r = .ok (.ret (.bool true)) ∧ OldK s₁.heap s'.heap ∧ s'.os = s₁.os ∧ AllBare s'.gens) s₁ := by
    intro H hO hS hok hA hK
    have base_of : ∀ {b : Addr} {o : Obj}, s₁.heap.get? b = some o → H b = none → (hidT s₁.heap H).get? b = some o := fun e n => hidT_get e n
    have noA : ∀ {b : Addr} {o : Obj} {es : Array DictEntry} {ep : Nat}, s₁.heap.get? b = some o → o.data = .dict es ep → H b = none := fun {b o es ep} e d => by
      cases q : H b with
      | none => rfl
      | some u =>
        have e' : b = a := hA b (by rw [q]; simp)
        subst e'
        rw [ha] at e; cases e
        have d' : Data.seq vs.toArray _ = Data.dict es ep := d
        cases d'
    have nsK : ∀ {b : Addr} {m : Str → Option Value}, s₁.heap.Ns b m → (hidT s₁.heap H).Ns b m := fun {b m} ⟨o, es, ep, e, d, r⟩ => ⟨o, es, ep, base_of e (noA e d), d, r⟩
    have hKb : K.In (hidT s₁.heap H) := fun b o e => base_of (KX b o e) (by
      cases q : H b with
      | none => rfl
      | some u =>
        have e' : b = a := hA b (by rw [q]; simp)
        subst e'
        rw [hK (by rw [q]; simp)] at e; cases e)
    have hM : Mod K mg (hidT s₁.heap H) := ⟨hKb, nsK hns, ⟨mb, nsK hb, hbb⟩, let ⟨mc, h1, h2⟩ := hlim; ⟨mc, nsK h1, h2⟩⟩
    have e0 : Env0 P w K mg (hidT s₁.heap H) callerA [] s₁ H := ⟨rfl, hM, fun b o e => of_hidT e, Nat.le_of_eq (hidT_size _ _), trivial, fun b hb => absurd (show b ∈ ([] : List Addr) from hb) (by simp), hok, .of_eq hg⟩
    refine codeAny_mono ((F _ hKb (nsK hns)).run callerA [] s₁ H ⟨[.ref a], []⟩ [.ref a] [.ref a] _ _ hr e0 (hbind s₁ (.ref a)) (.cons rfl .nil) (hsp H hO hS)) fun r s' h => ?_
    cases r with
    | error e => exact (hCX H e s' h).elim
    | ok fl =>
      cases fl with
      | next => exact False.elim h
      | brk => exact False.elim h
      | cont => exact False.elim h
      | ret u =>
        obtain ⟨v, H', os, bare, un, hok', r', q⟩ := h
        have q' : v = .bl true := q
        subst q'
        obtain rfl : u = Value.bool true := r'
        refine ⟨rfl, OldK.of_keep fun b o e => ?_, os, bare⟩
        cases q : H b with
        | none => exact un.keep b o e q (by intro z; exact absurd (show b ∈ ([] : List Addr) from z) (by simp)) (by simp)
        | some u =>
          rcases hO b with z | ⟨ob, xs, z⟩
          · rw [q] at z; cases z
          · have z2 := un.frzs b ob _ z
            obtain ⟨e1, _⟩ := hok b _ z
            obtain ⟨e2, _⟩ := hok' b _ z2
            rw [e] at e1; cases e1
            exact e2
  cases hk : K.lookup a with
  | some o =>
    -- the script is one of the module's own objects
    have e := KX a o hk
    rw [ha] at e
    cases e
    refine core (fun _ => none) (fun _ => .inl rfl) (.inr ⟨_, vs.toArray, _, hk, rfl, rfl, rfl, by rw [List.size_toArray, lenV]; exact hl, by simpa using rv⟩) (fun b u z => by have z' : (none : Option HO) = some u := z; cases z') (fun b z => absurd rfl z) fun z => absurd rfl z
  | none =>
    refine core (fun b => if b = a then some (.frz { cls := .type "list", data := .seq vs.toArray } (.lst (ns.map V.int))) else none) (fun b => ?_) (.inl (.inr ⟨{ cls := .type "list", data := .seq vs.toArray }, if_pos rfl⟩)) (fun b u z => ?_) (fun b z => ?_) fun _ => hk
    · by_cases hb : b = a
      · exact .inr ⟨_, _, if_pos hb⟩
      · exact .inl (if_neg hb)
    · by_cases hb : b = a
      · have z' := (if_pos hb).symm.trans z
        cases z'
        subst hb
        exact ⟨ha, by rw [List.length_map]; exact hl, vs, _, rv, ha⟩
      · have z' := (if_neg hb).symm.trans z
        cases z'
    · by_cases hb : b = a
      · exact hb
      · exact absurd (if_neg hb) z
end L2
namespace L2
open PySem PySem.Spec PyProof.Rows
theorem walk_of {l : PySem.W.OpenLaw} {n k : Nat} {q : Program} {loose : List Str} {XP : (Str → Option Value) → Heap → Prop} {YP : World → Heap → Prop} {d : DefRec} {K : Params → PySem.W.Frag} {CX : World → CXT} {sp : World → Sp} {x : Str}
    (hn : l.most = some n) (hn2 : n ≤ sizeLine) (hdf : d.params.defaults = []) (hr : Room k callerA)
    (hY : ∀ (w : World) (h : Heap), YP w h → (K w.params).In h)
    (F : ∀ (w : World) (mg : Str → Option Value) (fa : Addr) (h : Heap), (K w.params).In h → h.Ns mainGlobals mg → mg d.name = some (.ref fa) →
      ∃ fd : FuncData, (∀ (s : Shared) (u : Value), BindsTo s fd ⟨[u], []⟩ [(x, u)]) ∧
        ∀ base : Heap, (K w.params).In base → base.Ns mainGlobals mg → FnOk l.prog w (K w.params) mg base (CX w) k fa fd [x] (sp w))
    (hsp : ∀ (w : World) (H : Hp) (a : Addr) (ns : List Int), ns.length ≤ n → Only H → SqL (K w.params) H a (ns.map V.int) → sp w [.ref a] H (fun v _ => v = .bl true) fun _ _ _ => False)
    (hCX : ∀ (w : World) (H : Hp) (s : Shared) (e : Value) (s' : Shared), CX w [] H s (fun _ _ _ => False) e s' → False) :
    PySem.W.WalkO q loose XP YP l.row.toRowW d [] (fun f vs => PySem.call f vs) := by
  refine Att.attach_call hn hdf fun w s₀ s₁ mg mb fa o pm cd doc a vs ns G Y ho hd hcd hmg hobj hints hlen hg => ?_
  have KX := hY w _ Y
  obtain ⟨fd, hb, hF⟩ := F w mg fa _ KX G.T.g hmg
  exact law_call KX G.T.g G.T.b G.T.builtins G.T.nolimit hg hobj hints (Nat.le_trans hlen hn2) hr hF hb (fun H hO hS => hsp w H a ns hlen hO hS) fun H e s' => hCX w H s₁ e s'
end L2
namespace L2
open PySem PySem.Spec PyProof.Rows
def defArgs (s : Stmt) : Arguments := match s with
  | .FunctionDef _ a _ _ _ _ _ _ _ _ => a
  | _ => { posonlyargs := [], args := [], vararg := none, kwonlyargs := [], kw_defaults := [], kwarg := none, defaults := [] }
def defBody (s : Stmt) : List Stmt := match s with
  | .FunctionDef _ _ b _ _ _ _ _ _ _ => b
  | _ => []
def defScope (s : Stmt) : Scope := match s with
  | .FunctionDef _ _ _ _ _ _ sc _ _ _ => sc
  | _ => { kind := .function, names := [], isGenerator := false, isCoroutine := false }
abbrev CX0 : CXT := fun _ _ _ _ _ _ => False
abbrev E0 : XK := fun _ _ _ => False
theorem pass0 {X : Cx} : Passes CX0 X E0 := fun _ _ _ _ _ _ _ h => h.elim
structure Fun (K : PySem.W.Frag) (x qual : Str) (st : Stmt) (f : Addr) (fd : FuncData) : Prop where
  ex : ∃ (oc : Value) (od : Option Addr) (kV doc pm : Value) (an : Option Addr) (cdv ct : Value) (osl : Array (Option Value)),
    fd = PySem.W.fnOf x qual (defArgs st) (defBody st) (defScope st) .none kV doc pm an cdv ct ∧ K.lookup f = some ⟨oc, od, .func fd, osl⟩ ∧ PySem.W.codeIn K cdv qual = true
  kp : PySem.W.keepIn K (.ref f) = true
section
variable {P : Program} {w : World} {K : PySem.W.Frag} {mg : Str → Option Value} {base : Heap}
theorem Fun.ok {x qual : Str} {st : Stmt} {f : Addr} {fd : FuncData} {N ps : List Str} {k : Nat} {sp : Sp} (F : Fun K x qual st f fd) (S : FnScope N ps (defScope st)) (len : ∀ vs H Q E, sp vs H Q E → vs.length = ps.length)
    (hbody : ∀ (cdv : Value) (A : Around) (outer : List Env) (s : Shared) (H : Hp) (vs : List V) (Q : VK) (E : XK), Room k (A.deeper (envOfC qual (defScope st) s.heap.objs.size f cdv)) → sp vs H Q E →
      ∃ t, PSs (cxOf CX0 P w K mg base N qual (defScope st) f cdv A outer s H E).nox (defBody st) t ∧ t { nx := fun _ H' => Q .non H', rt := Q } (start N vs) H) : FnOk P w K mg base CX0 (k + 1) f fd ps sp := by
  obtain ⟨oc, od, kV, doc, pm, an, cdv, ct, osl, rfl, lk, hcd⟩ := F.ex
  refine fn_of lk hcd S len fun A outer s H vs Q E hr hsp => ?_
  obtain ⟨t, h, q⟩ := hbody cdv A outer s H vs Q E hr hsp
  exact ⟨t, h.nox, q⟩
theorem Fun.binds {x qual : Str} {st : Stmt} {f : Addr} {fd : FuncData} {ps : List Str} (F : Fun K x qual st f fd)
    (h : ∀ (kV doc pm : Value) (an : Option Addr) (cdv ct : Value) (us : List Value), us.length = ps.length → bindArgs (PySem.W.fnOf x qual (defArgs st) (defBody st) (defScope st) .none kV doc pm an cdv ct) ⟨us, []⟩ = pure (ps.zip us)) : Binds K fd ps [] := by
  obtain ⟨oc, od, kV, doc, pm, an, cdv, ct, osl, rfl, lk, hcd⟩ := F.ex
  exact .all (h kV doc pm an cdv ct)
theorem fun_mk {x qual : Str} {st : Stmt} {f : Addr} {oc : Value} {od an : Option Addr} {osl : Array (Option Value)} {kV doc pm cdv ct : Value} (l : K.lookup f = some ⟨oc, od, .func (PySem.W.fnOf x qual (defArgs st) (defBody st) (defScope st) .none kV doc pm an cdv ct), osl⟩)
    (c : PySem.W.codeIn K cdv qual = true) (k : PySem.W.keepIn K (.ref f) = true) : Fun K x qual st f (PySem.W.fnOf x qual (defArgs st) (defBody st) (defScope st) .none kV doc pm an cdv ct) := ⟨⟨oc, od, kV, doc, pm, an, cdv, ct, osl, rfl, l, c⟩, k⟩
end
section
variable {X : Cx}
end
def Same (H H' : Hp) : Prop := ∀ b o, H b = some o → H' b = some o
theorem Same.refl (H : Hp) : Same H H := fun _ _ h => h
theorem Same.trans {H H1 H2 : Hp} (a : Same H H1) (b : Same H1 H2) : Same H H2 := fun c o h => b c o (a c o h)
theorem Same.free {H H' : Hp} (e : Same H H') {l : Addr} (h : H' l = Option.none) : H l = Option.none := by
  cases q : H l with
  | none => rfl
  | some o =>
    rw [e l o q] at h
    cases h
theorem Same.seq {K : PySem.W.Frag} {H H' : Hp} {a : Addr} {xs : List V} (e : Same H H') (h : SqL K H a xs) : SqL K H' a xs := by
  rcases h with (h | ⟨o, h⟩) | h
  · exact .inl (.inl (e _ _ h))
  · exact .inl (.inr ⟨o, e _ _ h⟩)
  · exact .inr h
end L2
set_option Elab.async false
set_option linter.all false
set_option maxRecDepth 100000
set_option maxHeartbeats 4000000
namespace L2
open PySem PySem.Spec PyProof.Rows
def closL (env : Env) : List (Str × NameKind) → List (Str × Addr) → List (Str × Addr)
  | [], cs => cs
  | (n, k) :: r, cs => if k = NameKind.free then closL env r ((n, (env.cells.lookup n).getD 0) :: cs) else closL env r cs
theorem closureFor_eq {scope : Scope} {env : Env} (h : ∀ x ∈ scope.names, x.2 = .free → ∃ c, env.cells.lookup x.1 = some c) :
    closureFor scope env = pure (closL env scope.names []) := by
  have all : ∀ (l : List (Str × NameKind)) (cs : List (Str × Addr)), (∀ x ∈ l, x.2 = .free → ∃ c, env.cells.lookup x.1 = some c) →
      (forIn l cs (fun (x : Str × NameKind) (cs : List (Str × Addr)) => if (x.2 == NameKind.free) = true then (do let a ← cellOf env x.1; pure (ForInStep.yield ((x.1, a) :: cs))) else pure (ForInStep.yield cs)) : Sem (List (Str × Addr))) = pure (closL env l cs) := by
    intro l
    induction l with
    | nil => intro cs _; rfl
    | cons x l ih =>
      intro cs hx
      obtain ⟨n, k⟩ := x
      rw [List.forIn_cons]
      have hr := fun cs => ih cs (fun y hy => hx y (List.mem_cons_of_mem _ hy))
      by_cases hk : k = .free
      · subst hk
        obtain ⟨c, hc⟩ := hx (n, .free) List.mem_cons_self rfl
        have e : cellOf env n = pure c := by unfold cellOf; simp only [hc]
        simp only [beq_self_eq_true, if_true, e, pure_bind, hr, closL, hc, Option.getD_some]
      · have hb : (k == NameKind.free) = false := by simpa using hk
        simp only [hb, Bool.false_eq_true, if_false, pure_bind, hr, closL, hk]
  have := all scope.names [] h
  simp only [closureFor]
  rw [← bind_pure (pure (closL env scope.names []) : Sem _), ← this]
theorem closL_mem {env : Env} : ∀ (l : List (Str × NameKind)) (cs : List (Str × Addr)), (∀ x ∈ l, x.2 = .free → ∃ c, env.cells.lookup x.1 = some c) →
    (∀ p ∈ cs, env.cells.lookup p.1 = some p.2) → ∀ p ∈ closL env l cs, env.cells.lookup p.1 = some p.2
  | [], cs, _, h => h
  | (n, k) :: r, cs, hx, h => by
    have hr : ∀ x ∈ r, x.2 = .free → ∃ c, env.cells.lookup x.1 = some c := fun y hy => hx y (List.mem_cons_of_mem _ hy)
    by_cases hk : k = .free
    · subst hk
      obtain ⟨c, hc⟩ := hx (n, .free) List.mem_cons_self rfl
      simp only [closL, if_true]
      refine closL_mem r _ hr fun p hp => ?_
      rcases List.mem_cons.mp hp with e | hp
      · subst e; simp only [hc, Option.getD_some]
      · exact h p hp
    · simp only [closL, hk, if_false]
      exact closL_mem r cs hr h
theorem closL_has {env : Env} : ∀ (l : List (Str × NameKind)) (cs : List (Str × Addr)) (x : Str), ((x, NameKind.free) ∈ l ∨ ∃ c, (x, c) ∈ cs) → ∃ c, (x, c) ∈ closL env l cs
  | [], cs, x, h => by
    rcases h with h | h
    · cases h
    · exact h
  | (n, k) :: r, cs, x, h => by
    by_cases hk : k = .free
    · subst hk
      simp only [closL, if_true]
      refine closL_has r _ x ?_
      rcases h with h | ⟨c, h⟩
      · rcases List.mem_cons.mp h with e | h
        · cases e; exact .inr ⟨_, List.mem_cons_self⟩
        · exact .inl h
      · exact .inr ⟨c, List.mem_cons_of_mem _ h⟩
    · simp only [closL, hk, if_false]
      refine closL_has r cs x ?_
      rcases h with h | h
      · rcases List.mem_cons.mp h with e | h
        · cases e; exact absurd rfl hk
        · exact .inl h
      · exact .inr h
theorem lookup_has {β : Type} : ∀ {l : List (Str × β)} {x : Str} {c : β}, (x, c) ∈ l → ∃ d, l.lookup x = some d
  | [], _, _, h => by cases h
  | (n, b) :: r, x, c, h => by
    rw [List.lookup_cons]
    cases e : x == n with
    | true => exact ⟨b, rfl⟩
    | false =>
      rcases List.mem_cons.mp h with z | h
      · cases z; simp at e
      · exact lookup_has h
structure CompSc (own outs : List Str) (sc osc : Scope) : Prop where
  kind : sc.kind = .function
  nocell : ∀ x ∈ sc.names, x.2 ≠ .cell
  free : ∀ x ∈ sc.names, x.2 = .free → osc.names.lookup x.1 = some .cell ∨ osc.names.lookup x.1 = some .free
  loc : ∀ x ∈ sc.names, x.2 = .local → sc.names.lookup x.1 = some .local
  out : ∀ x ∈ outs, sc.names.lookup x = some .free
  nd : (own ++ outs).Nodup
theorem relabel_free {env : Env} : ∀ {names : List (Str × NameKind)} {x : Str}, names.lookup x = some .free →
    ((names.map fun (n, k) => if (k == NameKind.free && env.scope.kind == .function && env.kindOf n == some .cell) then (n, NameKind.cell) else (n, k)).lookup x = some .cell ∨
      (names.map fun (n, k) => if (k == NameKind.free && env.scope.kind == .function && env.kindOf n == some .cell) then (n, NameKind.cell) else (n, k)).lookup x = some .free)
  | [], _, h => by simp at h
  | (n, k) :: r, x, h => by
    have ih := @relabel_free env r x
    rw [List.map_cons]
    by_cases hc : (k == NameKind.free && env.scope.kind == .function && env.kindOf n == some .cell) = true
    · rw [show (match ((n, k) : Str × NameKind) with | (n, k) => if (k == NameKind.free && env.scope.kind == .function && env.kindOf n == some .cell) then (n, NameKind.cell) else (n, k)) = (n, NameKind.cell) from if_pos hc]
      rw [List.lookup_cons] at h ⊢
      cases hx : x == n with
      | true => exact .inl rfl
      | false => rw [hx] at h; exact ih h
    · rw [show (match ((n, k) : Str × NameKind) with | (n, k) => if (k == NameKind.free && env.scope.kind == .function && env.kindOf n == some .cell) then (n, NameKind.cell) else (n, k)) = (n, k) from if_neg hc]
      rw [List.lookup_cons] at h ⊢
      cases hx : x == n with
      | true => rw [hx] at h; exact .inr h
      | false => rw [hx] at h; exact ih h
theorem relabel_mem {env : Env} : ∀ {names : List (Str × NameKind)} {x : Str} {k : NameKind}, k = .cell ∨ k = .free → (∀ y ∈ names, y.2 ≠ .cell) →
    (names.map fun (n, k) => if (k == NameKind.free && env.scope.kind == .function && env.kindOf n == some .cell) then (n, NameKind.cell) else (n, k)).lookup x = some k → (x, NameKind.free) ∈ names
  | [], _, _, _, _, h => by simp at h
  | (n, j) :: r, x, k, hk, hn, h => by
    have ih := @relabel_mem env r x k hk fun y hy => hn y (List.mem_cons_of_mem _ hy)
    rw [List.map_cons] at h
    by_cases hc : (j == NameKind.free && env.scope.kind == .function && env.kindOf n == some .cell) = true
    · rw [show (match ((n, j) : Str × NameKind) with | (n, k) => if (k == NameKind.free && env.scope.kind == .function && env.kindOf n == some .cell) then (n, NameKind.cell) else (n, k)) = (n, NameKind.cell) from if_pos hc] at h
      rw [List.lookup_cons] at h
      cases hx : x == n with
      | true =>
        have e : x = n := by simpa using hx
        have ej : j = .free := by
          simp only [Bool.and_eq_true, beq_iff_eq] at hc
          exact hc.1.1
        subst e ej
        exact List.mem_cons_self
      | false => rw [hx] at h; exact List.mem_cons_of_mem _ (ih h)
    · rw [show (match ((n, j) : Str × NameKind) with | (n, k) => if (k == NameKind.free && env.scope.kind == .function && env.kindOf n == some .cell) then (n, NameKind.cell) else (n, k)) = (n, j) from if_neg hc] at h
      rw [List.lookup_cons] at h
      cases hx : x == n with
      | true =>
        rw [hx] at h
        have e : x = n := by simpa using hx
        have ej : j = k := Option.some.inj h
        subst e ej
        rcases hk with hk | hk
        · exact absurd hk (hn _ List.mem_cons_self)
        · subst hk; exact List.mem_cons_self
      | false => rw [hx] at h; exact List.mem_cons_of_mem _ (ih h)
def cxC (X : Cx) (own outs : List Str) (scope : Scope) (C : Addr) (s2 : Shared) (H2 : Hp) (fp : List Addr) (pins : List (Addr × Obj)) : Cx where
  prog := X.prog
  w := X.w
  K := X.K
  mg := X.mg
  base := X.base
  A := X.A
  N := own ++ outs
  s₀ := s2
  H₀ := H2
  env := compEnvC scope (closL X.env scope.names []) C X.env
  outer := X.stack
  stack := X.stack
  ex := fp
  fn := fun _ => false
  calm := X.calm
  pn := X.pn ++ pins
  xe := fun _ _ => False
def PFs (X : Cx) (ifs : List Expr) (tt : TT) : Prop :=
  ∀ (pins : List (Addr × Obj)) (s : Shared) (σ : St) (H : Hp) (Q : Bool → Hp → Prop), Inv X pins σ H s → tt σ H Q →
    wpAny (model X.prog X.w) X.A (forIn ifs true fun c r => if r = true then do let ok ← isTrue c X.env (eval c X.env); pure (ForInStep.yield ok) else pure (ForInStep.yield r)) (TP X pins σ Q) X.xe s
def tYes : TT := fun _ H Q => Q true H
theorem pf_nil {X : Cx} : PFs X [] tYes := fun _ _ _ H _ I h => wpAny_tests_nil ⟨H, I, h⟩
def startC (k : Nat) (oix : List Nat) (σ : St) : St := List.replicate k none ++ oix.map fun j => (σ[j]?).join
def tTurns (k : Nat) (oix : List Nat) (g : TG) (tt : TT) (te : TE) (J : It) (σ : St) (H : Hp) (Q : VK) : Prop :=
  ∃ (n : Nat) (W : Nat → List V → Hp → Prop), W 0 [] H ∧ ∀ i ys H2, W i ys H2 →
    (J.stop i H2 ∧ ys.length ≤ sizeLine ∧ ∀ p, H2 p = none → Q (.ref p) (upd H2 p (.lst ys))) ∨
    (J.go i H2 ∧ i < n ∧ ys.length < sizeLine ∧ ∃ N : List V → Hp → Prop, (∀ ys' H', N ys' H' → W (i + 1) ys' H') ∧ ∀ x H3, J.yld i H2 x H3 → g x (startC k oix σ) H3 fun σ4 H4 => σ4.drop k = (startC k oix σ).drop k ∧
      tt σ4 H4 fun b H5 => if b = true then te σ4 H5 fun y H6 => N (ys ++ [y]) H6 else N ys H5)
def tComp (k : Nat) (oix : List Nat) (wi : TI) (g : TG) (tt : TT) (te : TE) : TE := fun σ H Q => wi σ H fun J H1 => tTurns k oix g tt te J σ H1 Q
def lobj (its : List Value) (n : Nat) : Obj := { cls := .type "list", data := .seq its.toArray n }
theorem HOk.track {P : Program} {w : World} {H : Hp} {h : Heap} {a : Addr} {o : HO} (x : HOk P w H h) (hn : H a = none) (new : ObjOk P w (upd H a o) h a o) : HOk P w (upd H a o) h := fun b u e => by
  by_cases hb : b = a
  · subst hb; rw [upd_same] at e; cases e; exact new
  · rw [upd_ne hb] at e
    exact (x b u e).stay (fun c v _ q => q) (fun c q => by rw [upd_ne (ne_of_none q hn)]; exact q) fun c xs q => by rw [upd_ne (ne_of_none q hn)]; exact q
theorem comp_core {X : Cx} {pins : List (Addr × Obj)} {σ : St} {H2 : Hp} {s2 : Shared} {tg elt iter : Expr} {ifs : List Expr} {scope : Scope} {pos : Pos} {J : It} {fp : List Addr} {it : Addr} {tn : Nat → Heap → Prop}
    {own outs : List Str} {oix : List Nat} {g : TG} {tt : TT} {te : TE} {Q : VK} {E : Value → Shared → Prop} {RR : Value → Addr → Result → Shared → Prop}
    (S : CompSc own outs scope X.env.scope) (hox : oix.map (fun j => X.N[j]?) = outs.map some) (hc : X.calm = true)
    (hg : ∀ C s2 H2 fp pins, PG (cxC X own outs scope C s2 H2 fp pins) tg g)
    (ht : ∀ C s2 H2 fp pins, PFs (cxC X own outs scope C s2 H2 fp pins) ifs tt)
    (he : ∀ C s2 H2 fp pins, PE (cxC X own outs scope C s2 H2 fp pins) elt te)
    (I2 : Inv X pins σ H2 s2) (T : Turn X.prog X.w X.K tg J fp it tn) (st : tn 0 s2.heap) (f2 : ∀ b ∈ fp, FpOk X pins H2 b)
    (h : tTurns own.length oix g tt te J σ H2 Q)
    (hRR : ∀ (C : Addr) (s' : Shared) (m : Str → Option Value) (H' : Hp), s'.heap.Ns C m → Inv X pins σ H' s' → H' C = none → C ≠ X.env.locals → X.s₀.heap.objs.size ≤ C →
      (∀ x c, X.env.cells.lookup x = some c → c ≠ C) → (∀ p ∈ X.pn ++ pins, p.1 ≠ C) → Q (.ref s2.heap.objs.size) H' → RR (.ref s2.heap.objs.size) C (.ok .next) s') :
    wpAny (model X.prog X.w) X.A (newList []) (fun acc s₃ => wpAny (model X.prog X.w) X.A (newFunctionEnv scope X.env.globals (closL X.env scope.names []) [] X.env.qual none .none (some X.env)) (fun cenv s₄ =>
      codeAny (model X.prog X.w) X.A (.compStart (.ListComp elt [⟨tg, iter, ifs, 0⟩] scope pos) 0 (.ref it) acc { cenv with scope := relabel scope X.env }) (RR acc cenv.locals) s₄) E s₃) E s2 := by
  obtain ⟨n, W, w0, turn⟩ := h
  refine wpAny_newObj_type (wpAny_newFunctionEnv S.nocell (by intro y hy; simp at hy) (fun h₁ hns₁ hsb₁ => ?_) S.kind)
  dsimp only at hns₁ hsb₁ ⊢
  generalize hP : s2.heap.push { cls := .type "list", dict := none, data := .seq ([] : List Value).toArray } = hp at hns₁ hsb₁ ⊢
  have hC : hp.objs.size = s2.heap.objs.size + 1 := by rw [← hP, Heap.size_push]
  generalize hCC : hp.objs.size = C at hns₁ hsb₁ hC ⊢
  have hDC : s2.heap.objs.size ≠ C := by rw [hC]; exact Nat.ne_of_lt (Nat.lt_succ_self _)
  have hDC' : s2.heap.objs.size < C := by rw [hC]; exact Nat.lt_succ_self _
  have old : ∀ b o, s2.heap.get? b = some o → h₁.get? b = some o := fun b o e =>
    hsb₁.extBut b o (Nat.ne_of_lt (Nat.lt_trans (Heap.lt_size e) hDC')) (Heap.get?_push_of_some _ (hP ▸ Heap.get?_push_of_some _ e))
  have hacc : h₁.get? s2.heap.objs.size = some (lobj [] 0) := hsb₁.extBut _ _ hDC (Heap.get?_push_of_some _ (hP ▸ Heap.get?_push_size _ rfl))
  -- the cells of the closure are cells of the frame
  have hcells : ∀ x ∈ scope.names, x.2 = .free → ∃ c, X.env.cells.lookup x.1 = some c := fun x hx hf => I2.ok.has x.1 (S.free x hx hf)
  have clX : ∀ x c, (closL X.env scope.names []).lookup x = some c → X.env.cells.lookup x = some c := fun x c e =>
    closL_mem scope.names [] hcells (fun p hp => by cases hp) (x, c) (PySem.mem_of_lookup e)
  have clHas : ∀ x, (x, NameKind.free) ∈ scope.names → ∃ c, (closL X.env scope.names []).lookup x = some c := fun x hx => by
    obtain ⟨c, hc⟩ := closL_has (env := X.env) scope.names [] x (.inl hx)
    exact lookup_has hc
  have fpLt : ∀ b ∈ fp, b < s2.heap.objs.size := fun b hb => by
    obtain ⟨o, e, _⟩ := T.obj 0 _ st b hb
    exact Heap.lt_size e
  have cLt : ∀ x c, X.env.cells.lookup x = some c → c < s2.heap.objs.size := fun x c e => by
    obtain ⟨v, q⟩ := I2.cell x c e
    exact q.lt
  have fpStk : ∀ b ∈ fp, b ∉ frs X.stack := fun b hb z => by
    rcases List.mem_cons.mp (I2.stkSub b z) with e | z
    · exact (f2 b hb).2.1 e
    · exact (f2 b hb).2.2.1 z
  have pinLt : ∀ p ∈ X.pn ++ pins, p.1 < s2.heap.objs.size := fun p hp => Heap.lt_size (I2.pin p hp).1
  have pinStk : ∀ p ∈ X.pn ++ pins, p.1 ∉ frs X.stack := fun p hp z => by
    rcases List.mem_cons.mp (I2.stkSub _ z) with e | z
    · exact (I2.pin p hp).2.2.1 e
    · exact (I2.pin p hp).2.2.2.1 z
  have fsLt : ∀ b ∈ frs X.stack, b < s2.heap.objs.size := fun b hb => by
    obtain ⟨_, o, ho, _⟩ := I2.stack.mem hb
    exact Heap.lt_size ho
  let Y : Cx := cxC X own outs scope C s2 H2 fp pins
  have okY : Y.Ok := {
    mod := I2.ok.mod
    kind := S.kind
    glob := I2.ok.glob
    blt := I2.ok.blt
    above := Nat.le_of_lt hDC'
    inj := fun x y c h1 h2 => I2.ok.inj x y c (clX x c h1) (clX y c h2)
    has := fun x hx => by
      refine clHas x ?_
      rcases hx with hx | hx
      · exact relabel_mem (env := X.env) (.inl rfl) S.nocell hx
      · exact relabel_mem (env := X.env) (.inr rfl) S.nocell hx
    cab := fun x c hf _ => absurd (show false = true from hf) Bool.false_ne_true
    hd := I2.ok.hd
    frames := I2.ok.frames
    stk := .inl rfl
    exf := fun b hb => ⟨Nat.ne_of_lt (Nat.lt_trans (fpLt b hb) hDC'), fun x c e => (f2 b hb).2.2.2.2.1 x c (clX x c e)⟩
    bs := I2.bs
    bsz := Nat.le_trans I2.ok.bsz I2.sz
    noex := fun b o e hb => by
      rcases (f2 b hb).2.2.2.1 with z | z
      · exact I2.ok.noex b o e z
      · exact absurd (Nat.lt_of_lt_of_le (Heap.lt_size e) (Nat.le_trans I2.ok.bsz z)) (Nat.lt_irrefl _)
    exfs := fpStk
    funs := I2.stack
    frf := I2.stkFree }
  have hCH : ∀ H' : Hp, HOk X.prog X.w H' h₁ → True := fun _ _ => trivial
  have lenS : (startC own.length oix σ).length = Y.N.length := by
    have e := congrArg List.length hox
    simp only [List.length_map] at e
    show (List.replicate own.length none ++ oix.map _).length = (own ++ outs).length
    rw [List.length_append, List.length_append, List.length_replicate, List.length_map, e]
  have I4 : Inv Y [(s2.heap.objs.size, lobj [] 0)] (startC own.length oix σ) H2 { s2 with heap := h₁ } := {
    ok := okY
    os := rfl
    bare := I2.bare
    base := Un.kept old
    loc := by
      refine ⟨_, hns₁, fun i x v e1 e2 e3 => ?_⟩
      -- an outer name
      have hi : own.length ≤ i := by
        apply Nat.le_of_not_lt
        intro hlt
        unfold startC at e2
        rw [List.getElem?_append_left (by rw [List.length_replicate]; exact hlt), List.getElem?_replicate] at e2
        rw [if_pos hlt] at e2
        cases e2
      unfold startC at e2
      rw [List.getElem?_append_right (by rw [List.length_replicate]; exact hi), List.length_replicate, List.getElem?_map] at e2
      have e1' : outs[i - own.length]? = some x := by
        have e1 : (own ++ outs)[i]? = some x := e1
        rwa [List.getElem?_append_right hi] at e1
      cases ej : oix[i - own.length]? with
      | none => rw [ej] at e2; cases e2
      | some j =>
        rw [ej] at e2
        have e2' : (σ[j]?).join = some v := Option.some.inj e2
        have e2'' : σ[j]? = some (some v) := by
          cases eσ : σ[j]? with
          | none => rw [eσ] at e2'; cases e2'
          | some z => rw [eσ] at e2'; exact congrArg some e2'
        have eN : X.N[j]? = some x := by
          have q := congrArg (fun l => l[i - own.length]?) hox
          simp only [List.getElem?_map, ej, e1', Option.map_some] at q
          exact Option.some.inj q
        have hfree : scope.names.lookup x = some .free := S.out x (List.mem_of_getElem? e1')
        have hmem : (x, NameKind.free) ∈ scope.names := PySem.mem_of_lookup hfree
        have hk : X.env.scope.names.lookup x = some .cell ∨ X.env.scope.names.lookup x = some .free := S.free (x, .free) hmem rfl
        obtain ⟨m, hn, hl⟩ := I2.loc
        obtain ⟨u, r, l⟩ := hl j x v eN e2'' (by rcases hk with hk | hk; exact .inr (.inl hk); exact .inr (.inr hk))
        refine ⟨u, r, .inr ⟨relabel_free (env := X.env) hfree, ?_⟩⟩
        obtain ⟨c, ec⟩ := clHas x hmem
        refine ⟨c, ec, ?_⟩
        have ec' := clX x c ec
        rcases l with ⟨k, _⟩ | ⟨_, c', e', o, ho, hd⟩
        · rcases hk with hk | hk
          · exact absurd (k.symm.trans hk) (by decide)
          · exact absurd (k.symm.trans hk) (by decide)
        · rw [ec'] at e'
          cases e'
          exact ⟨o, old _ _ ho, hd⟩
    cell := fun x c e => by
      obtain ⟨v, o, ho, hd⟩ := I2.cell x c (clX x c e)
      exact ⟨v, o, old _ _ ho, hd⟩
    free := I2.hok.fresh (Nat.le_of_lt hDC')
    freeC := fun x c e => I2.freeC x c (clX x c e)
    pin := fun p hp => by
      rcases List.mem_append.mp hp with hp | hp
      · obtain ⟨e, n, _, _, d⟩ := I2.pin p hp
        exact ⟨old _ _ e, n, Nat.ne_of_lt (Nat.lt_trans (pinLt p hp) hDC'), pinStk p hp, d⟩
      · have e : p = (s2.heap.objs.size, lobj [] 0) := by simpa using hp
        subst e
        refine ⟨hacc, I2.hok.fresh (Nat.le_refl _), hDC, fun z => absurd (fsLt _ z) (Nat.lt_irrefl _), fun v z => ?_⟩
        have z' : Data.seq _ _ = Data.cell v := z
        cases z'
    hok := I2.hok.kept old
    len := lenS }
  -- what stays of the iterator's records
  have fpY : ∀ {H' : Hp} {its : List Value} {k : Nat}, (∀ b ∈ fp, H' b = none) → ∀ b ∈ fp, FpOk Y [(s2.heap.objs.size, lobj its k)] H' b := fun {H' its k} hn b hb => by
    refine ⟨hn b hb, Nat.ne_of_lt (Nat.lt_trans (fpLt b hb) hDC'), fpStk b hb, .inl hb, fun x c e => (f2 b hb).2.2.2.2.1 x c (clX x c e), fun p hp => ?_⟩
    rcases List.mem_append.mp hp with hp | hp
    · exact (f2 b hb).2.2.2.2.2 p hp
    · have e : p = (s2.heap.objs.size, lobj its k) := by simpa using hp
      subst e
      exact Nat.ne_of_gt (fpLt b hb)
  -- the end
  have fin : ∀ (i : Nat) (ys : List V) (its : List Value) (k : Nat) (H' : Hp) (s' : Shared), Inv Y [(s2.heap.objs.size, lobj its k)] (startC own.length oix σ) H' s' → Vals ys its → ys.length ≤ sizeLine →
      Q (.ref s2.heap.objs.size) (upd H' s2.heap.objs.size (.lst ys)) → RR (.ref s2.heap.objs.size) C (.ok .next) s' := fun i ys its k H' s' I' rv hz q => by
    obtain ⟨m, hn, _⟩ := I'.loc
    obtain ⟨eD, nD, _⟩ := I'.pin (s2.heap.objs.size, lobj its k) (List.mem_append_right _ (by simp))
    have un : Un (frs X.stack) fp H2 H' s2.heap s'.heap := I'.base
    have neD : ∀ b o, s2.heap.get? b = some o → b ≠ s2.heap.objs.size := fun b o e => Nat.ne_of_lt (Heap.lt_size e)
    have neH : ∀ b o, H2 b = some o → b ≠ s2.heap.objs.size := fun b o e => Nat.ne_of_lt (I2.hok.lt e)
    have un' : Un (frs X.stack) fp H2 (upd H' s2.heap.objs.size (.lst ys)) s2.heap s'.heap :=
      ⟨un.keep, un.slot, fun b o e n hx => by rw [upd_ne (neD b o e)]; exact un.free b o e n hx, un.there, fun b xs e => by rw [upd_ne (neH b _ e)]; exact un.tups b xs e,
        fun b o u e => by rw [upd_ne (neH b _ e)]; exact un.frzs b o u e, fun b ps e => by rw [upd_ne (neH b _ e)]; exact un.tbls b ps e⟩
    have hok' : HOk X.prog X.w (upd H' s2.heap.objs.size (.lst ys)) s'.heap := HOk.track I'.hok nD ⟨hz, its, k, rv, eD⟩
    have IX : Inv X pins σ (upd H' s2.heap.objs.size (.lst ys)) s' := I2.call' (ch := fp) I'.os un' hok' I'.bare fun b hb => ⟨(f2 b hb).2.2.2.1, (f2 b hb).2.1, (f2 b hb).2.2.2.2.1, (f2 b hb).2.2.2.2.2⟩
    refine hRR C s' m _ hn IX ?_ ?_ ?_ ?_ ?_ q
    · rw [upd_ne (Ne.symm hDC)]; exact I'.free
    · exact Nat.ne_of_gt (Nat.lt_trans I2.lt hDC')
    · exact Nat.le_trans I2.sz (Nat.le_of_lt hDC')
    · exact fun x c e => Nat.ne_of_lt (Nat.lt_trans (cLt x c e) hDC')
    · exact fun p hp => Nat.ne_of_lt (Nat.lt_trans (pinLt p hp) hDC')
  have loop : codeAny (model X.prog X.w) X.A (.compLoop (.ListComp elt [⟨tg, iter, ifs, 0⟩] scope pos) 0 (.ref it) (.ref s2.heap.objs.size) Y.env) (RR (.ref s2.heap.objs.size) C) { s2 with heap := h₁ } := by
    refine codeAny_loop rfl (fun k s' => ∃ (i : Nat) (ys : List V) (its : List Value) (c : Nat) (H' : Hp), Inv Y [(s2.heap.objs.size, lobj its c)] (startC own.length oix σ) H' s' ∧ Vals ys its ∧ tn i s'.heap ∧ (∀ b ∈ fp, H' b = none) ∧ W i ys H' ∧ k = n - i) (fun k s' hI => ?_) n
      ⟨0, [], [], 0, H2, I4, .nil, T.keep 0 _ _ st fun b _ o e => old b o e, fun b hb => (f2 b hb).1, w0, rfl⟩
    show wpAny _ X.A ((compTurn (.ListComp elt [⟨tg, iter, ifs, 0⟩] scope pos) 0 (.ref it) (.ref s2.heap.objs.size) Y.env).onRaise (fun x => do noteFrame x Y.env; theTreesLotGoes x)) _ _ s'
    refine wpAny_noted ?_
    rw [compTurn_list]
    obtain ⟨i, ys, its, c, H', I', rv, st', fr', w', ek⟩ := hI
    rcases turn i ys H' w' with ⟨stop, hz, q⟩ | ⟨go, hin, hz, N, hN, step⟩
    · refine wpAny_bind (wpAny_standAt (wpAny_bind (thn (T.done Y rfl rfl rfl hc i _ s' _ H' _ I' (fpY fr') st' stop) fun r s1 ⟨hr, I1⟩ => ?_)))
      subst hr
      obtain ⟨_, nD, _⟩ := I1.pin (s2.heap.objs.size, lobj its c) (List.mem_append_right _ (by simp))
      exact wpAny_pure (fin i ys its c H' s1 I1 rv hz (q _ nD))
    · refine wpAny_bind (wpAny_standAt (wpAny_bind (thn (T.item Y rfl rfl rfl hc i _ s' _ H' _ I' (fpY fr') st' go) fun r s1 ⟨u, hr, h1⟩ => ?_)))
      subst hr
      refine wpAny_bind (thn h1 fun _ s5 ⟨x, H5, I5, r5, y5, st5, fr5⟩ => ?_)
      have I5' := I5.pinned (fpY fr5) (T.obj _ _ st5)
      refine wpAny_bind (wpAny_noRaise (thn (hg C s2 H2 fp pins _ s5 _ H5 x u _ I5' r5 (step x H5 y5)) fun _ s6 ⟨σ6, H6, I6, dr6, q6⟩ => ?_))
      refine wpAny_bind (wpAny_noRaise (thn (ht C s2 H2 fp pins _ s6 σ6 H6 _ I6 q6) fun ok s7 ⟨H7, I7, q7⟩ => ?_))
      -- back to the begin of a turn
      have back : ∀ {H8 : Hp} {s8 : Shared} {its8 : List Value} {c8 : Nat}, Inv Y ([(s2.heap.objs.size, lobj its8 c8)] ++ pinsAt fp s5.heap) σ6 H8 s8 →
          Inv Y [(s2.heap.objs.size, lobj its8 c8)] (startC own.length oix σ) H8 s8 ∧ tn (i + 1) s8.heap ∧ ∀ b ∈ fp, H8 b = none := fun {H8 s8 its8 c8} I8 => by
        refine ⟨I8.unpinned.weak ?_ fun j v e => ?_, T.keep _ _ _ st5 fun b hb o e => (I8.pin (b, o) (List.mem_append_right _ (List.mem_append_right _ (mem_pinsAt hb e)))).1, fun b hb => ?_⟩
        · exact lenS.trans I8.len.symm
        · have hj : own.length ≤ j := by
            apply Nat.le_of_not_lt
            intro hlt
            unfold startC at e
            rw [List.getElem?_append_left (by rw [List.length_replicate]; exact hlt), List.getElem?_replicate] at e
            rw [if_pos hlt] at e
            cases e
          have e' := congrArg (fun l => l[j - own.length]?) dr6
          simp only [List.getElem?_drop] at e'
          rw [show own.length + (j - own.length) = j by omega] at e'
          exact e'.trans e
        · obtain ⟨o, e, d⟩ := T.obj _ _ st5 b hb
          exact (I8.pin (b, o) (List.mem_append_right _ (List.mem_append_right _ (mem_pinsAt hb e)))).2.1
      cases ok with
      | false =>
        obtain ⟨I8, st8, fr8⟩ := back I7
        exact wpAny_pure ⟨rfl, n - (i + 1), by omega, i + 1, ys, its, c, H7, I8, rv, st8, fr8, hN _ _ q7, rfl⟩
      | true =>
        refine wpAny_bind (wpAny_bind (wpAny_noRaise (thn (he C s2 H2 fp pins _ s7 σ6 H7 _ I7 q7) fun y s8 ⟨z, H8, I8, r8, w8⟩ => ?_)))
        obtain ⟨eD, nD, neL, nF, dD⟩ := I8.pin (s2.heap.objs.size, lobj its c) (List.mem_append_right _ (List.mem_append_left _ (by simp)))
        have hl := rv.length
        refine wpAny_bind (call_meets F.slot_list_append ⟨_, eD, rfl⟩ F.entry_list_append (F.args_list_append_2 _ _) (PySem.list_append _ its.toArray c y (by rw [List.size_toArray]; omega)) ⟨eD, ?_⟩)
        obtain ⟨n', q⟩ : ∃ n', (s8.heap.update s2.heap.objs.size (Obj.mapSeq (·.push y))).get? s2.heap.objs.size = some (lobj (its ++ [y]) n') := by
          have q := PySem.IsL.update eD (·.push y)
          rw [show its.toArray.push y = (its ++ [y]).toArray by simp] at q
          exact ⟨_, q⟩
        have I9 : Inv Y (pinsAt fp s5.heap) σ6 H8 { s8 with heap := s8.heap.update s2.heap.objs.size (Obj.mapSeq (·.push y)) } :=
          (I8.pins_of fun p hp => I8.pin p (List.mem_append_right _ (List.mem_append_right _ hp))).turned (t' := s8.toks) (it := s2.heap.objs.size) (fun b o hb e => (Heap.get?_update_other _ _ (Ne.symm hb)).trans e) nD hDC (.inr (Nat.le_refl _))
            (fun x c' e => Nat.ne_of_lt (cLt x c' (clX x c' e))) fun p hp => by
              rcases List.mem_append.mp hp with hp | hp
              · exact Nat.ne_of_lt (pinLt p hp)
              · exact Nat.ne_of_lt (fpLt _ (of_pinsAt hp).1)
        have I10 : Inv Y ([(s2.heap.objs.size, lobj (its ++ [y]) n')] ++ pinsAt fp s5.heap) σ6 H8 { s8 with heap := s8.heap.update s2.heap.objs.size (Obj.mapSeq (·.push y)) } := I9.pins_of fun p hp => by
          rcases List.mem_append.mp hp with hp | hp
          · have e : p = (s2.heap.objs.size, lobj (its ++ [y]) n') := by simpa using hp
            subst e
            exact ⟨q, nD, neL, nF, fun v z => by
              have z' : Data.seq _ _ = Data.cell v := z
              cases z'⟩
          · exact I9.pin p (List.mem_append_right _ hp)
        obtain ⟨I11, st11, fr11⟩ := back I10
        exact wpAny_pure (wpAny_pure ⟨rfl, n - (i + 1), by omega, i + 1, ys ++ [z], its ++ [y], _, H8, I11, rv.append (.cons r8 .nil), st11, fr11, hN _ _ w8, rfl⟩)
  exact codeAny_compStart_list loop (T.self _ 0 _ _ _ (T.keep 0 _ _ st fun b _ o e => old b o e) loop)
section
variable {X : Cx} {tg elt iter : Expr} {ifs : List Expr} {scope : Scope} {pos : Pos} {oix : List Nat} {wi : TI} {g : TG} {tt : TT} {te : TE}
theorem pe_comp (own outs : List Str) (oix : List Nat) (S : CompSc own outs scope X.env.scope) (hox : oix.map (fun j => X.N[j]?) = outs.map some) (hc : X.calm = true) (hi : PI X tg iter wi)
    (hg : ∀ C s2 H2 fp pins, PG (cxC X own outs scope C s2 H2 fp pins) tg g)
    (ht : ∀ C s2 H2 fp pins, PFs (cxC X own outs scope C s2 H2 fp pins) ifs tt)
    (he : ∀ C s2 H2 fp pins, PE (cxC X own outs scope C s2 H2 fp pins) elt te)
    (hs : ∀ x, foldedSetIterable iter X.env x = pure x := by intro _; rfl) :
    PE X (.ListComp elt [⟨tg, iter, ifs, 0⟩] scope pos) (tComp own.length oix wi g tt te) := by
  intro pins s σ H Q I h
  rw [eval_ListComp]
  refine wpAny_comprehension_free (use := none) rfl hs (closureFor_eq fun x hx hf => I.ok.has x.1 (S.free x hx hf)) S.kind S.loc (thn (hi pins s σ H _ I h) fun xv s₁ h₁ => thn h₁ fun itv s₂ h₂ => ?_)
  obtain ⟨it, fp, tn, J, H2, e, I2, T, st2, f2, turns⟩ := h₂
  subst e
  refine comp_core (RR := fun acc C => compPost (model X.prog X.w) X.A X.xe none (EP X pins σ Q) acc C) S hox hc hg ht he I2 T st2 f2 turns ?_
  intro C s' m H' hn I' hC hL h0 hcell hpin q
  exact ⟨m, hn, fun h' hs' => ⟨.ref _, H', I'.turned (h' := h') (t' := s'.toks) (it := C) (fun b o hb e => hs'.extBut b o hb e) hC hL (.inr h0) hcell hpin, rfl, q⟩⟩
theorem ps_setComp (own outs : List Str) (oix : List Nat) {i : Nat} {x : Str} {pos' spos : Pos} (S : CompSc own outs scope X.env.scope) (hox : oix.map (fun j => X.N[j]?) = outs.map some) (hc : X.calm = true)
    (hN : X.N.Nodup) (hix : X.N[i]? = some x) (hx : X.env.scope.names.lookup x = some .local) (hi : PI X tg iter wi)
    (hg : ∀ C s2 H2 fp pins, PG (cxC X own outs scope C s2 H2 fp pins) tg g)
    (ht : ∀ C s2 H2 fp pins, PFs (cxC X own outs scope C s2 H2 fp pins) ifs tt)
    (he : ∀ C s2 H2 fp pins, PE (cxC X own outs scope C s2 H2 fp pins) elt te)
    (hsw : swapsWith (.ListComp elt [⟨tg, iter, ifs, 0⟩] scope pos) (some (.Name x pos')) spos.line X.env = pure true := by rfl)
    (hs : ∀ x, foldedSetIterable iter X.env x = pure x := by intro _; rfl) :
    PS X (.Assign [.Name x pos'] (.ListComp elt [⟨tg, iter, ifs, 0⟩] scope pos) spos) (tAsg (tComp own.length oix wi g tt te) (gName i)) := by
  intro pins s σ H D I h
  rw [exec_Assign_Name_used _ _ _ _ hsw]
  refine wpAny_bind (wpAny_standAt (wpAny_bind ?_))
  show wpAny _ X.A (do let _ ← comprehension (.ListComp elt [⟨tg, iter, ifs, 0⟩] scope pos) scope X.env _ (newList []) false (eval iter X.env) (some (assign (.Name x pos') X.env))) _ _ s
  refine wpAny_bind (wpAny_mono (wpAny_comprehension_free (use := some (assign (.Name x pos') X.env)) (Q := fun _ s' => SP X pins D .next s') rfl hs (closureFor_eq fun y hy hf => I.ok.has y.1 (S.free y hy hf)) S.kind S.loc
    (thn (hi pins s σ H _ I h) fun xv s₁ h₁ => thn h₁ fun itv s₂ h₂ => ?_)) (fun _ s' hq => wpAny_pure (wpAny_pure hq)) fun _ _ e => e)
  obtain ⟨it, fp, tn, J, H2, e, I2, T, st2, f2, turns⟩ := h₂
  subst e
  refine comp_core (RR := fun acc C => compPost (model X.prog X.w) X.A X.xe (some (assign (.Name x pos') X.env)) (fun _ s' => SP X pins D .next s') acc C) S hox hc hg ht he I2 T st2 f2 turns ?_
  intro C s' m H' hn I' hC hL h0 hcell hpin q
  show wpAny _ X.A (assign (.Name x pos') X.env (.ref s₂.heap.objs.size)) _ _ s'
  refine wpAny_assign_Name (store_ok2 (v := .ref s₂.heap.objs.size) I' hN hix (.inl hx) rfl (fun s'' I'' hsb => ?_) (.inr hx))
  obtain ⟨a, hsb, ha⟩ := hsb
  have hCa : C ≠ a := by
    rcases ha with e | e
    · rw [e]; exact hL
    · exact Ne.symm (hcell _ _ e)
  exact ⟨m, hn.sameBut hsb hCa, fun h' hs' => ⟨_, H', I''.turned (h' := h') (t' := s''.toks) (it := C) (fun b o hb e => hs'.extBut b o hb e) hC hL (.inr h0) hcell hpin, q⟩⟩
end
section
variable {K : PySem.W.Frag} {k : Nat} {oix : List Nat} {g : TG} {tt : TT} {te : TE} {σ : St} {H : Hp} {Q : VK}
end
def Its (x : Str) : It := ⟨fun i _ => i < x.cps.size, fun i H v H' => H' = H ∧ ∃ c, x.cps[i]? = some c ∧ v = .str ⟨#[c]⟩, fun i _ => x.cps.size ≤ i⟩
theorem turn_ascii {P : Program} {w : World} {K : PySem.W.Frag} {tg : Expr} (it : Addr) (x : Str) (t : Tok) : Turn P w K tg (Its x) [it] it (fun i h => h.IsStrIter it "str_ascii_iterator" x t i) where
  mem := by simp
  obj := fun i h st b hb => by
    have e : b = it := by simpa using hb
    subst e
    obtain ⟨o, e, c, d⟩ := st
    exact ⟨o, e, fun v z => by rw [d] at z; cases z⟩
  keep := fun i h h' st k => by
    obtain ⟨o, e, r⟩ := st
    exact ⟨o, k it (by simp) o e, r⟩
  item := by
    intro X hP hw hK hc i pins s σ H E I hf st hg
    subst hP hw hK
    obtain ⟨f0, f1, f2, f3, f4, f5⟩ := hf it (by simp)
    have hg' : i < x.cps.size := hg
    refine wpAny_pyNext_ascii_item st (c := x.cps[i]) (by simp [hg']) fun h' st' sb => ?_
    have I1 : Inv X pins σ H { s with heap := h', toks := s.toks + 1 } := I.turned (t' := s.toks + 1) (fun b o hb e => (sb.2 b hb).trans e) f0 f1 f3 f4 f5
    obtain ⟨o, e, c, d⟩ := id st'
    exact ⟨_, rfl, go_of (s := { s with heap := h', toks := s.toks + 1 }) e c d (by decide) ⟨.str ⟨#[x.cps[i]]⟩, H, I1, ⟨_, rfl⟩, ⟨rfl, _, by simp [hg'], rfl⟩, st', fun b hb => (hf b hb).1⟩⟩
  done := by
    intro X hP hw hK hc i pins s σ H E I hf st hg
    subst hP hw hK
    obtain ⟨f0, f1, f2, f3, f4, f5⟩ := hf it (by simp)
    have hg' : x.cps.size ≤ i := hg
    exact wpAny_pyNext_ascii_end (I.ok.hd hc) st (by simp [hg']) fun h' eb => ⟨rfl, I.turned (t' := s.toks) (fun b o hb e => eb b o hb e) f0 f1 f3 f4 f5⟩
  self := fun _ _ _ _ _ st h => wpAny_pyIter_striter_ascii st h
theorem turn_wide {P : Program} {w : World} {K : PySem.W.Frag} {tg : Expr} (it : Addr) (x : Str) (t : Tok) : Turn P w K tg (Its x) [it] it (fun i h => h.IsStrIter it "str_iterator" x t i) where
  mem := by simp
  obj := fun i h st b hb => by
    have e : b = it := by simpa using hb
    subst e
    obtain ⟨o, e, c, d⟩ := st
    exact ⟨o, e, fun v z => by rw [d] at z; cases z⟩
  keep := fun i h h' st k => by
    obtain ⟨o, e, r⟩ := st
    exact ⟨o, k it (by simp) o e, r⟩
  item := by
    intro X hP hw hK hc i pins s σ H E I hf st hg
    subst hP hw hK
    obtain ⟨f0, f1, f2, f3, f4, f5⟩ := hf it (by simp)
    have hg' : i < x.cps.size := hg
    refine wpAny_pyNext_wide_item st (c := x.cps[i]) (by simp [hg']) fun h' st' sb => ?_
    have I1 : Inv X pins σ H { s with heap := h', toks := s.toks + 1 } := I.turned (t' := s.toks + 1) (fun b o hb e => (sb.2 b hb).trans e) f0 f1 f3 f4 f5
    obtain ⟨o, e, c, d⟩ := id st'
    exact ⟨_, rfl, go_of (s := { s with heap := h', toks := s.toks + 1 }) e c d (by decide) ⟨.str ⟨#[x.cps[i]]⟩, H, I1, ⟨_, rfl⟩, ⟨rfl, _, by simp [hg'], rfl⟩, st', fun b hb => (hf b hb).1⟩⟩
  done := by
    intro X hP hw hK hc i pins s σ H E I hf st hg
    subst hP hw hK
    obtain ⟨f0, f1, f2, f3, f4, f5⟩ := hf it (by simp)
    have hg' : x.cps.size ≤ i := hg
    exact wpAny_pyNext_wide_end (I.ok.hd hc) st (by simp [hg']) fun h' eb => ⟨rfl, I.turned (t' := s.toks) (fun b o hb e => eb b o hb e) f0 f1 f3 f4 f5⟩
  self := fun _ _ _ _ _ st h => wpAny_pyIter_striter_wide st h
section
variable {X : Cx} {tg : Expr}
def iStr (tl : TE) : TI := fun σ H R => tl σ H fun v H1 => ∃ x, v = .str x ∧ R (Its x) H1
theorem pi_str {l : Expr} {tl : TE} (hl : PE X l tl) : PI X tg l (iStr tl) := by
  intro pins s σ H R I h
  refine thn (hl pins s σ H _ I h) fun v s1 ⟨y, H1, I1, r1, q1⟩ => ?_
  obtain ⟨x, e, q⟩ := q1
  subst e
  obtain ⟨t, rfl⟩ := r1
  have fp : ∀ {o : Obj} (b : Addr), b ∈ [s1.heap.objs.size] → FpOk X pins H1 b := fun {o} b hb => by
    have e : b = s1.heap.objs.size := by simpa using hb
    subst e
    exact I1.fpOk (Nat.le_refl _) (I1.hok.fresh (Nat.le_refl _))
  cases ha : x.cps.all (· < 128)
  · exact wpAny_pyIter_wide ha ⟨s1.heap.objs.size, [s1.heap.objs.size], _, _, H1, rfl, I1.kept (t' := s1.toks) fun b o e => Heap.get?_push_of_some _ e, turn_wide _ x t, ⟨_, Heap.get?_push_size _ rfl, rfl, rfl⟩, fp (o := default), q⟩
  · exact wpAny_pyIter_ascii ha ⟨s1.heap.objs.size, [s1.heap.objs.size], _, _, H1, rfl, I1.kept (t' := s1.toks) fun b o e => Heap.get?_push_of_some _ e, turn_ascii _ x t, ⟨_, Heap.get?_push_size _ rfl, rfl, rfl⟩, fp (o := default), q⟩
end
end L2
set_option Elab.async false
set_option linter.all false
set_option maxRecDepth 100000
set_option maxHeartbeats 4000000
namespace L2
open PySem PySem.Spec PyProof.Rows
section
variable {X : Cx}
end
section
variable {X : Cx}
def rSlS : V → Option Int → Option Int → Hp → VK → Prop := fun x lo hi H Q => ∃ z, x = .str z ∧ z.length ≤ sizeLine ∧ Q (.str (Txt.slice z lo hi)) H
theorem sl_str : SlR X rSlS := by
  intro pins s σ H x v vl vu lo hi sl Q I rx hs pl pu h
  obtain ⟨z, rfl, hz, q⟩ := h
  obtain ⟨t, rfl⟩ := rx
  refine ⟨"str", _, PySem.F.slot_str_getitem.lookup, typeIs_str s z t, ?_⟩
  cases pl with
  | none =>
    cases pu with
    | none => exact wpAny_getItem_str_slice (l := none) (u := none) (st := none) hs rfl (post_val_or_str ⟨Nat.le_trans (Txt.slice_le z _ _) hz, fun t' k => ⟨.str (Txt.slice z none none), H, I.tok _, ⟨_, rfl⟩, q⟩⟩)
    | int j uj => exact wpAny_getItem_str_slice (l := none) (u := some (j, uj)) (st := none) hs rfl (post_val_or_str ⟨Nat.le_trans (Txt.slice_le z _ _) hz, fun t' k => ⟨.str (Txt.slice z none (some j)), H, I.tok _, ⟨_, rfl⟩, q⟩⟩)
  | int i ui =>
    cases pu with
    | none => exact wpAny_getItem_str_slice (l := some (i, ui)) (u := none) (st := none) hs rfl (post_val_or_str ⟨Nat.le_trans (Txt.slice_le z _ _) hz, fun t' k => ⟨.str (Txt.slice z (some i) none), H, I.tok _, ⟨_, rfl⟩, q⟩⟩)
    | int j uj => exact wpAny_getItem_str_slice (l := some (i, ui)) (u := some (j, uj)) (st := none) hs rfl (post_val_or_str ⟨Nat.le_trans (Txt.slice_le z _ _) hz, fun t' k => ⟨.str (Txt.slice z (some i) (some j)), H, I.tok _, ⟨_, rfl⟩, q⟩⟩)
theorem strsAre_of {zs : List Str} : ∀ {us : List Value}, Vals (zs.map V.str) us → StrsAre us zs := by
  induction zs with
  | nil => intro us r; rw [List.map_nil] at r; cases r; exact .nil
  | cons n ns ih =>
    intro us r
    rw [List.map_cons] at r
    cases r with
    | cons r1 r2 =>
      obtain ⟨t, e⟩ := r1
      subst e
      exact .cons n t (ih r2)
def rJoin (K : PySem.W.Frag) : V → List V → Hp → VK → Prop := fun x vs H Q => ∃ z a zs, x = .str z ∧ vs = [.ref a] ∧ SqL K H a (zs.map V.str) ∧ (zs.map (·.length)).sum + zs.length * z.length ≤ 16777216 ∧ Q (.str (Txt.join z zs)) H
theorem mt_join : MtR X "str.join" (rJoin X.K) := by
  intro pins s σ H x vs v us Q I rx rv h
  obtain ⟨z, a, zs, rfl, rfl, hq, hz, q⟩ := h
  obtain ⟨t, rfl⟩ := rx
  obtain ⟨u, rfl, ru⟩ := vals1 rv
  cases ru
  obtain ⟨its, r, pl, _⟩ := I.list hq
  exact join_list (items := its.toArray) pl.isList (strsAre_of r) hz fun t' k => ⟨.str _, H, I.tok _, ⟨_, rfl⟩, q⟩
end
theorem boolsAre_of {bs : List Bool} : ∀ {us : List Value}, Vals (bs.map V.bl) us → LSm.BoolsAre us bs := by
  induction bs with
  | nil => intro us r; rw [List.map_nil] at r; cases r; exact .nil
  | cons n ns ih =>
    intro us r
    rw [List.map_cons] at r
    cases r with
    | cons r1 r2 =>
      have e : _ = Value.bool n := r1
      subst e
      exact .cons n (ih r2)
section
variable {X : Cx}
theorem call_all (hc : X.calm = true) : CallR X (.builtin "all") (fun xs H Q => ∃ (a : Addr) (bs : List Bool), xs = [.ref a] ∧ SqL X.K H a (bs.map V.bl) ∧ Q (.bl (bs.all id)) H) := by
  intro pins s σ H xs us Q I r h
  obtain ⟨a, bs, rfl, hq, q⟩ := h
  obtain ⟨u, rfl, ru⟩ := vals1 r
  cases ru
  obtain ⟨its, rv, pl, hz⟩ := I.list hq
  have hb := boolsAre_of rv
  have hl := pl.isList
  have hlt : a < s.heap.objs.size := by obtain ⟨_, e, _⟩ := hl; exact Heap.lt_size e
  refine call_all_walk (wpAny_pyIter_list hl ?_)
  refine ⟨s.heap.objs.size, [s.heap.objs.size, a], [s.heap.objs.size], its.toArray.size, _, _, fun i => (bs[i]?).getD true, rfl, Walks.list (A := X.A.in1) (I.ok.hd hc) _ a (Nat.ne_of_lt hlt) its.toArray,
    ⟨⟨_, Heap.get?_push_size _ rfl, rfl, rfl⟩, hl.push _⟩, fun i v s' Q' E' hP hQ => ?_, fun h' tk hk => ⟨.bl _, H, I.kept (LSm.kept_iter hk), rfl, ?_⟩⟩
  · obtain ⟨b, e, rfl⟩ := hb.get i v (by simpa using hP)
    simp only [e, Option.getD_some] at hQ
    exact wpAny_truthy_bool hQ
  · have e : ((List.range its.toArray.size).all fun i => (bs[i]?).getD true) = bs.all id := by
      rw [List.size_toArray, hb.length]; exact LSm.range_all bs
    rw [e]
    exact q
theorem call_any (hc : X.calm = true) : CallR X (.builtin "any") (fun xs H Q => ∃ (a : Addr) (bs : List Bool), xs = [.ref a] ∧ SqL X.K H a (bs.map V.bl) ∧ Q (.bl (bs.any id)) H) := by
  intro pins s σ H xs us Q I r h
  obtain ⟨a, bs, rfl, hq, q⟩ := h
  obtain ⟨u, rfl, ru⟩ := vals1 r
  cases ru
  obtain ⟨its, rv, pl, hz⟩ := I.list hq
  have hb := boolsAre_of rv
  have hl := pl.isList
  have hlt : a < s.heap.objs.size := by obtain ⟨_, e, _⟩ := hl; exact Heap.lt_size e
  refine call_any_walk (wpAny_pyIter_list hl ?_)
  refine ⟨s.heap.objs.size, [s.heap.objs.size, a], [s.heap.objs.size], its.toArray.size, _, _, fun i => (bs[i]?).getD false, rfl, Walks.list (A := X.A.in1) (I.ok.hd hc) _ a (Nat.ne_of_lt hlt) its.toArray,
    ⟨⟨_, Heap.get?_push_size _ rfl, rfl, rfl⟩, hl.push _⟩, fun i v s' Q' E' hP hQ => ?_, fun h' tk hk => ⟨.bl _, H, I.kept (LSm.kept_iter hk), rfl, ?_⟩⟩
  · obtain ⟨b, e, rfl⟩ := hb.get i v (by simpa using hP)
    simp only [e, Option.getD_some] at hQ
    exact wpAny_truthy_bool hQ
  · have e : ((List.range its.toArray.size).any fun i => (bs[i]?).getD false) = bs.any id := by
      rw [List.size_toArray, hb.length]; exact LSm.range_any bs
    rw [e]
    exact q
end
section
open PySem.SeqAt
inductive LtAt (A : Around) (s : Shared) : List Value → List Value → Bool → Prop where
  | nn : LtAt A s [] [] false
  | nc {w ws} : LtAt A s [] (w :: ws) true
  | cn {v vs} : LtAt A s (v :: vs) [] false
  | eq {v w vs ws b} : EqAt A s v w true → LtAt A s vs ws b → LtAt A s (v :: vs) (w :: ws) b
  | ne {v w vs ws b} : EqAt A s v w false → (∀ (prog : Program) (wo : World) (E Q : Value → Shared → Prop), Q (.bool b) s → wpAny (model prog wo) A (richCompare .Lt v w) Q E s) → LtAt A s (v :: vs) (w :: ws) b
end
section
open PySem.SeqAt
open PySem.AutoSeq1 (wpAny_loadPart')
open PySem.MeetsSeq PySem.MeetsSeq2 PySem.MeetsSeq3
theorem tuple_lt_by (l b : Addr) (items items2 : Array Value) (n n2 : Nat) (dd dd2 : Option Addr) (sl sl2 : Array (Option Value)) (r : Bool) :
    Meets (Builtin.«tuple.__lt__» ⟨[.ref l, .ref b], []⟩)
      (fun A R s => s.heap.get? l = some { cls := .type "tuple", dict := dd, data := .seq items n, slots := sl } ∧ s.heap.get? b = some { cls := .type "tuple", dict := dd2, data := .seq items2 n2, slots := sl2 } ∧
        LtAt A.in1 s items.toList items2.toList r ∧ R (.ok (.ret (.bool r))) s) :=
  .of_wp fun prog w A R s h => by
    obtain ⟨hp, g, d, tk, os⟩ := s; obtain ⟨hl, hb, hlt, h⟩ := h
    have f2 := AutoSeq1.sub_tuple_tuple
    wp_walk using wpAny_loadPart' hl, wpAny_loadPart' hb, wpAny_forIn_list _ (fun rest b s' => b.1 = none ∧ s' = ⟨hp, g, d, tk, os⟩ ∧ ∃ (vs ws : List Value), rest = vs.zip ws ∧
      LtAt A.in1 ⟨hp, g, d, tk, os⟩ vs ws r ∧ vs.length + items2.size = ws.length + items.size) _
    case turn =>
      rintro ⟨y, x⟩ rest b s' ⟨hb', rfl, vs, ws, hz, hlt', hlen⟩
      cases hlt' with
      | nn => rw [List.zip_nil_left] at hz; cases hz
      | nc => rw [List.zip_nil_left] at hz; cases hz
      | cn => rw [List.zip_nil_right] at hz; cases hz
      | eq he hr =>
        rw [List.zip_cons_cons] at hz
        injection hz with hyx hrest
        injection hyx with hy hx
        subst hy hx
        simp only [List.length_cons] at hlen
        refine wpAny_bind (he prog w _ _ ?_)
        wp_walk
        exact ⟨rfl, rfl, _, _, hrest, hr, by omega⟩
      | ne he hr =>
        rw [List.zip_cons_cons] at hz
        injection hz with hyx hrest
        injection hyx with hy hx
        subst hy hx
        refine wpAny_bind (he prog w _ _ ?_)
        have hri := hr prog w
        wp_walk using hri
        exact ⟨_, rfl, by simpa using h⟩
    case fin =>
      rintro ⟨b1, b2⟩ s' ⟨hb', rfl, vs, ws, hz, hlt', hlen⟩
      simp only at hb'
      subst hb'
      have hv : r = decide (items.size < items2.size) := by
        cases hlt' with
        | nn =>
          simp only [List.length_nil] at hlen
          exact (decide_eq_false (by omega)).symm
        | nc =>
          simp only [List.length_nil, List.length_cons] at hlen
          exact (decide_eq_true (by omega)).symm
        | cn =>
          simp only [List.length_nil, List.length_cons] at hlen
          exact (decide_eq_false (by omega)).symm
        | eq _ _ => rw [List.zip_cons_cons] at hz; cases hz
        | ne _ _ => rw [List.zip_cons_cons] at hz; cases hz
      rw [hv] at h
      wp_walk
      exact ⟨_, rfl, by simpa [Builtin.Tuple.tupleCompareSizes] using h⟩
    case h =>
      exact ⟨rfl, rfl, items.toList, items2.toList, rfl, hlt, by simp; omega⟩
end
section
variable {prog : Program} {w : World} {A : Around} {E : Value → Shared → Prop} {s : Shared}
theorem rcLt_tup {l b : Addr} {items items2 : Array Value} {r : Bool} {Q : Value → Shared → Prop} (hl : IsTup s.heap l items) (hb : IsTup s.heap b items2) (hr : LtAt A.in1 s items.toList items2.toList r)
    (hu : A.units < cLine) (h : Q (.bool r) s) : wpAny (model prog w) A (richCompare .Lt (.ref l) (.ref b)) Q E s := by
  obtain ⟨⟨cls, dd, data, sl⟩, ho, hc, n, hd⟩ := id hl
  obtain ⟨⟨cls2, dd2, data2, sl2⟩, ho2, hc2, n2, hd2⟩ := id hb
  simp only at hc hd hc2 hd2
  subst hc hd hc2 hd2
  exact richCompare_meets_room (op := .Lt) ⟨_, ho, rfl⟩ ⟨_, ho2, rfl⟩ PySem.F.slot_tuple_lt PySem.F.entry_tuple_lt (PySem.F.args_tuple_lt_2 _ _) (tuple_lt_by l b items items2 n n2 dd dd2 sl sl2 r)
    ⟨ho, ho2, hr, show Value.bool r ≠ Value.notImplemented ∧ Q (.bool r) s from ⟨(fun x => nomatch x), h⟩⟩ hu
end
section
variable {X : Cx}
end
theorem len_cps (x : Str) : x.cps.toList.length = x.length := by simp [Str.length]
def spLaw (K : PySem.W.Frag) : Sp := fun vs H Q _ => ∃ (a : Addr) (ns : List Int), vs = [.ref a] ∧ SqL K H a (ns.map V.int) ∧ ns.length ≤ 63 ∧ ∀ H', Q (.bl true) H'
section
variable {X : Cx}
end
section
variable {X : Cx}
end
end L2
set_option Elab.async false
set_option linter.all false
set_option maxRecDepth 100000
namespace L2
open PySem PySem.Spec PyProof.Rows
theorem ite_t {A B : Prop} (h : A) : (if true = true then A else B) := (if_pos (c := true = true) rfl : ite _ A B = A) ▸ h
theorem ite_f {A B : Prop} (h : B) : (if false = true then A else B) := (if_neg (c := false = true) Bool.false_ne_true : ite _ A B = B) ▸ h
inductive D where
  | non | bl (b : Bool) | int (i : Int) | str (x : Str) | ty (n : String) | tup (xs : List D) | lst (xs : List D) (b : Bool := false)
def atOf : D → At
  | .int i => .int i
  | .str x => .str x
  | _ => .non
def ktOf : D → KT
  | .tup l => .tup (l.map atOf)
  | d => .at (atOf d)
def ktsOf : List D → List KT
  | k :: _ :: r => ktOf k :: ktsOf r
  | _ => []
def CO (b : Bool) (xs : List D) (vs : List V) : HO := match b with
  | false => .lst vs
  | true => .dct (ktsOf xs) vs
def isL : HO → Bool
  | .lst _ => true
  | .dct _ _ => true
  | _ => false
theorem isL_CO (b : Bool) (xs : List D) (vs : List V) : isL (CO b xs vs) = true := by cases b <;> rfl
abbrev Fb := Addr → Prop
def KL (K : PySem.W.Frag) (a : Addr) (vs : List V) : Prop := SqL K (fun _ => none) a vs
def LstAt (K : PySem.W.Frag) (N : Fb) (H : Hp) (a : Addr) (o : HO) : Prop := (¬ N a ∧ Rd H a o) ∨ ∃ vs, o = .lst vs ∧ KL K a vs
theorem KL.sq {K : PySem.W.Frag} {H : Hp} {a : Addr} {vs : List V} (h : KL K a vs) : SqL K H a vs := by
  rcases h with (h | ⟨o, h⟩) | h
  · cases h
  · cases h
  · exact .inr h
theorem LstAt.sq {K : PySem.W.Frag} {N : Fb} {H : Hp} {a : Addr} {vs : List V} (h : LstAt K N H a (.lst vs)) : SqL K H a vs := by
  rcases h with ⟨_, h⟩ | ⟨ws, e, h⟩
  · exact .inl h
  · cases e; exact h.sq
theorem LstAt.of {K : PySem.W.Frag} {N : Fb} {H : Hp} {a : Addr} {o : HO} (n : ¬ N a) (h : H a = some o) : LstAt K N H a o := .inl ⟨n, .inl h⟩
theorem LstAt.of_sq {K : PySem.W.Frag} {H : Hp} {a : Addr} {vs : List V} (h : SqL K H a vs) : LstAt K (fun _ => False) H a (.lst vs) := by
  rcases h with h | h
  · exact .inl ⟨id, h⟩
  · exact .inr ⟨vs, rfl, .inr h⟩
mutual
def Den (K : PySem.W.Frag) (N : Fb) (H : Hp) : D → V → Prop
  | .non, v => v = .non
  | .bl b, v => v = .bl b
  | .int i, v => v = .int i
  | .str x, v => v = .str x
  | .ty n, v => v = .ty n
  | .tup xs, v => ∃ a vs, v = .ref a ∧ SqT K H a vs ∧ DenL K N H xs vs
  | .lst xs b, v => ∃ a vs, v = .ref a ∧ LstAt K N H a (CO b xs vs) ∧ DenL K N H xs vs
def DenL (K : PySem.W.Frag) (N : Fb) (H : Hp) : List D → List V → Prop
  | [], vs => vs = []
  | x :: xs, vs => ∃ v r, vs = v :: r ∧ Den K N H x v ∧ DenL K N H xs r
end
structure Step (M N N' : Fb) (H H' : Hp) : Prop where
  kp : ∀ a o, H a = some o → (¬ N a ∨ M a ∨ isL o = false) → H' a = some o
  nw : ∀ a, N' a → N a ∨ H a = none
theorem Step.trans {M N N1 N2 : Fb} {H H1 H2 : Hp} (a : Step M N N1 H H1) (b : Step M N1 N2 H1 H2) : Step M N N2 H H2 where
  kp := fun c o h z => by
    have h1 := a.kp c o h z
    refine b.kp c o h1 ?_
    rcases z with z | z | z
    · refine .inl fun n1 => ?_
      rcases a.nw c n1 with q | q
      · exact z q
      · rw [h] at q; cases q
    · exact .inr (.inl z)
    · exact .inr (.inr z)
  nw := fun c n2 => by
    rcases b.nw c n2 with q | q
    · exact a.nw c q
    · cases e : H c with
      | none => exact .inr rfl
      | some o =>
        refine .inl (Classical.byContradiction fun z => ?_)
        rw [a.kp c o e (.inl z)] at q
        cases q
theorem Step.of_same {M N : Fb} {H H' : Hp} (s : Same H H') : Step M N N H H' := ⟨fun a o h _ => s a o h, fun a h => .inl h⟩
theorem Step.refl {M N : Fb} {H : Hp} : Step M N N H H := Step.of_same (Same.refl H)
theorem Rd.step {M N N' : Fb} {H H' : Hp} {a : Addr} {u : HO} (s : Step M N N' H H') (h : Rd H a u) (z : ¬ N a ∨ M a ∨ isL u = false) : Rd H' a u := by
  rcases h with h | ⟨o, h⟩
  · exact .inl (s.kp a u h z)
  · exact .inr ⟨o, s.kp a _ h (.inr (.inr rfl))⟩
theorem Rd.same {H H' : Hp} {a : Addr} {u : HO} (s : Same H H') (h : Rd H a u) : Rd H' a u := by
  rcases h with h | ⟨o, h⟩
  · exact .inl (s a u h)
  · exact .inr ⟨o, s a _ h⟩
theorem SqT.step {K : PySem.W.Frag} {M N N' : Fb} {H H' : Hp} {a : Addr} {xs : List V} (s : Step M N N' H H') (h : SqT K H a xs) : SqT K H' a xs := by
  rcases h with h | h
  · exact .inl (h.step s (.inr (.inr rfl)))
  · exact .inr h
theorem SqT.same {K : PySem.W.Frag} {H H' : Hp} {a : Addr} {xs : List V} (s : Same H H') (h : SqT K H a xs) : SqT K H' a xs := SqT.step (M := fun _ => False) (N := fun _ => False) (Step.of_same s) h
theorem Rd.has {H : Hp} {a : Addr} {u : HO} (h : Rd H a u) : H a ≠ none := by
  rcases h with h | ⟨o, h⟩ <;> rw [h] <;> exact fun e => nomatch e
mutual
theorem Den.step {K : PySem.W.Frag} {M N N' : Fb} {H H' : Hp} (s : Step M N N' H H') : ∀ (d : D) (v : V), Den K N H d v → Den K N' H' d v
  | .non, _, h => h
  | .bl _, _, h => h
  | .int _, _, h => h
  | .str _, _, h => h
  | .ty _, _, h => h
  | .tup xs, v, h => by
    simp only [Den] at h ⊢
    obtain ⟨a, vs, e, q, r⟩ := h
    exact ⟨a, vs, e, q.step s, DenL.step s xs vs r⟩
  | .lst xs fl, v, h => by
    simp only [Den] at h ⊢
    obtain ⟨a, vs, e, q, r⟩ := h
    refine ⟨a, vs, e, ?_, DenL.step s xs vs r⟩
    rcases q with ⟨n, q⟩ | q
    · refine .inl ⟨fun n' => ?_, q.step s (.inl n)⟩
      rcases s.nw a n' with z | z
      · exact n z
      · exact q.has z
    · exact .inr q
theorem DenL.step {K : PySem.W.Frag} {M N N' : Fb} {H H' : Hp} (s : Step M N N' H H') : ∀ (xs : List D) (vs : List V), DenL K N H xs vs → DenL K N' H' xs vs
  | [], _, h => h
  | x :: xs, vs, h => by
    simp only [DenL] at h ⊢
    obtain ⟨v, r, e, q, t⟩ := h
    exact ⟨v, r, e, Den.step s x v q, DenL.step s xs r t⟩
end
section
variable {K : PySem.W.Frag} {M N N' : Fb} {H H' : Hp} {d : D} {v : V} {xs ys : List D} {vs ws : List V} {a : Addr}
theorem Den.same (h : Den K N H d v) (s : Same H H') : Den K N H' d v := Den.step (M := N) (Step.of_same s) d v h
theorem DenL.same (h : DenL K N H xs vs) (s : Same H H') : DenL K N H' xs vs := DenL.step (M := N) (Step.of_same s) xs vs h
theorem Den.nw (h : Den K N H d v) (z : ∀ a, N' a → N a ∨ H a = none) : Den K N' H d v := Den.step (M := N) (H' := H) ⟨fun _ _ h _ => h, z⟩ d v h
theorem DenL.nw (h : DenL K N H xs vs) (z : ∀ a, N' a → N a ∨ H a = none) : DenL K N' H xs vs := DenL.step (M := N) (H' := H) ⟨fun _ _ h _ => h, z⟩ xs vs h
theorem DenL.length : ∀ {xs : List D} {vs : List V}, DenL K N H xs vs → xs.length = vs.length
  | [], _, h => by simp only [DenL] at h; subst h; rfl
  | _ :: xs, _, h => by simp only [DenL] at h; obtain ⟨v, r, e, _, t⟩ := h; subst e; simp [DenL.length t]
theorem DenL.get : ∀ {xs : List D} {vs : List V} {i : Nat} {d : D}, DenL K N H xs vs → xs[i]? = some d → ∃ v, vs[i]? = some v ∧ Den K N H d v
  | [], _, i, d, _, e => by simp at e
  | x :: xs, _, 0, d, h, e => by
    simp only [DenL] at h; obtain ⟨v, r, e1, q, _⟩ := h; subst e1
    simp at e; subst e; exact ⟨v, rfl, q⟩
  | x :: xs, _, i + 1, d, h, e => by
    simp only [DenL] at h; obtain ⟨v, r, e1, _, t⟩ := h; subst e1
    obtain ⟨w, h1, h2⟩ := DenL.get (i := i) t (by simpa using e)
    exact ⟨w, by simpa using h1, h2⟩
theorem DenL.get' : ∀ {xs : List D} {vs : List V} {i : Nat} {v : V}, DenL K N H xs vs → vs[i]? = some v → ∃ d, xs[i]? = some d ∧ Den K N H d v := by
  intro xs vs i v h e
  have hl := h.length
  have hi : i < vs.length := (List.getElem?_eq_some_iff.mp e).1
  have hx : xs[i]? = some xs[i] := List.getElem?_eq_getElem (by omega)
  obtain ⟨w, h1, h2⟩ := h.get hx
  rw [e] at h1; cases h1
  exact ⟨_, hx, h2⟩
theorem DenL.append : ∀ {xs ys : List D} {vs ws : List V}, DenL K N H xs vs → DenL K N H ys ws → DenL K N H (xs ++ ys) (vs ++ ws)
  | [], _, _, _, h, h' => by simp only [DenL] at h; subst h; exact h'
  | x :: xs, ys, _, ws, h, h' => by
    simp only [DenL] at h; obtain ⟨v, r, e, q, t⟩ := h; subst e
    simp only [List.cons_append, DenL]
    exact ⟨v, r ++ ws, rfl, q, DenL.append t h'⟩
theorem DenL.nil : DenL K N H [] [] := by simp only [DenL]
theorem DenL.cons (h : Den K N H d v) (t : DenL K N H xs vs) : DenL K N H (d :: xs) (v :: vs) := by simp only [DenL]; exact ⟨v, vs, rfl, h, t⟩
theorem DenL.take : ∀ {xs : List D} {vs : List V} (n : Nat), DenL K N H xs vs → DenL K N H (xs.take n) (vs.take n)
  | _, _, 0, _ => by simpa using DenL.nil
  | [], _, n + 1, h => by simp only [DenL] at h; subst h; simpa using DenL.nil
  | x :: xs, _, n + 1, h => by
    simp only [DenL] at h; obtain ⟨v, r, e, q, t⟩ := h; subst e
    simpa using DenL.cons q (DenL.take n t)
theorem DenL.drop : ∀ {xs : List D} {vs : List V} (n : Nat), DenL K N H xs vs → DenL K N H (xs.drop n) (vs.drop n)
  | _, _, 0, h => by simpa using h
  | [], _, n + 1, h => by simp only [DenL] at h; subst h; simpa using DenL.nil
  | x :: xs, _, n + 1, h => by
    simp only [DenL] at h; obtain ⟨v, r, e, q, t⟩ := h; subst e
    simpa using DenL.drop n t
theorem DenL.reverse : ∀ {xs : List D} {vs : List V}, DenL K N H xs vs → DenL K N H xs.reverse vs.reverse
  | [], _, h => by simp only [DenL] at h; subst h; simpa using DenL.nil
  | x :: xs, _, h => by
    simp only [DenL] at h; obtain ⟨v, r, e, q, t⟩ := h; subst e
    simpa using DenL.append (DenL.reverse t) (DenL.cons q DenL.nil)
theorem DenL.set : ∀ {xs : List D} {vs : List V} (i : Nat), DenL K N H xs vs → Den K N H d v → DenL K N H (xs.set i d) (vs.set i v)
  | [], _, _, h, _ => by simp only [DenL] at h; subst h; simpa using DenL.nil
  | x :: xs, _, 0, h, q => by
    simp only [DenL] at h; obtain ⟨v, r, e, _, t⟩ := h; subst e
    simpa using DenL.cons q t
  | x :: xs, _, i + 1, h, q => by
    simp only [DenL] at h; obtain ⟨v, r, e, q', t⟩ := h; subst e
    simpa using DenL.cons q' (DenL.set i t q)
theorem DenL.ints : ∀ (ns : List Int), DenL K N H (ns.map D.int) (ns.map V.int)
  | [] => DenL.nil
  | n :: ns => DenL.cons (by simp only [Den]) (DenL.ints ns)
end
inductive Sl where
  | no | val (d : D) | own (xs : List D) (b : Bool := false) | lent (xs : List D) (b : Bool := false)
abbrev VE := List Sl
def Nf (M : Fb) (ρ : VE) (σ : St) : Fb := fun a => M a ∨ ∃ (i : Nat) (xs : List D) (b : Bool), ρ[i]? = some (Sl.own xs b) ∧ σ[i]? = some (some (V.ref a))
def SlOk (K : PySem.W.Frag) (M N : Fb) (H0 H : Hp) : Sl → Option V → Prop
  | .no, _ => True
  | .val d, o => ∃ v, o = some v ∧ Den K N H d v
  | .own xs b, o => ∃ a vs, o = some (.ref a) ∧ H0 a = none ∧ ¬ M a ∧ H a = some (CO b xs vs) ∧ DenL K N H xs vs
  | .lent xs b, o => ∃ a vs, o = some (.ref a) ∧ M a ∧ Rd H a (CO b xs vs) ∧ DenL K N H xs vs
structure Rel (K : PySem.W.Frag) (M : Fb) (H0 : Hp) (ρ : VE) (σ : St) (H : Hp) : Prop where
  len : ρ.length = σ.length
  same : Same H0 H
  mh : ∀ a, M a → H a ≠ none
  slot : ∀ (i : Nat) (s : Sl), ρ[i]? = some s → SlOk K M (Nf M ρ σ) H0 H s (σ[i]?.join)
  inj : ∀ (i j : Nat) (xs ys : List D) (b b' : Bool) (a : Addr), ρ[i]? = some (Sl.own xs b) → ρ[j]? = some (Sl.own ys b') → σ[i]? = some (some (V.ref a)) → σ[j]? = some (some (V.ref a)) → i = j
section
variable {K : PySem.W.Frag} {M N : Fb} {H0 H H' : Hp} {ρ : VE} {σ : St}
theorem Rel.nh (R : Rel K M H0 ρ σ H) : ∀ a, Nf M ρ σ a → H a ≠ none := by
  rintro a (h | ⟨i, xs, fl, h1, h2⟩)
  · exact R.mh a h
  · obtain ⟨b, vs, e, _, _, q, _⟩ := R.slot i _ h1
    rw [h2] at e
    have e' : b = a := by simpa using e.symm
    rw [← e', q]; exact fun z => nomatch z
theorem Rel.st (R : Rel K M H0 ρ σ H) (s : Same H H') : Rel K M H0 ρ σ H' where
  len := R.len
  same := R.same.trans s
  mh := fun a h z => R.mh a h (s.free z)
  slot := fun i sl e => by
    have q := R.slot i sl e
    cases sl with
    | no => trivial
    | val d => obtain ⟨v, e, h⟩ := q; exact ⟨v, e, h.same s⟩
    | own xs fl => obtain ⟨a, vs, e, h1, h2, h3, h4⟩ := q; exact ⟨a, vs, e, h1, h2, s _ _ h3, h4.same s⟩
    | lent xs fl => obtain ⟨a, vs, e, h1, h2, h3⟩ := q; exact ⟨a, vs, e, h1, h2.same s, h3.same s⟩
  inj := R.inj
theorem Rel.fresh (R : Rel K M H0 ρ σ H) {p : Addr} (h : H p = none) : ¬ Nf M ρ σ p := fun n => R.nh p n h
end
def tD (K : PySem.W.Frag) (M : Fb) (H0 : Hp) (f : VE → Option D) : TE := fun σ H Q => ∃ ρ d, Rel K M H0 ρ σ H ∧ f ρ = some d ∧ ∀ v H', Same H H' → Den K (Nf M ρ σ) H' d v → Q v H'
def DenP (K : PySem.W.Frag) (N : Fb) (H : Hp) (d : D) (v : V) : Prop := match d with
  | .lst xs => ∃ a vs, v = .ref a ∧ SqL K H a vs ∧ DenL K N H xs vs
  | .lst xs true => ∃ a vs, v = .ref a ∧ Rd H a (.dct (ktsOf xs) vs) ∧ DenL K N H xs vs
  | d => Den K N H d v
theorem Den.p {K : PySem.W.Frag} {N : Fb} {H : Hp} {d : D} {v : V} (h : Den K N H d v) : DenP K N H d v := by
  cases d with
  | lst xs fl =>
    simp only [Den] at h
    obtain ⟨a, vs, e, q, r⟩ := h
    cases fl with
    | false => exact ⟨a, vs, e, LstAt.sq q, r⟩
    | true =>
      rcases q with ⟨_, q⟩ | ⟨ws, z, _⟩
      · exact ⟨a, vs, e, q, r⟩
      · cases z
  | _ => exact h
theorem DenP.same {K : PySem.W.Frag} {N : Fb} {H H' : Hp} {d : D} {v : V} (h : DenP K N H d v) (s : Same H H') : DenP K N H' d v := by
  cases d with
  | lst xs fl =>
    cases fl with
    | false => obtain ⟨a, vs, e, q, r⟩ := h; exact ⟨a, vs, e, s.seq q, r.same s⟩
    | true => obtain ⟨a, vs, e, q, r⟩ := h; exact ⟨a, vs, e, q.same s, r.same s⟩
  | _ => exact Den.same h s
theorem denP_co {K : PySem.W.Frag} {N : Fb} {H : Hp} {xs : List D} {vs : List V} {fl : Bool} {a : Addr} (h : Rd H a (CO fl xs vs)) (r : DenL K N H xs vs) : DenP K N H (.lst xs fl) (.ref a) := by
  cases fl with
  | false => exact ⟨a, vs, rfl, .inl h, r⟩
  | true => exact ⟨a, vs, rfl, h, r⟩
def tP (K : PySem.W.Frag) (M : Fb) (H0 : Hp) (f : VE → Option D) : TE := fun σ H Q => ∃ ρ d, Rel K M H0 ρ σ H ∧ f ρ = some d ∧ ∀ v H', Same H H' → DenP K (Nf M ρ σ) H' d v → Q v H'
def tFb (fl : Bool) (K : PySem.W.Frag) (M : Fb) (H0 : Hp) (f : VE → Option (List D)) : TE := fun σ H Q => ∃ ρ xs, Rel K M H0 ρ σ H ∧ f ρ = some xs ∧
  ∀ a vs H', Same H H' → H a = none → H' a = some (CO fl xs vs) → DenL K (fun b => Nf M ρ σ b ∨ b = a) H' xs vs → Q (.ref a) H'
@[reducible] def tF (K : PySem.W.Frag) (M : Fb) (H0 : Hp) (f : VE → Option (List D)) : TE := tFb false K M H0 f
def tB' (K : PySem.W.Frag) (M : Fb) (H0 : Hp) (f : VE → Option Bool) : TT := fun σ H Q => ∃ ρ b, Rel K M H0 ρ σ H ∧ f ρ = some b ∧ ∀ H', Same H H' → Q b H'
structure JE (X : Cx) (e : Expr) (t : TE) : Prop where h : PE X e t
structure JT (X : Cx) (e : Expr) (t : TT) : Prop where h : PT X e t
structure JW (X : Cx) (e : Expr) (t : TT) : Prop where h : PW X e t
structure JA (X : Cx) (e : List Expr) (t : TA) : Prop where h : PA X e t
structure JS (X : Cx) (e : Stmt) (t : TS) : Prop where h : PS X e t
structure JB (X : Cx) (e : List Stmt) (t : TS) : Prop where h : PSs X e t
structure JI (X : Cx) (tg e : Expr) (t : TI) : Prop where h : PI X tg e t
structure JG (X : Cx) (e : Expr) (t : TG) : Prop where h : PG X e t
structure JK (X : Cx) (e : List Expr) (t : TGs) : Prop where h : PGs X e t
structure JO (X : Cx) (e : Option Expr) (t : TO) : Prop where h : PO X e t
structure JF (X : Cx) (e : List Expr) (t : TT) : Prop where h : PFs X e t
theorem PE.mono {X : Cx} {e : Expr} {t t' : TE} (h : PE X e t) (m : ∀ σ H Q, t' σ H Q → t σ H Q) : PE X e t' := fun pins s σ H Q I q => h pins s σ H Q I (m σ H Q q)
theorem PT.mono {X : Cx} {e : Expr} {t t' : TT} (h : PT X e t) (m : ∀ σ H Q, t' σ H Q → t σ H Q) : PT X e t' := fun pins s σ H Q I q => h pins s σ H Q I (m σ H Q q)
theorem PW.mono {X : Cx} {e : Expr} {t t' : TT} (h : PW X e t) (m : ∀ σ H Q, t' σ H Q → t σ H Q) : PW X e t' := fun wh pins s σ H Q I q => h wh pins s σ H Q I (m σ H Q q)
theorem PA.mono {X : Cx} {e : List Expr} {t t' : TA} (h : PA X e t) (m : ∀ σ H Q, t' σ H Q → t σ H Q) : PA X e t' := fun pos pins s σ H Q I q => h pos pins s σ H Q I (m σ H Q q)
theorem PS.mono {X : Cx} {e : Stmt} {t t' : TS} (h : PS X e t) (m : ∀ D σ H, t' D σ H → t D σ H) : PS X e t' := fun pins s σ H D I q => h pins s σ H D I (m D σ H q)
theorem PSs.mono {X : Cx} {e : List Stmt} {t t' : TS} (h : PSs X e t) (m : ∀ D σ H, t' D σ H → t D σ H) : PSs X e t' := fun pins s σ H D I q => h pins s σ H D I (m D σ H q)
section
variable {X : Cx} {K : PySem.W.Frag} {M : Fb} {H0 : Hp} {e a b : Expr} {f g : VE → Option D} {pos : Pos}
theorem PE.p (h : PE X e (tD K M H0 f)) : PE X e (tP K M H0 f) := h.mono fun σ H Q ⟨ρ, d, R, e, q⟩ => ⟨ρ, d, R, e, fun v H' s z => q v H' s z.p⟩
theorem j_p (h : JE X e (tD K M H0 f)) : JE X e (tP K M H0 f) := ⟨PE.p h.h⟩
@[simp] def lstO (o : Option (List D)) : Option D := o.map D.lst
@[simp] def dctO (o : Option (List D)) : Option D := o.map fun l => D.lst l true
theorem PE.fd {f : VE → Option (List D)} (h : PE X e (tF K M H0 f)) : PE X e (tD K M H0 fun ρ => lstO (f ρ)) := h.mono fun σ H Q ⟨ρ, d, R, e, q⟩ => by
  try dsimp only at e q
  cases hf : f ρ with
  | none => rw [hf] at e; cases e
  | some xs =>
    rw [hf] at e
    cases e
    refine ⟨ρ, xs, R, hf, fun a vs H' s z1 z2 z3 => q _ _ s ?_⟩
    simp only [Den]
    refine ⟨a, vs, rfl, .of (R.fresh z1) z2, z3.nw fun b hb => .inl (.inl hb)⟩
theorem PE.dd {f : VE → Option (List D)} (h : PE X e (tFb true K M H0 f)) : PE X e (tD K M H0 fun ρ => dctO (f ρ)) := h.mono fun σ H Q ⟨ρ, d, R, e, q⟩ => by
  try dsimp only at e q
  cases hf : f ρ with
  | none => rw [hf] at e; cases e
  | some xs =>
    rw [hf] at e
    cases e
    refine ⟨ρ, xs, R, hf, fun a vs H' s z1 z2 z3 => q _ _ s ?_⟩
    simp only [Den]
    refine ⟨a, vs, rfl, .of (R.fresh z1) z2, z3.nw fun b hb => .inl (.inl hb)⟩
theorem j_fd {f : VE → Option (List D)} (h : JE X e (tF K M H0 f)) : JE X e (tD K M H0 fun ρ => lstO (f ρ)) := ⟨PE.fd h.h⟩
theorem PE.fp {f : VE → Option (List D)} (h : PE X e (tF K M H0 f)) : PE X e (tP K M H0 fun ρ => lstO (f ρ)) := h.fd.p
@[simp] def rdV (ρ : VE) (i : Nat) : Option D := match ρ[i]? with
  | some (.val d) => some d
  | _ => none
@[simp] def rdP (ρ : VE) (i : Nat) : Option D := match ρ[i]? with
  | some (.val d) => some d
  | some (.own xs b) => some (.lst xs b)
  | some (.lent xs b) => some (.lst xs b)
  | _ => none
theorem rdV_slot {ρ : VE} {i : Nat} {d : D} (h : rdV ρ i = some d) : ρ[i]? = some (.val d) := by
  unfold rdV at h
  split at h
  · cases h; assumption
  · cases h
theorem ve_var {i : Nat} {x : Str} (hN : X.N[i]? = some x) (hv : Vis X.env.scope x) (hd : (x == ("__debug__" : Str)) = false := by decide) (hcd : (x == ("__classdict__" : Str)) = false := by decide) : PE X (.Name x pos) (tD K M H0 fun ρ => rdV ρ i) :=
  (pe_var hN hv hd hcd).mono fun σ H Q ⟨ρ, d, R, e, q⟩ => by
    try dsimp only at e q
    obtain ⟨v, e1, h⟩ := R.slot i _ (rdV_slot e)
    refine ⟨v, ?_, q v H (Same.refl H) h⟩
    cases z : σ[i]? with
    | none => rw [z] at e1; cases e1
    | some o => rw [z] at e1; cases e1; rfl
theorem vp_var {i : Nat} {x : Str} (hN : X.N[i]? = some x) (hv : Vis X.env.scope x) (hd : (x == ("__debug__" : Str)) = false := by decide) (hcd : (x == ("__classdict__" : Str)) = false := by decide) : PE X (.Name x pos) (tP K M H0 fun ρ => rdP ρ i) :=
  (pe_var hN hv hd hcd).mono fun σ H Q ⟨ρ, d, R, e, q⟩ => by
    try dsimp only at e q
    have fin : ∀ v, σ[i]?.join = some v → DenP K (Nf M ρ σ) H d v → ∃ v, σ[i]? = some (some v) ∧ Q v H := fun v e1 h => by
      refine ⟨v, ?_, q v H (Same.refl H) h⟩
      cases z : σ[i]? with
      | none => rw [z] at e1; cases e1
      | some o => rw [z] at e1; cases e1; rfl
    unfold rdP at e
    split at e
    · next h => cases e; obtain ⟨v, e1, h⟩ := R.slot i _ h; exact fin v e1 h.p
    · next h => cases e; obtain ⟨a, vs, e1, _, _, h3, h4⟩ := R.slot i _ h; exact fin _ e1 (denP_co (.inl h3) h4)
    · next h => cases e; obtain ⟨a, vs, e1, _, h3, h4⟩ := R.slot i _ h; exact fin _ e1 (denP_co h3 h4)
    · cases e
theorem ve_c {d : D} {v : V} {e : Expr} (h : PE X e (tC v)) (hd : ∀ N H, Den K N H d v) : PE X e (tD K M H0 fun _ => some d) :=
  h.mono fun σ H Q ⟨ρ, d', R, e, q⟩ => by (try dsimp only at e q); cases e; exact q v H (Same.refl H) (hd _ _)
theorem ve_int {i j pos} : PE X (.Constant (.int i) j pos) (tD K M H0 fun _ => some (.int i)) := ve_c pe_int fun _ _ => by simp only [Den]
theorem j_ve_int {i j pos} : JE X (.Constant (.int i) j pos) (tD K M H0 fun _ => some (.int i)) := ⟨ve_int ⟩
theorem ve_bl {i j pos} : PE X (.Constant (.bool i) j pos) (tD K M H0 fun _ => some (.bl i)) := ve_c pe_bl fun _ _ => by simp only [Den]
theorem j_ve_bl {i j pos} : JE X (.Constant (.bool i) j pos) (tD K M H0 fun _ => some (.bl i)) := ⟨ve_bl ⟩
theorem ve_non {j pos} : PE X (.Constant .none j pos) (tD K M H0 fun _ => some .non) := ve_c pe_non fun _ _ => by simp only [Den]
theorem j_ve_non {j pos} : JE X (.Constant .none j pos) (tD K M H0 fun _ => some .non) := ⟨ve_non ⟩
theorem ve_str {i j pos} : PE X (.Constant (.str i) j pos) (tD K M H0 fun _ => some (.str i)) := ve_c pe_str fun _ _ => by simp only [Den]
theorem j_ve_str {i j pos} : JE X (.Constant (.str i) j pos) (tD K M H0 fun _ => some (.str i)) := ⟨ve_str ⟩
def R2D (K : PySem.W.Frag) (r : R2) (F : D → D → Option D) : Prop := ∀ (N : Fb) (H : Hp) (x y : V) (d1 d2 d : D) (Q : VK), (∀ a, N a → H a ≠ none) → DenP K N H d1 x → DenP K N H d2 y → F d1 d2 = some d →
  (∀ v H', Same H H' → Den K N H' d v → Q v H') → r x y H Q
@[simp] def bin2 (F : D → D → Option D) (f g : VE → Option D) : VE → Option D := fun ρ => (f ρ).bind fun x => (g ρ).bind fun y => F x y
theorem bin2_inv {F : D → D → Option D} {f g : VE → Option D} {ρ : VE} {d : D} (h : bin2 F f g ρ = some d) : ∃ x y, f ρ = some x ∧ g ρ = some y ∧ F x y = some d := by
  unfold bin2 at h
  cases hf : f ρ with
  | none => rw [hf] at h; cases h
  | some x =>
    cases hg : g ρ with
    | none => rw [hf, hg] at h; cases h
    | some y => rw [hf, hg] at h; exact ⟨x, y, rfl, rfl, h⟩
theorem tOp_D {r : R2} {F : D → D → Option D} (hr : R2D K r F) {σ : St} {H : Hp} {Q : VK} (h : tD K M H0 (bin2 F f g) σ H Q) : tOp r (tP K M H0 f) (tP K M H0 g) σ H Q := by
  obtain ⟨ρ, d, R, e, q⟩ := h
  try dsimp only at e q
  obtain ⟨x, y, e1, e2, e3⟩ := bin2_inv e
  refine ⟨ρ, x, R, e1, fun v H1 s1 h1 => ⟨ρ, y, R.st s1, e2, fun u H2 s2 h2 => ?_⟩⟩
  exact hr (Nf M ρ σ) H2 v u x y d Q ((R.st s1).st s2).nh (h1.same s2) h2 e3 fun w H3 s3 h3 => q w H3 ((s1.trans s2).trans s3) h3
theorem ve_op {op : Operator} {r : R2} {F : D → D → Option D} (ho : OpR X (binaryOp op) r) (hr : R2D K r F) (ha : PE X a (tP K M H0 f)) (hb : PE X b (tP K M H0 g)) : PE X (.BinOp a op b pos) (tD K M H0 (bin2 F f g)) :=
  (pe_op ho ha hb).mono fun _ _ _ h => tOp_D hr h
theorem ve_cmp {op : CmpOp} {r : R2} {F : D → D → Option D} (ho : OpR X (compareOp op) r) (hr : R2D K r F) (ha : PE X a (tP K M H0 f)) (hb : PE X b (tP K M H0 g)) (hm : behindInMarks op b = false) : PE X (.Compare a [op] [b] pos) (tD K M H0 (bin2 F f g)) :=
  (pe_cmpR ho ha hb hm).mono fun _ _ _ h => tOp_D hr h
theorem ve_ix {r : R2} {F : D → D → Option D} (ho : IxR X r) (hr : R2D K r F) (ha : PE X a (tP K M H0 f)) (hb : PE X b (tP K M H0 g)) (hs : PlainIx b) : PE X (.Subscript a b pos) (tD K M H0 (bin2 F f g)) :=
  (pe_ix ho ha hb hs).mono fun _ _ _ h => tOp_D hr h
@[simp] def orO {α : Type} (a b : Option α) : Option α := match a with
  | some x => some x
  | none => b
theorem R2D.or {r r' : R2} {F F' : D → D → Option D} (h : R2D K r F) (h' : R2D K r' F') : R2D K (fun x y H Q => r x y H Q ∨ r' x y H Q) (fun x y => orO (F x y) (F' x y)) := by
  intro N H x y d1 d2 d Q nh h1 h2 e q
  cases hF : F d1 d2 with
  | some z => simp only [hF, orO] at e; cases e; exact .inl (h N H x y d1 d2 d Q nh h1 h2 hF q)
  | none => simp only [hF, orO] at e; exact .inr (h' N H x y d1 d2 d Q nh h1 h2 e q)
@[simp] def asB : Option D → Option Bool
  | some (.bl b) => some b
  | _ => none
theorem asB_some {o : Option D} {b : Bool} (h : asB o = some b) : o = some (.bl b) := by
  unfold asB at h
  split at h
  · cases h; rfl
  · cases h
theorem tTest_D {t : TE} {σ : St} {H : Hp} {Q : Bool → Hp → Prop} (ht : ∀ σ H Q, tD K M H0 f σ H Q → t σ H Q) (h : tB' K M H0 (fun ρ => asB (f ρ)) σ H Q) : tB t σ H Q := by
  obtain ⟨ρ, b, R, e, q⟩ := h
  try dsimp only at e q
  refine ht σ H _ ⟨ρ, .bl b, R, asB_some e, fun v H' s hv => ?_⟩
  simp only [Den] at hv
  exact ⟨b, hv, q H' s⟩
theorem vt_cmp {op : CmpOp} {r : R2} {F : D → D → Option D} (ho : OpR X (compareOp op) r) (hr : R2D K r F) (ha : PE X a (tP K M H0 f)) (hb : PE X b (tP K M H0 g)) (hm : behindInMarks op b = false) : PT X (.Compare a [op] [b] pos) (tB' K M H0 fun ρ => asB (bin2 F f g ρ)) :=
  (pt_cmpR ho ha hb hm).mono fun _ _ _ q => tTest_D (t := tOp r (tP K M H0 f) (tP K M H0 g)) (fun _ _ _ z => tOp_D hr z) q
@[simp] def notO (o : Option Bool) : Option Bool := o.map (!·)
@[simp] def andO (o p : Option Bool) : Option Bool := match o with
  | some true => p
  | some false => some false
  | none => none
@[simp] def orB (o p : Option Bool) : Option Bool := match o with
  | some true => some true
  | some false => p
  | none => none
section
variable {c c' : VE → Option Bool} {rest : List Expr}
theorem vt_not (h : PT X a (tB' K M H0 c)) : PT X (.UnaryOp .Not a pos) (tB' K M H0 fun ρ => notO (c ρ)) := (pt_not h).mono fun σ H Q ⟨ρ, b, R, e, q⟩ => by
  try dsimp only at e q
  cases hc : c ρ with
  | none => rw [hc] at e; cases e
  | some k => rw [hc] at e; cases e; exact ⟨ρ, k, R, hc, q⟩
theorem j_vt_not (h : JT X a (tB' K M H0 c)) : JT X (.UnaryOp .Not a pos) (tB' K M H0 fun ρ => notO (c ρ)) := ⟨vt_not h.h⟩
theorem vw_and1 (h : PT X a (tB' K M H0 c)) : PW X (.BoolOp .And [a] pos) (tB' K M H0 c) := pw_and1 h
theorem j_vw_and1 (h : JT X a (tB' K M H0 c)) : JW X (.BoolOp .And [a] pos) (tB' K M H0 c) := ⟨vw_and1 h.h⟩
theorem vw_or1 (h : PT X a (tB' K M H0 c)) : PW X (.BoolOp .Or [a] pos) (tB' K M H0 c) := pw_or1 h
theorem j_vw_or1 (h : JT X a (tB' K M H0 c)) : JW X (.BoolOp .Or [a] pos) (tB' K M H0 c) := ⟨vw_or1 h.h⟩
theorem tAnd_D {σ : St} {H : Hp} {Q : Bool → Hp → Prop} (h : tB' K M H0 (fun ρ => andO (c ρ) (c' ρ)) σ H Q) : tAnd (tB' K M H0 c) (tB' K M H0 c') σ H Q := by
  obtain ⟨ρ, b, R, e, q⟩ := h
  try dsimp only at e q
  cases hc : c ρ with
  | none => rw [hc] at e; cases e
  | some k =>
    cases k with
    | true => rw [hc] at e; exact ⟨ρ, true, R, hc, fun H1 s => by refine ite_t ?_; exact ⟨ρ, b, R.st s, e, fun H2 s2 => q H2 (s.trans s2)⟩⟩
    | false => rw [hc] at e; cases e; exact ⟨ρ, false, R, hc, fun H1 s => by refine ite_f ?_; exact q H1 s⟩
theorem tOr_D {σ : St} {H : Hp} {Q : Bool → Hp → Prop} (h : tB' K M H0 (fun ρ => orB (c ρ) (c' ρ)) σ H Q) : tOr (tB' K M H0 c) (tB' K M H0 c') σ H Q := by
  obtain ⟨ρ, b, R, e, q⟩ := h
  try dsimp only at e q
  cases hc : c ρ with
  | none => rw [hc] at e; cases e
  | some k =>
    cases k with
    | false => rw [hc] at e; exact ⟨ρ, false, R, hc, fun H1 s => by refine ite_f ?_; exact ⟨ρ, b, R.st s, e, fun H2 s2 => q H2 (s.trans s2)⟩⟩
    | true => rw [hc] at e; cases e; exact ⟨ρ, true, R, hc, fun H1 s => by refine ite_t ?_; exact q H1 s⟩
theorem vw_and (h : PT X a (tB' K M H0 c)) (h' : PW X (.BoolOp .And (b :: rest) pos) (tB' K M H0 c')) : PW X (.BoolOp .And (a :: b :: rest) pos) (tB' K M H0 fun ρ => andO (c ρ) (c' ρ)) := (pw_and h h').mono fun _ _ _ q => tAnd_D q
theorem j_vw_and (h : JT X a (tB' K M H0 c)) (h' : JW X (.BoolOp .And (b :: rest) pos) (tB' K M H0 c')) : JW X (.BoolOp .And (a :: b :: rest) pos) (tB' K M H0 fun ρ => andO (c ρ) (c' ρ)) := ⟨vw_and h.h h'.h⟩
theorem vw_or (h : PT X a (tB' K M H0 c)) (h' : PW X (.BoolOp .Or (b :: rest) pos) (tB' K M H0 c')) : PW X (.BoolOp .Or (a :: b :: rest) pos) (tB' K M H0 fun ρ => orB (c ρ) (c' ρ)) := (pw_or h h').mono fun _ _ _ q => tOr_D q
theorem j_vw_or (h : JT X a (tB' K M H0 c)) (h' : JW X (.BoolOp .Or (b :: rest) pos) (tB' K M H0 c')) : JW X (.BoolOp .Or (a :: b :: rest) pos) (tB' K M H0 fun ρ => orB (c ρ) (c' ρ)) := ⟨vw_or h.h h'.h⟩
@[simp] def blO (o : Option Bool) : Option D := o.map D.bl
theorem tD_bl {σ : St} {H : Hp} {Q : VK} (h : tD K M H0 (fun ρ => blO (c ρ)) σ H Q) : ∃ ρ b, Rel K M H0 ρ σ H ∧ c ρ = some b ∧ ∀ H', Same H H' → Q (.bl b) H' := by
  obtain ⟨ρ, d, R, e, q⟩ := h
  try dsimp only at e q
  cases hc : c ρ with
  | none => rw [hc] at e; cases e
  | some k => rw [hc] at e; cases e; exact ⟨ρ, k, R, hc, fun H' s => q _ H' s (by simp only [Den])⟩
theorem ve_not (h : PE X a (tD K M H0 f)) : PE X (.UnaryOp .Not a pos) (tD K M H0 fun ρ => blO (notO (asB (f ρ)))) := (pe_not h).mono fun σ H Q q => by
  obtain ⟨ρ, b, R, e, q⟩ := tD_bl q
  try dsimp only at e q
  cases hc : asB (f ρ) with
  | none => rw [hc] at e; cases e
  | some k =>
    rw [hc] at e; cases e
    refine ⟨ρ, .bl k, R, asB_some hc, fun v H' s hv => ?_⟩
    simp only [Den] at hv
    exact ⟨k, hv, q H' s⟩
theorem j_ve_not (h : JE X a (tD K M H0 f)) : JE X (.UnaryOp .Not a pos) (tD K M H0 fun ρ => blO (notO (asB (f ρ)))) := ⟨ve_not h.h⟩
theorem ve_one {op} (h : PE X a (tD K M H0 f)) : PE X (.BoolOp op [a] pos) (tD K M H0 fun ρ => blO (asB (f ρ))) := (pe_one h).mono fun σ H Q q => by
  obtain ⟨ρ, b, R, e, q⟩ := tD_bl q
  try dsimp only at e q
  exact ⟨ρ, .bl b, R, asB_some e, fun v H' s hv => by simp only [Den] at hv; subst hv; exact q H' s⟩
theorem j_ve_one {op} (h : JE X a (tD K M H0 f)) : JE X (.BoolOp op [a] pos) (tD K M H0 fun ρ => blO (asB (f ρ))) := ⟨ve_one h.h⟩
theorem ve_and (h : PE X a (tD K M H0 f)) (h' : PE X (.BoolOp .And (b :: rest) pos) (tD K M H0 fun ρ => blO (c' ρ))) : PE X (.BoolOp .And (a :: b :: rest) pos) (tD K M H0 fun ρ => blO (andO (asB (f ρ)) (c' ρ))) := (pe_and h h').mono fun σ H Q q => by
  obtain ⟨ρ, b, R, e, q⟩ := tD_bl q
  try dsimp only at e q
  cases hc : asB (f ρ) with
  | none => rw [hc] at e; cases e
  | some k =>
    refine ⟨ρ, .bl k, R, asB_some hc, fun v H' s hv => ?_⟩
    simp only [Den] at hv
    refine ⟨k, hv, ?_⟩
    cases k with
    | true =>
      rw [hc] at e; refine ite_t ?_
      have e' : c' ρ = some b := e
      exact ⟨ρ, .bl b, R.st s, by show blO (c' ρ) = _; rw [e']; rfl, fun w H2 s2 hw => by simp only [Den] at hw; subst hw; exact q H2 (s.trans s2)⟩
    | false => rw [hc] at e; cases e; refine ite_f ?_; exact q H' s
theorem j_ve_and (h : JE X a (tD K M H0 f)) (h' : JE X (.BoolOp .And (b :: rest) pos) (tD K M H0 fun ρ => blO (c' ρ))) : JE X (.BoolOp .And (a :: b :: rest) pos) (tD K M H0 fun ρ => blO (andO (asB (f ρ)) (c' ρ))) := ⟨ve_and h.h h'.h⟩
theorem ve_or (h : PE X a (tD K M H0 f)) (h' : PE X (.BoolOp .Or (b :: rest) pos) (tD K M H0 fun ρ => blO (c' ρ))) : PE X (.BoolOp .Or (a :: b :: rest) pos) (tD K M H0 fun ρ => blO (orB (asB (f ρ)) (c' ρ))) := (pe_or h h').mono fun σ H Q q => by
  obtain ⟨ρ, b, R, e, q⟩ := tD_bl q
  try dsimp only at e q
  cases hc : asB (f ρ) with
  | none => rw [hc] at e; cases e
  | some k =>
    refine ⟨ρ, .bl k, R, asB_some hc, fun v H' s hv => ?_⟩
    simp only [Den] at hv
    refine ⟨k, hv, ?_⟩
    cases k with
    | false =>
      rw [hc] at e; refine ite_f ?_
      have e' : c' ρ = some b := e
      exact ⟨ρ, .bl b, R.st s, by show blO (c' ρ) = _; rw [e']; rfl, fun w H2 s2 hw => by simp only [Den] at hw; subst hw; exact q H2 (s.trans s2)⟩
    | true => rw [hc] at e; cases e; refine ite_t ?_; exact q H' s
theorem j_ve_or (h : JE X a (tD K M H0 f)) (h' : JE X (.BoolOp .Or (b :: rest) pos) (tD K M H0 fun ρ => blO (c' ρ))) : JE X (.BoolOp .Or (a :: b :: rest) pos) (tD K M H0 fun ρ => blO (orB (asB (f ρ)) (c' ρ))) := ⟨ve_or h.h h'.h⟩
@[simp] def iteO {α : Type} (c : Option Bool) (a b : Option α) : Option α := match c with
  | some true => a
  | some false => b
  | none => none
theorem ve_ifExp {k : Expr} (hc : PT X k (tB' K M H0 c)) (ha : PE X a (tD K M H0 f)) (hb : PE X b (tD K M H0 g)) : PE X (.IfExp k a b pos) (tD K M H0 fun ρ => iteO (c ρ) (f ρ) (g ρ)) := (pe_ifExp hc ha hb).mono fun σ H Q ⟨ρ, d, R, e, q⟩ => by
  try dsimp only at e q
  cases hc : c ρ with
  | none => rw [hc] at e; cases e
  | some k =>
    refine ⟨ρ, k, R, hc, fun H1 s => ?_⟩
    cases k with
    | true => rw [hc] at e; refine ite_t ?_; exact ⟨ρ, d, R.st s, e, fun w H2 s2 hw => q w H2 (s.trans s2) hw⟩
    | false => rw [hc] at e; refine ite_f ?_; exact ⟨ρ, d, R.st s, e, fun w H2 s2 hw => q w H2 (s.trans s2) hw⟩
theorem j_ve_ifExp {k : Expr} (hc : JT X k (tB' K M H0 c)) (ha : JE X a (tD K M H0 f)) (hb : JE X b (tD K M H0 g)) : JE X (.IfExp k a b pos) (tD K M H0 fun ρ => iteO (c ρ) (f ρ) (g ρ)) := ⟨ve_ifExp hc.h ha.h hb.h⟩
@[simp] def isN : D → Bool
  | .non => true
  | _ => false
@[simp] def isNO (o : Option D) : Option Bool := o.map isN
theorem DenP.isN {K : PySem.W.Frag} {N : Fb} {H : Hp} {d : D} {v : V} (h : DenP K N H d v) : decide (v = .non) = L2.isN d := by
  cases d with
  | non => simp only [DenP, Den] at h; subst h; rfl
  | bl _ => simp only [DenP, Den] at h; subst h; rfl
  | int _ => simp only [DenP, Den] at h; subst h; rfl
  | str _ => simp only [DenP, Den] at h; subst h; rfl
  | ty _ => simp only [DenP, Den] at h; subst h; rfl
  | tup _ => simp only [DenP, Den] at h; obtain ⟨a, vs, e, _⟩ := h; subst e; rfl
  | lst _ fl => cases fl <;> (obtain ⟨a, vs, e, _⟩ := h; subst e; rfl)
theorem vt_isN {j pos'} (h : PE X a (tP K M H0 f)) : PT X (.Compare a [.Is] [.Constant .none j pos'] pos) (tB' K M H0 fun ρ => isNO (f ρ)) := (pt_cmp (pc_isN h)).mono fun σ H Q ⟨ρ, b, R, e, q⟩ => by
  try dsimp only at e q
  cases hf : f ρ with
  | none => rw [hf] at e; cases e
  | some d => rw [hf] at e; cases e; exact ⟨ρ, d, R, hf, fun v H' s hv => ⟨_, rfl, by rw [hv.isN]; exact q H' s⟩⟩
theorem j_vt_isN {j pos'} (h : JE X a (tP K M H0 f)) : JT X (.Compare a [.Is] [.Constant .none j pos'] pos) (tB' K M H0 fun ρ => isNO (f ρ)) := ⟨vt_isN h.h⟩
theorem vt_notN {j pos'} (h : PE X a (tP K M H0 f)) : PT X (.Compare a [.IsNot] [.Constant .none j pos'] pos) (tB' K M H0 fun ρ => notO (isNO (f ρ))) := (pt_cmp (pc_notN h)).mono fun σ H Q ⟨ρ, b, R, e, q⟩ => by
  try dsimp only at e q
  cases hf : f ρ with
  | none => rw [hf] at e; cases e
  | some d => rw [hf] at e; cases e; exact ⟨ρ, d, R, hf, fun v H' s hv => ⟨_, rfl, by rw [hv.isN]; exact q H' s⟩⟩
theorem j_vt_notN {j pos'} (h : JE X a (tP K M H0 f)) : JT X (.Compare a [.IsNot] [.Constant .none j pos'] pos) (tB' K M H0 fun ρ => notO (isNO (f ρ))) := ⟨vt_notN h.h⟩
end
end
end L2
set_option Elab.async false
set_option linter.all false
set_option maxRecDepth 100000
namespace L2
open PySem PySem.Spec PyProof.Rows
theorem star_c {e : Expr} {es : List Expr} {env : Env} (h : ∀ x p, e ≠ .Starred x p) : starEach (e :: es) env = (false, eval e env) :: starEach es env := by
  cases e with
  | Starred x p => exact absurd rfl (h x p)
  | _ => rfl
def ArgOk (K : PySem.W.Frag) (N : Fb) (H : Hp) : Sl → V → Prop
  | .val d, v => Den K N H d v
  | .lent xs b, v => ∃ a vs, v = .ref a ∧ N a ∧ Rd H a (CO b xs vs) ∧ DenL K N H xs vs
  | _, _ => False
def ArgsOk (K : PySem.W.Frag) (N : Fb) (H : Hp) : List Sl → List V → Prop
  | [], vs => vs = []
  | s :: ss, vs => ∃ v r, vs = v :: r ∧ ArgOk K N H s v ∧ ArgsOk K N H ss r
@[simp] def pk : Sl → Option D
  | .val d => some d
  | .lent xs b => some (.lst xs b)
  | .own xs b => some (.lst xs b)
  | .no => none
theorem ArgOk.same {K : PySem.W.Frag} {N : Fb} {H H' : Hp} {s : Sl} {v : V} (h : ArgOk K N H s v) (sm : Same H H') : ArgOk K N H' s v := by
  cases s with
  | val d => exact Den.same h sm
  | lent xs fl => obtain ⟨a, vs, e, n, q, r⟩ := h; exact ⟨a, vs, e, n, q.same sm, r.same sm⟩
  | no => exact h
  | own xs fl => exact h
theorem ArgsOk.same {K : PySem.W.Frag} {N : Fb} {H H' : Hp} (sm : Same H H') : ∀ {ss : List Sl} {vs : List V}, ArgsOk K N H ss vs → ArgsOk K N H' ss vs
  | [], _, h => h
  | s :: ss, _, ⟨v, r, e, h, t⟩ => ⟨v, r, e, h.same sm, ArgsOk.same sm t⟩
theorem ArgOk.p {K : PySem.W.Frag} {N : Fb} {H : Hp} {s : Sl} {v : V} (h : ArgOk K N H s v) : ∃ d, pk s = some d ∧ DenP K N H d v := by
  cases s with
  | val d => exact ⟨d, rfl, Den.p h⟩
  | lent xs fl => obtain ⟨a, vs, e, n, q, r⟩ := h; subst e; exact ⟨_, rfl, denP_co q r⟩
  | no => exact False.elim h
  | own xs fl => exact False.elim h
theorem ArgsOk.length {K : PySem.W.Frag} {N : Fb} {H : Hp} : ∀ {ss : List Sl} {vs : List V}, ArgsOk K N H ss vs → ss.length = vs.length
  | [], _, h => by cases h; rfl
  | s :: ss, _, ⟨v, r, e, h, t⟩ => by subst e; simp [ArgsOk.length t]
theorem ArgsOk.get {K : PySem.W.Frag} {N : Fb} {H : Hp} : ∀ {ss : List Sl} {vs : List V} {i : Nat} {s : Sl}, ArgsOk K N H ss vs → ss[i]? = some s → ∃ v, vs[i]? = some v ∧ ArgOk K N H s v
  | [], _, i, s, h, e => by simp at e
  | _ :: ss, _, 0, s, ⟨v, r, e1, h, t⟩, e => by subst e1; simp at e; subst e; exact ⟨v, rfl, h⟩
  | _ :: ss, _, i + 1, s, ⟨v, r, e1, h, t⟩, e => by
    subst e1
    obtain ⟨w, h1, h2⟩ := ArgsOk.get (i := i) t (by simpa using e)
    exact ⟨w, by simpa using h1, h2⟩
def tA' (K : PySem.W.Frag) (M : Fb) (H0 : Hp) (f : VE → Option (List Sl)) : TA := fun σ H Q => ∃ ρ ss, Rel K M H0 ρ σ H ∧ f ρ = some ss ∧ ∀ vs H', Same H H' → ArgsOk K (Nf M ρ σ) H' ss vs → Q vs H'
def tS1 (K : PySem.W.Frag) (M : Fb) (H0 : Hp) (f : VE → Option Sl) : TE := fun σ H Q => ∃ ρ s, Rel K M H0 ρ σ H ∧ f ρ = some s ∧ ∀ v H', Same H H' → ArgOk K (Nf M ρ σ) H' s v → Q v H'
@[simp] def rdA (ρ : VE) (i : Nat) : Option Sl := match ρ[i]? with
  | some (.val d) => some (.val d)
  | some (.own xs b) => some (.lent xs b)
  | some (.lent xs b) => some (.lent xs b)
  | _ => none
@[simp] def valO (o : Option D) : Option Sl := o.map Sl.val
@[simp] def consO {α : Type} (a : Option α) (b : Option (List α)) : Option (List α) := a.bind fun x => b.bind fun y => some (x :: y)
theorem consO_inv {α : Type} {a : Option α} {b : Option (List α)} {l : List α} (h : consO a b = some l) : ∃ x y, a = some x ∧ b = some y ∧ l = x :: y := by
  cases a with
  | none => cases h
  | some x =>
    cases b with
    | none => cases h
    | some y => cases h; exact ⟨x, y, rfl, rfl, rfl⟩
section
variable {X : Cx} {K : PySem.W.Frag} {M : Fb} {H0 : Hp} {e a b : Expr} {es : List Expr} {f g : VE → Option D} {fa : VE → Option (List Sl)} {f1 : VE → Option Sl} {pos : Pos}
theorem va_var {i : Nat} {x : Str} (hN : X.N[i]? = some x) (hv : Vis X.env.scope x) (hd : (x == ("__debug__" : Str)) = false := by decide) (hcd : (x == ("__classdict__" : Str)) = false := by decide) : PE X (.Name x pos) (tS1 K M H0 fun ρ => rdA ρ i) :=
  (pe_var hN hv hd hcd).mono fun σ H Q ⟨ρ, d, R, e, q⟩ => by
    try dsimp only at e q
    have fin : ∀ v, σ[i]?.join = some v → ArgOk K (Nf M ρ σ) H d v → ∃ v, σ[i]? = some (some v) ∧ Q v H := fun v e1 h => by
      refine ⟨v, ?_, q v H (Same.refl H) h⟩
      cases z : σ[i]? with
      | none => rw [z] at e1; cases e1
      | some o => rw [z] at e1; cases e1; rfl
    unfold rdA at e
    split at e
    · next h => cases e; obtain ⟨v, e1, h⟩ := R.slot i _ h; exact fin v e1 h
    · next h =>
      cases e
      obtain ⟨a, vs, e1, _, _, h3, h4⟩ := R.slot i _ h
      refine fin _ e1 ⟨a, vs, rfl, .inr ⟨i, _, _, h, ?_⟩, .inl h3, h4⟩
      cases z : σ[i]? with
      | none => rw [z] at e1; cases e1
      | some o => rw [z] at e1; cases e1; rfl
    · next h => cases e; obtain ⟨a, vs, e1, h2, h3, h4⟩ := R.slot i _ h; exact fin _ e1 ⟨a, vs, rfl, .inl h2, h3, h4⟩
    · cases e
theorem va_e (h : PE X e (tD K M H0 f)) : PE X e (tS1 K M H0 fun ρ => valO (f ρ)) := h.mono fun σ H Q ⟨ρ, s, R, e, q⟩ => by
  try dsimp only at e q
  cases hf : f ρ with
  | none => rw [hf] at e; cases e
  | some d => rw [hf] at e; cases e; exact ⟨ρ, d, R, hf, fun v H' s hv => q v H' s hv⟩
theorem j_va_e (h : JE X e (tD K M H0 f)) : JE X e (tS1 K M H0 fun ρ => valO (f ρ)) := ⟨va_e h.h⟩
theorem va_nil : PA X [] (tA' K M H0 fun _ => some []) := pa_nil.mono fun σ H Q ⟨ρ, ss, R, e, q⟩ => by
  try dsimp only at e q
  cases e; exact q [] H (Same.refl H) rfl
theorem j_va_nil  : JA X [] (tA' K M H0 fun _ => some []) := ⟨va_nil ⟩
theorem va_cons (h : PE X e (tS1 K M H0 f1)) (hr : PA X es (tA' K M H0 fa)) (hs : starEach (e :: es) X.env = (false, eval e X.env) :: starEach es X.env := by exact star_c (fun _ _ z => nomatch z)) : PA X (e :: es) (tA' K M H0 fun ρ => consO (f1 ρ) (fa ρ)) := (pa_cons h hr hs).mono fun σ H Q ⟨ρ, ss, R, e, q⟩ => by
  try dsimp only at e q
  obtain ⟨s, r, e1, e2, e3⟩ := consO_inv e
  subst e3
  exact ⟨ρ, s, R, e1, fun v H1 s1 h1 => ⟨ρ, r, R.st s1, e2, fun vs H2 s2 h2 => q (v :: vs) H2 (s1.trans s2) ⟨v, vs, rfl, h1.same s2, h2⟩⟩⟩
theorem j_va_cons (h : JE X e (tS1 K M H0 f1)) (hr : JA X es (tA' K M H0 fa)) (hs : starEach (e :: es) X.env = (false, eval e X.env) :: starEach es X.env := by exact star_c (fun _ _ z => nomatch z)) : JA X (e :: es) (tA' K M H0 fun ρ => consO (f1 ρ) (fa ρ)) := ⟨va_cons h.h hr.h hs⟩
@[simp] def vals : List Sl → Option (List D)
  | [] => some []
  | .val d :: r => consO (some d) (vals r)
  | _ => none
theorem vals_den {K : PySem.W.Frag} {N : Fb} {H : Hp} : ∀ {ss : List Sl} {vs : List V} {ds : List D}, ArgsOk K N H ss vs → vals ss = some ds → DenL K N H ds vs
  | [], _, _, h, e => by cases e; cases h; exact DenL.nil
  | .val d :: r, _, _, ⟨v, t, e1, h, ht⟩, e => by
    obtain ⟨x, y, e2, e3, e4⟩ := consO_inv e
    cases e2; subst e1 e4
    exact DenL.cons h (vals_den ht e3)
  | .no :: _, _, _, _, e => nomatch e
  | .own _ _ :: _, _, _, _, e => nomatch e
  | .lent _ _ :: _, _, _, _, e => nomatch e
@[simp] def shortO {α : Type} (o : Option (List α)) : Option (List α) := o.bind fun l => if l.length ≤ sizeLine then some l else none
theorem shortO_inv {α : Type} {o : Option (List α)} {l : List α} (h : shortO o = some l) : o = some l ∧ l.length ≤ sizeLine := by
  cases o with
  | none => cases h
  | some x =>
    have h' : (if x.length ≤ sizeLine then some x else none) = some l := h
    split at h'
    · cases h'; exact ⟨rfl, by assumption⟩
    · cases h'
theorem same_new {H : Hp} {p : Addr} {o : HO} (h : H p = none) : Same H (upd H p o) := fun b u e => by rw [upd_ne (ne_of_none e h)]; exact e
theorem tF_new {fl : Bool} {ρ : VE} {σ : St} {H H1 : Hp} {Q : VK} {xs : List D} {vs : List V} {p : Addr} (s : Same H H1) (hp : H1 p = none) (h : DenL K (Nf M ρ σ) H1 xs vs)
    (q : ∀ a vs H', Same H H' → H a = none → H' a = some (CO fl xs vs) → DenL K (fun b => Nf M ρ σ b ∨ b = a) H' xs vs → Q (.ref a) H') : Q (.ref p) (upd H1 p (CO fl xs vs)) := by
  refine q p vs _ (s.trans (same_new hp)) (s.free hp) upd_same ?_
  refine (h.nw fun b hb => ?_).same (same_new hp)
  rcases hb with hb | hb
  · exact .inl hb
  · subst hb; exact .inr hp
theorem vf_lst (h : PA X es (tA' K M H0 fa)) : PE X (.List es pos) (tF K M H0 fun ρ => shortO ((fa ρ).bind vals)) := (pe_lst h).mono fun σ H Q ⟨ρ, xs, R, e, q⟩ => by
  try dsimp only at e q
  obtain ⟨e, hz⟩ := shortO_inv e
  cases hf : fa ρ with
  | none => rw [hf] at e; cases e
  | some ss =>
    rw [hf] at e
    refine ⟨ρ, ss, R, hf, fun vs H1 s1 h1 => ?_⟩
    have hd := vals_den h1 e
    exact ⟨by rw [← hd.length]; exact hz, fun p hp => tF_new s1 hp hd q⟩
theorem j_vf_lst (h : JA X es (tA' K M H0 fa)) : JE X (.List es pos) (tF K M H0 fun ρ => shortO ((fa ρ).bind vals)) := ⟨vf_lst h.h⟩
theorem ve_tup {x1} (h : PA X es (tA' K M H0 fa)) : PE X (.Tuple es x1 pos) (tD K M H0 fun ρ => (shortO ((fa ρ).bind vals)).map D.tup) := (pe_tup h).mono fun σ H Q ⟨ρ, d, R, e, q⟩ => by
  try dsimp only at e q
  cases hz : shortO ((fa ρ).bind vals) with
  | none => rw [hz] at e; cases e
  | some xs =>
    rw [hz] at e; cases e
    obtain ⟨e, hz⟩ := shortO_inv hz
    cases hf : fa ρ with
    | none => rw [hf] at e; cases e
    | some ss =>
      rw [hf] at e
      refine ⟨ρ, ss, R, hf, fun vs H1 s1 h1 => ?_⟩
      have hd := vals_den h1 e
      refine ⟨by rw [← hd.length]; exact hz, fun p hp => q _ _ (s1.trans (same_new hp)) ?_⟩
      simp only [Den]
      exact ⟨p, vs, rfl, SqT.of upd_same, hd.same (same_new hp)⟩
theorem j_ve_tup {x1} (h : JA X es (tA' K M H0 fa)) : JE X (.Tuple es x1 pos) (tD K M H0 fun ρ => (shortO ((fa ρ).bind vals)).map D.tup) := ⟨ve_tup h.h⟩
end
inductive Rv where
  | val (d : D) | own (xs : List D) (b : Bool := false)
def RvOk (K : PySem.W.Frag) (N : Fb) (H0 H' : Hp) : Rv → V → Prop
  | .val d, v => Den K N H' d v
  | .own xs b, v => ∃ a vs, v = .ref a ∧ H0 a = none ∧ H' a = some (CO b xs vs) ∧ DenL K (fun b => N b ∨ b = a) H' xs vs
def spD (K : PySem.W.Frag) (F : List Sl → Option Rv) : Sp := fun vs H Q _ => ∃ N ss r, (∀ a, N a → H a ≠ none) ∧ ArgsOk K N H ss vs ∧ F ss = some r ∧ ∀ v H', Same H H' → RvOk K N H H' r v → Q v H'
@[simp] def rvD : Rv → D
  | .val d => d
  | .own xs b => .lst xs b
@[simp] def rvF : Rv → Option (List D)
  | .own xs => some xs
  | _ => none
@[simp] def rvG : Rv → Option (List D)
  | .own xs true => some xs
  | _ => none
section
variable {X : Cx} {K : PySem.W.Frag} {M : Fb} {H0 : Hp} {e : Expr} {es : List Expr} {fa : VE → Option (List Sl)} {F : List Sl → Option Rv} {CX : CXT} {k : Nat} {fn : Addr} {fd : FuncData} {ps : List Str} {x : Str} {p pos : Pos} {E : XK}
@[simp] def callO (F : List Sl → Option Rv) (fa : VE → Option (List Sl)) : VE → Option D := fun ρ => (fa ρ).bind fun ss => (F ss).map rvD
@[simp] def callF (F : List Sl → Option Rv) (fa : VE → Option (List Sl)) : VE → Option (List D) := fun ρ => (fa ρ).bind fun ss => (F ss).bind rvF
theorem tCall_D {σ : St} {H : Hp} {Q : VK} (h : tD K M H0 (callO F fa) σ H Q) : tCall (spD K F) [] E (tA' K M H0 fa) σ H Q := by
  obtain ⟨ρ, d, R, e, q⟩ := h
  try dsimp only at e q
  unfold callO at e
  cases hf : fa ρ with
  | none => rw [hf] at e; cases e
  | some ss =>
    rw [hf] at e
    cases hF : F ss with
    | none => simp only [Option.bind, hF] at e; cases e
    | some r =>
      simp only [Option.bind, hF] at e; cases e
      refine ⟨ρ, ss, R, hf, fun vs H1 s1 h1 => ⟨Nf M ρ σ, ss, r, (R.st s1).nh, by rw [List.append_nil]; exact h1, hF, fun v H2 s2 h2 => q v H2 (s1.trans s2) ?_⟩⟩
      cases r with
      | val d => exact h2
      | own xs fl =>
        obtain ⟨a, ws, e1, z1, z2, z3⟩ := h2
        simp only [rvD, Den]
        exact ⟨a, ws, e1, .of (fun z => (R.st s1).fresh z1 z) z2, z3.nw fun b hb => .inl (.inl hb)⟩
@[simp] def callG (F : List Sl → Option Rv) (fa : VE → Option (List Sl)) : VE → Option (List D) := fun ρ => (fa ρ).bind fun ss => (F ss).bind rvG
theorem ve_call (G : FnOk X.prog X.w X.K X.mg X.base CX k fn fd ps (spD K F)) (hr : Room k X.A) (hg : Gl X x) (hm : X.mg x = some (.ref fn)) (hk : PySem.W.keepIn X.K (.ref fn) = true) (hb : Binds X.K fd ps []) (hx : Passes CX X E)
    (ha : PA X (e :: es) (tA' K M H0 fa)) (hdb : (x == ("__debug__" : Str)) = false := by decide) (he : starEach (e :: es) X.env = (false, eval e X.env) :: starEach es X.env := by exact star_c (fun _ _ z => nomatch z)) (hpl : (backTo pos (starEach es X.env)).any (·.1) = false := by rfl) :
    PE X (.Call (.Name x p) (e :: es) [] pos) (tD K M H0 (callO F fa)) := (pe_call G hr hg hm hk hb .nil hx ha hdb he hpl).mono fun _ _ _ h => tCall_D h
theorem j_ve_call (G : FnOk X.prog X.w X.K X.mg X.base CX k fn fd ps (spD K F)) (hr : Room k X.A) (hg : Gl X x) (hm : X.mg x = some (.ref fn)) (hk : PySem.W.keepIn X.K (.ref fn) = true) (hb : Binds X.K fd ps []) (hx : Passes CX X E) (ha : JA X (e :: es) (tA' K M H0 fa)) (hdb : (x == ("__debug__" : Str)) = false := by decide) (he : starEach (e :: es) X.env = (false, eval e X.env) :: starEach es X.env := by exact star_c (fun _ _ z => nomatch z)) (hpl : (backTo pos (starEach es X.env)).any (·.1) = false := by rfl) : JE X (.Call (.Name x p) (e :: es) [] pos) (tD K M H0 (callO F fa)) := ⟨ve_call G hr hg hm hk hb hx ha.h hdb he hpl⟩
end
def RcD (K : PySem.W.Frag) (r : List V → Hp → VK → Prop) (F : List D → Option D) : Prop := ∀ (N : Fb) (H : Hp) (vs : List V) (ds : List D) (d : D) (Q : VK), (∀ a, N a → H a ≠ none) → Paired (DenP K N H) ds vs → F ds = some d →
  (∀ v H', Same H H' → Den K N H' d v → Q v H') → r vs H Q
@[simp] def pks : List Sl → Option (List D)
  | [] => some []
  | s :: r => consO (pk s) (pks r)
theorem pks_den {K : PySem.W.Frag} {N : Fb} {H : Hp} : ∀ {ss : List Sl} {vs : List V} {ds : List D}, ArgsOk K N H ss vs → pks ss = some ds → Paired (DenP K N H) ds vs
  | [], _, _, h, e => by cases e; cases h; exact .nil
  | s :: r, _, _, ⟨v, t, e1, h, ht⟩, e => by
    obtain ⟨x, y, e2, e3, e4⟩ := consO_inv e
    subst e1 e4
    obtain ⟨d, hd, hp⟩ := h.p
    rw [hd] at e2; cases e2
    exact .cons hp (pks_den ht e3)
section
variable {X : Cx} {K : PySem.W.Frag} {M : Fb} {H0 : Hp} {e : Expr} {es : List Expr} {fa : VE → Option (List Sl)} {x : Str} {p pos : Pos} {r : List V → Hp → VK → Prop} {F : List D → Option D} {G : List D → Option (List D)} {id : String}
@[simp] def bltO (F : List D → Option D) (fa : VE → Option (List Sl)) : VE → Option D := fun ρ => ((fa ρ).bind pks).bind F
@[simp] def bltF (F : List D → Option (List D)) (fa : VE → Option (List Sl)) : VE → Option (List D) := fun ρ => ((fa ρ).bind pks).bind F
theorem tCB_D (hr : RcD K r F) {σ : St} {H : Hp} {Q : VK} (h : tD K M H0 (bltO F fa) σ H Q) : tCB r (tA' K M H0 fa) σ H Q := by
  obtain ⟨ρ, d, R, e, q⟩ := h
  try dsimp only at e q
  unfold bltO at e
  cases hf : fa ρ with
  | none => rw [hf] at e; cases e
  | some ss =>
    rw [hf] at e
    cases hp : pks ss with
    | none => simp only [Option.bind, hp] at e; cases e
    | some ds =>
      simp only [Option.bind, hp] at e
      exact ⟨ρ, ss, R, hf, fun vs H1 s1 h1 => hr (Nf M ρ σ) H1 vs ds d Q (R.st s1).nh (pks_den h1 hp) e fun v H' s hv => q v H' (s1.trans s) hv⟩
theorem ve_callB (hc : CallR X (.builtin id) r) (hF : RcD K r F) (hg : Gl X x) (hm : X.mg x = none) (hv : bootBuiltins x = some (.builtin id)) (ha : PA X (e :: es) (tA' K M H0 fa)) (hn : x ≠ "__name__" := by decide) (hdb : (x == ("__debug__" : Str)) = false := by decide)
    (he : starEach (e :: es) X.env = (false, eval e X.env) :: starEach es X.env := by exact star_c (fun _ _ z => nomatch z)) (hpl : (backTo pos (starEach es X.env)).any (·.1) = false := by rfl) : PE X (.Call (.Name x p) (e :: es) [] pos) (tD K M H0 (bltO F fa)) :=
  (pe_callB hc hg hm hv ha hn hdb he hpl).mono fun _ _ _ h => tCB_D hF h
theorem j_ve_callB (hc : CallR X (.builtin id) r) (hF : RcD K r F) (hg : Gl X x) (hm : X.mg x = none) (hv : bootBuiltins x = some (.builtin id)) (ha : JA X (e :: es) (tA' K M H0 fa)) (hn : x ≠ "__name__" := by decide) (hdb : (x == ("__debug__" : Str)) = false := by decide) (he : starEach (e :: es) X.env = (false, eval e X.env) :: starEach es X.env := by exact star_c (fun _ _ z => nomatch z)) (hpl : (backTo pos (starEach es X.env)).any (·.1) = false := by rfl) : JE X (.Call (.Name x p) (e :: es) [] pos) (tD K M H0 (bltO F fa)) := ⟨ve_callB hc hF hg hm hv ha.h hn hdb he hpl⟩
theorem ve_callTy (hc : CallR X (.type id) r) (hF : RcD K r F) (hg : Gl X x) (hm : X.mg x = none) (hv : bootBuiltins x = some (.type id)) (ha : PA X (e :: es) (tA' K M H0 fa)) (hn : x ≠ "__name__" := by decide) (hdb : (x == ("__debug__" : Str)) = false := by decide)
    (he : starEach (e :: es) X.env = (false, eval e X.env) :: starEach es X.env := by exact star_c (fun _ _ z => nomatch z)) (hpl : (backTo pos (starEach es X.env)).any (·.1) = false := by rfl) : PE X (.Call (.Name x p) (e :: es) [] pos) (tD K M H0 (bltO F fa)) :=
  (pe_callTy hc hg hm hv ha hn hdb he hpl).mono fun _ _ _ h => tCB_D hF h
theorem j_ve_callTy (hc : CallR X (.type id) r) (hF : RcD K r F) (hg : Gl X x) (hm : X.mg x = none) (hv : bootBuiltins x = some (.type id)) (ha : JA X (e :: es) (tA' K M H0 fa)) (hn : x ≠ "__name__" := by decide) (hdb : (x == ("__debug__" : Str)) = false := by decide) (he : starEach (e :: es) X.env = (false, eval e X.env) :: starEach es X.env := by exact star_c (fun _ _ z => nomatch z)) (hpl : (backTo pos (starEach es X.env)).any (·.1) = false := by rfl) : JE X (.Call (.Name x p) (e :: es) [] pos) (tD K M H0 (bltO F fa)) := ⟨ve_callTy hc hF hg hm hv ha.h hn hdb he hpl⟩
theorem RcD.or {r r' : List V → Hp → VK → Prop} {F F' : List D → Option D} (h : RcD K r F) (h' : RcD K r' F') : RcD K (fun xs H Q => r xs H Q ∨ r' xs H Q) (fun ds => orO (F ds) (F' ds)) := by
  intro N H vs ds d Q nh h1 e q
  cases hF : F ds with
  | some z => simp only [hF, orO] at e; cases e; exact .inl (h N H vs ds d Q nh h1 hF q)
  | none => simp only [hF, orO] at e; exact .inr (h' N H vs ds d Q nh h1 e q)
end
inductive Res where
  | fail | next (ρ : VE) | brk (ρ : VE) | cont (ρ : VE) | ret (r : Rv)
def Beh (K : PySem.W.Frag) (M : Fb) (H0 : Hp) (ρ : VE) (σ : St) (H : Hp) (ρ' : VE) (Q : St → Hp → Prop) : Prop := ∀ σ' H', Rel K M H0 ρ' σ' H' → Step M (Nf M ρ σ) (Nf M ρ' σ') H H' → Q σ' H'
def resOk (K : PySem.W.Frag) (M : Fb) (H0 : Hp) (ρ : VE) (σ : St) (H : Hp) (D : Ends) : Res → Prop
  | .fail => False
  | .next ρ' => Beh K M H0 ρ σ H ρ' D.nx
  | .brk ρ' => Beh K M H0 ρ σ H ρ' D.bk
  | .cont ρ' => Beh K M H0 ρ σ H ρ' D.ct
  | .ret r => ∀ v H', Same H0 H' → RvOk K M H0 H' r v → D.rt v H'
def tS (K : PySem.W.Frag) (M : Fb) (H0 : Hp) (g : VE → Res) : TS := fun D σ H => ∃ ρ, Rel K M H0 ρ σ H ∧ resOk K M H0 ρ σ H D (g ρ)
@[simp] def seqR (a : Res) (g : VE → Res) : Res := match a with
  | .next ρ => g ρ
  | r => r
theorem Beh.from {K : PySem.W.Frag} {M : Fb} {H0 : Hp} {ρ ρ1 ρ' : VE} {σ σ1 : St} {H H1 : Hp} {Q : St → Hp → Prop} (s : Step M (Nf M ρ σ) (Nf M ρ1 σ1) H H1) (h : Beh K M H0 ρ σ H ρ' Q) : Beh K M H0 ρ1 σ1 H1 ρ' Q :=
  fun σ' H' R s' => h σ' H' R (s.trans s')
theorem resOk.from {K : PySem.W.Frag} {M : Fb} {H0 : Hp} {ρ ρ1 : VE} {σ σ1 : St} {H H1 : Hp} {D : Ends} {r : Res} (s : Step M (Nf M ρ σ) (Nf M ρ1 σ1) H H1) (h : resOk K M H0 ρ σ H D r) : resOk K M H0 ρ1 σ1 H1 D r := by
  cases r with
  | fail => exact h
  | next ρ' => exact Beh.from s h
  | brk ρ' => exact Beh.from s h
  | cont ρ' => exact Beh.from s h
  | ret r => exact h
section
variable {X : Cx} {K : PySem.W.Frag} {M : Fb} {H0 : Hp} {st : Stmt} {rest : List Stmt} {g g1 g2 : VE → Res} {pos : Pos} {e : Expr} {f : VE → Option D}
theorem vs_nil : PSs X [] (tS K M H0 fun ρ => .next ρ) := pss_nil.mono fun D σ H ⟨ρ, R, q⟩ => q σ H R Step.refl
theorem j_vs_nil  : JB X [] (tS K M H0 fun ρ => .next ρ) := ⟨vs_nil ⟩
theorem vs_cons (h1 : PS X st (tS K M H0 g1)) (h2 : PSs X rest (tS K M H0 g2)) : PSs X (st :: rest) (tS K M H0 fun ρ => seqR (g1 ρ) g2) := (pss_cons h1 h2).mono fun D σ H ⟨ρ, R, q⟩ => by
  try dsimp only at q
  refine ⟨ρ, R, ?_⟩
  cases hg : g1 ρ with
  | fail => rw [hg] at q; exact q
  | next ρ1 => rw [hg] at q; exact fun σ1 H1 R1 s1 => ⟨ρ1, R1, q.from s1⟩
  | brk ρ1 => rw [hg] at q; exact q
  | cont ρ1 => rw [hg] at q; exact q
  | ret r => rw [hg] at q; exact q
theorem j_vs_cons (h1 : JS X st (tS K M H0 g1)) (h2 : JB X rest (tS K M H0 g2)) : JB X (st :: rest) (tS K M H0 fun ρ => seqR (g1 ρ) g2) := ⟨vs_cons h1.h h2.h⟩
@[simp] def retO (o : Option D) : Res := match o with
  | some d => .ret (.val d)
  | none => .fail
theorem vs_ret (h : PE X e (tD K M H0 f)) : PS X (.Return (some e) pos) (tS K M H0 fun ρ => retO (f ρ)) := (ps_ret h).mono fun D σ H ⟨ρ, R, q⟩ => by
  try dsimp only at q
  cases hf : f ρ with
  | none => rw [hf] at q; exact False.elim q
  | some d =>
    rw [hf] at q
    exact ⟨ρ, d, R, hf, fun v H' s hv => q v H' (R.same.trans s) (hv.nw fun a ha => .inl (.inl ha))⟩
theorem j_vs_ret (h : JE X e (tD K M H0 f)) : JS X (.Return (some e) pos) (tS K M H0 fun ρ => retO (f ρ)) := ⟨vs_ret h.h⟩
@[simp] def retF (o : Option (List D)) : Res := match o with
  | some xs => .ret (.own xs)
  | none => .fail
@[simp] def retG (o : Option (List D)) : Res := match o with
  | some xs => .ret (.own xs true)
  | none => .fail
@[simp] def rdO (ρ : VE) (i : Nat) : Option (List D) := match ρ[i]? with
  | some (.own xs) => some xs
  | _ => none
theorem rdO_slot {ρ : VE} {i : Nat} {xs : List D} (h : rdO ρ i = some xs) : ρ[i]? = some (.own xs) := by
  unfold rdO at h
  split at h
  · cases h; assumption
  · cases h
@[simp] def rdG (ρ : VE) (i : Nat) : Option (List D) := match ρ[i]? with
  | some (.own xs true) => some xs
  | _ => none
theorem join_some {σ : St} {i : Nat} {v : V} (e1 : σ[i]?.join = some v) : σ[i]? = some (some v) := by
  cases z : σ[i]? with
  | none => rw [z] at e1; cases e1
  | some o => rw [z] at e1; cases e1; rfl
@[simp] def iteR (c : Option Bool) (a b : Res) : Res := match c with
  | some true => a
  | some false => b
  | none => .fail
theorem vs_if {c : Expr} {a b : List Stmt} {t : VE → Option Bool} (hc : PT X c (tB' K M H0 t)) (ha : PSs X a (tS K M H0 g1)) (hb : PSs X b (tS K M H0 g2)) : PS X (.If c a b pos) (tS K M H0 fun ρ => iteR (t ρ) (g1 ρ) (g2 ρ)) := (ps_if hc ha hb).mono fun D σ H ⟨ρ, R, q⟩ => by
  try dsimp only at q
  cases ht : t ρ with
  | none => rw [ht] at q; exact False.elim q
  | some k =>
    rw [ht] at q
    refine ⟨ρ, k, R, ht, fun H1 s => ?_⟩
    cases k with
    | true => refine ite_t ?_; exact ⟨ρ, R.st s, resOk.from (Step.of_same s) q⟩
    | false => refine ite_f ?_; exact ⟨ρ, R.st s, resOk.from (Step.of_same s) q⟩
theorem j_vs_if {c : Expr} {a b : List Stmt} {t : VE → Option Bool} (hc : JT X c (tB' K M H0 t)) (ha : JB X a (tS K M H0 g1)) (hb : JB X b (tS K M H0 g2)) : JS X (.If c a b pos) (tS K M H0 fun ρ => iteR (t ρ) (g1 ρ) (g2 ρ)) := ⟨vs_if hc.h ha.h hb.h⟩
theorem set_get {α : Type} {l : List α} {i : Nat} {x y : α} (h : (l.set i x)[i]? = some y) : i < l.length ∧ x = y := by
  by_cases hi : i < l.length
  · rw [List.getElem?_set_self hi] at h; exact ⟨hi, Option.some.inj h⟩
  · rw [List.getElem?_eq_none (by simpa using Nat.le_of_not_lt hi)] at h; cases h
theorem nf_set {M : Fb} {ρ : VE} {σ : St} {i : Nat} {s : Sl} {v : V} {b : Addr} (hl : ρ.length = σ.length) (h : Nf M (ρ.set i s) (σ.set i (some v)) b) : Nf M ρ σ b ∨ ∃ xs fl, s = .own xs fl ∧ v = .ref b := by
  rcases h with h | ⟨j, xs, fl, h1, h2⟩
  · exact .inl (.inl h)
  · by_cases e : i = j
    · subst e
      have q1 := (set_get h1).2
      have q2 := (set_get h2).2
      cases q1; cases q2; exact .inr ⟨xs, fl, rfl, rfl⟩
    · rw [List.getElem?_set_ne e] at h1 h2
      exact .inl (.inr ⟨j, xs, fl, h1, h2⟩)
theorem Rel.put {ρ : VE} {σ : St} {H H' : Hp} {i : Nat} {s : Sl} {v : V} (R : Rel K M H0 ρ σ H) (S : Step M (Nf M ρ σ) (Nf M (ρ.set i s) (σ.set i (some v))) H H') (sm : Same H0 H')
    (ow : ∀ j a vs xs fl, j ≠ i → ρ[j]? = some (.own xs fl) → σ[j]? = some (some (.ref a)) → H a = some (CO fl xs vs) → H' a = some (CO fl xs vs))
    (hs : i < ρ.length → SlOk K M (Nf M (ρ.set i s) (σ.set i (some v))) H0 H' s (some v))
    (hinj : ∀ xs fl a j ys fl', s = .own xs fl → v = .ref a → j ≠ i → ρ[j]? = some (.own ys fl') → σ[j]? ≠ some (some (.ref a))) : Rel K M H0 (ρ.set i s) (σ.set i (some v)) H' where
  len := by rw [List.length_set, List.length_set]; exact R.len
  same := sm
  mh := fun a h z => by
    cases e : H a with
    | none => exact R.mh a h e
    | some o => rw [S.kp a o e (.inr (.inl h))] at z; cases z
  slot := fun j sl e => by
    by_cases eij : i = j
    · subst eij
      obtain ⟨hi, e⟩ := set_get e
      subst e
      rw [List.getElem?_set_self (by rw [← R.len]; exact hi)]
      exact hs hi
    · rw [List.getElem?_set_ne eij] at e ⊢
      have q := R.slot j sl e
      cases sl with
      | no => trivial
      | val d => obtain ⟨u, e1, h⟩ := q; exact ⟨u, e1, Den.step S d u h⟩
      | own xs fl => obtain ⟨a, vs, e1, h1, h2, h3, h4⟩ := q; exact ⟨a, vs, e1, h1, h2, ow j a vs xs fl (Ne.symm eij) e (join_some e1) h3, DenL.step S xs vs h4⟩
      | lent xs fl => obtain ⟨a, vs, e1, h1, h2, h3⟩ := q; exact ⟨a, vs, e1, h1, h2.step S (.inr (.inl h1)), DenL.step S xs vs h3⟩
  inj := fun j k xs ys fl fl' a h1 h2 h3 h4 => by
    by_cases ej : i = j
    · by_cases ek : i = k
      · rw [← ej, ek]
      · subst ej
        rw [List.getElem?_set_ne ek] at h2 h4
        have q1 := (set_get h1).2
        have q3 := (set_get h3).2
        cases q1; cases q3; exact absurd h4 (hinj xs fl a k ys fl' rfl rfl (Ne.symm ek) h2)
    · rw [List.getElem?_set_ne ej] at h1 h3
      by_cases ek : i = k
      · subst ek
        have q2 := (set_get h2).2
        have q4 := (set_get h4).2
        cases q2; cases q4; exact absurd h3 (hinj ys fl' a j xs fl rfl rfl (Ne.symm ej) h1)
      · rw [List.getElem?_set_ne ek] at h2 h4
        exact R.inj j k xs ys fl fl' a h1 h2 h3 h4
theorem Rel.setV {ρ : VE} {σ : St} {H H' : Hp} {i : Nat} {d : D} {v : V} (R : Rel K M H0 ρ σ H) (s : Same H H') (h : Den K (Nf M ρ σ) H' d v) :
    Rel K M H0 (ρ.set i (.val d)) (σ.set i (some v)) H' ∧ Step M (Nf M ρ σ) (Nf M (ρ.set i (.val d)) (σ.set i (some v))) H H' := by
  have S : Step M (Nf M ρ σ) (Nf M (ρ.set i (.val d)) (σ.set i (some v))) H H' := ⟨fun a o e _ => s a o e, fun b hb => by
    rcases nf_set R.len hb with q | ⟨xs, _, e, _⟩
    · exact .inl q
    · cases e⟩
  refine ⟨R.put S (R.same.trans s) (fun j a vs xs fl _ _ _ e => s _ _ e) (fun _ => ⟨v, rfl, h.nw fun b hb => ?_⟩) (fun xs fl a j ys fl' e => nomatch e), S⟩
  rcases nf_set R.len hb with q | ⟨xs, _, e, _⟩
  · exact .inl q
  · cases e
theorem Rel.setO {fl : Bool} {ρ : VE} {σ : St} {H H' : Hp} {i : Nat} {xs : List D} {a : Addr} {vs : List V} (R : Rel K M H0 ρ σ H) (s : Same H H') (hn : H a = none) (ha : H' a = some (CO fl xs vs)) (h : DenL K (fun b => Nf M ρ σ b ∨ b = a) H' xs vs) :
    Rel K M H0 (ρ.set i (.own xs fl)) (σ.set i (some (.ref a))) H' ∧ Step M (Nf M ρ σ) (Nf M (ρ.set i (.own xs fl)) (σ.set i (some (.ref a)))) H H' := by
  have nf : ∀ b, Nf M (ρ.set i (.own xs fl)) (σ.set i (some (.ref a))) b → Nf M ρ σ b ∨ b = a := fun b hb => by
    rcases nf_set R.len hb with q | ⟨xs, fl, e, e'⟩
    · exact .inl q
    · cases e'; exact .inr rfl
  have S : Step M (Nf M ρ σ) (Nf M (ρ.set i (.own xs fl)) (σ.set i (some (.ref a)))) H H' := ⟨fun a o e _ => s a o e, fun b hb => by
    rcases nf b hb with q | q
    · exact .inl q
    · subst q; exact .inr hn⟩
  refine ⟨R.put S (R.same.trans s) (fun j a vs xs fl _ _ _ e => s _ _ e) (fun _ => ⟨a, vs, rfl, R.same.free hn, fun hm => R.fresh hn (.inl hm), ha, h.nw fun b hb => .inl (nf b hb)⟩) (fun xs' fl' a' j ys fl2 e e' hj h1 h2 => ?_), S⟩
  cases e'
  exact R.fresh hn (.inr ⟨j, ys, fl2, h1, h2⟩)
theorem Rel.chg {fl fl2 : Bool} {ρ : VE} {σ : St} {H : Hp} {i : Nat} {xs ys : List D} {a : Addr} {ws : List V} (R : Rel K M H0 ρ σ H) (hi : ρ[i]? = some (.own xs fl)) (ha : σ[i]? = some (some (.ref a))) (h : DenL K (Nf M ρ σ) H ys ws) :
    Rel K M H0 (ρ.set i (.own ys fl2)) σ (upd H a (CO fl2 ys ws)) ∧ Step M (Nf M ρ σ) (Nf M (ρ.set i (.own ys fl2)) σ) H (upd H a (CO fl2 ys ws)) := by
  obtain ⟨a', vs, e1, z1, z2, z3, z4⟩ := R.slot i _ hi
  rw [ha] at e1
  have ea : a = a' := by simpa using e1
  subst ea
  have hσ : σ.set i (some (.ref a)) = σ := by
    apply List.ext_getElem?
    intro j
    by_cases e : i = j
    · subst e
      rw [List.getElem?_set_self (List.getElem?_eq_some_iff.mp ha).1, ha]
    · rw [List.getElem?_set_ne e]
  have na : Nf M ρ σ a := .inr ⟨i, xs, fl, hi, ha⟩
  have nf : ∀ b, Nf M (ρ.set i (.own ys fl2)) (σ.set i (some (.ref a))) b → Nf M ρ σ b := fun b hb => by
    rcases nf_set R.len hb with q | ⟨xs, _, e, e'⟩
    · exact q
    · cases e'; exact na
  have S : Step M (Nf M ρ σ) (Nf M (ρ.set i (.own ys fl2)) (σ.set i (some (.ref a)))) H (upd H a (CO fl2 ys ws)) := ⟨fun b o e z => by
      have ne : b ≠ a := by
        rintro rfl
        rcases z with z | z | z
        · exact z na
        · exact z2 z
        · rw [z3] at e; cases e; rw [isL_CO] at z; cases z
      rw [upd_ne ne]; exact e, fun b hb => .inl (nf b hb)⟩
  have key : Rel K M H0 (ρ.set i (.own ys fl2)) (σ.set i (some (.ref a))) (upd H a (CO fl2 ys ws)) := by
    refine R.put S (fun b o e => ?_) (fun j b us xs' fl' hj h1 h2 h3 => ?_) (fun _ => ⟨a, ws, rfl, z1, z2, upd_same, DenL.step S ys ws h⟩) (fun xs' fl3 b j ys' fl' e e' hj h1 h2 => ?_)
    · have ne : b ≠ a := by
        rintro rfl
        rw [z1] at e; cases e
      rw [upd_ne ne]; exact R.same b o e
    · have ne : b ≠ a := by
        rintro rfl
        exact hj (R.inj j i xs' xs fl' fl b h1 hi h2 ha)
      rw [upd_ne ne]; exact h3
    · cases e'
      exact hj (R.inj j i ys' xs fl' fl _ h1 hi h2 ha)
  rw [hσ] at key S
  exact ⟨key, S⟩
theorem Rel.frz {fl : Bool} {ρ : VE} {σ : St} {H : Hp} {i : Nat} {xs : List D} (R : Rel K M H0 ρ σ H) (hi : ρ[i]? = some (.own xs fl)) :
    Rel K M H0 (ρ.set i (.val (.lst xs fl))) σ H ∧ Step M (Nf M ρ σ) (Nf M (ρ.set i (.val (.lst xs fl))) σ) H H := by
  obtain ⟨a, vs, e1, z1, z2, z3, z4⟩ := R.slot i _ hi
  have ha := join_some e1
  have hσ : σ.set i (some (.ref a)) = σ := by
    apply List.ext_getElem?
    intro j
    by_cases e : i = j
    · subst e
      rw [List.getElem?_set_self (List.getElem?_eq_some_iff.mp ha).1, ha]
    · rw [List.getElem?_set_ne e]
  have nf : ∀ b, Nf M (ρ.set i (.val (.lst xs fl))) (σ.set i (some (.ref a))) b → Nf M ρ σ b := fun b hb => by
    rcases nf_set R.len hb with q | ⟨xs, _, e, e'⟩
    · exact q
    · cases e
  have nna : ¬ Nf M (ρ.set i (.val (.lst xs fl))) (σ.set i (some (.ref a))) a := by
    rintro (h | ⟨j, ys, fl', h1, h2⟩)
    · exact z2 h
    · by_cases e : i = j
      · subst e
        have q1 := (set_get h1).2
        cases q1
      · rw [List.getElem?_set_ne e] at h1 h2
        exact e (R.inj i j xs ys _ _ a hi h1 ha h2)
  have S : Step M (Nf M ρ σ) (Nf M (ρ.set i (.val (.lst xs fl))) (σ.set i (some (.ref a)))) H H := ⟨fun _ _ e _ => e, fun b hb => .inl (nf b hb)⟩
  have key : Rel K M H0 (ρ.set i (.val (.lst xs fl))) (σ.set i (some (.ref a))) H := by
    refine R.put S R.same (fun _ _ _ _ _ _ _ _ h => h) (fun _ => ⟨.ref a, rfl, ?_⟩) (fun xs' _ b j ys' _ e => nomatch e)
    simp only [Den]
    exact ⟨a, vs, rfl, .of nna z3, DenL.step S xs vs z4⟩
  rw [hσ] at key S
  exact ⟨key, S⟩
@[simp] def setR (i : Nat) (o : Option D) (ρ : VE) : Res := match o with
  | some d => .next (ρ.set i (.val d))
  | none => .fail
@[simp] def setRF (i : Nat) (o : Option (List D)) (ρ : VE) : Res := match o with
  | some xs => .next (ρ.set i (.own xs))
  | none => .fail
@[simp] def setRG (i : Nat) (o : Option (List D)) (ρ : VE) : Res := match o with
  | some xs => .next (ρ.set i (.own xs true))
  | none => .fail
theorem tAsg_D {i : Nat} {D' : Ends} {σ : St} {H : Hp} (h : tS K M H0 (fun ρ => setR i (f ρ) ρ) D' σ H) : tAsg (tD K M H0 f) (gName i) D' σ H := by
  obtain ⟨ρ, R, q⟩ := h
  try dsimp only at q
  cases hf : f ρ with
  | none => simp only [hf, setR] at q; exact False.elim q
  | some d =>
    simp only [hf, setR] at q
    refine ⟨ρ, d, R, hf, fun v H1 s hv => ?_⟩
    obtain ⟨R1, S1⟩ := R.setV (i := i) s hv
    exact q _ _ R1 S1
theorem tAsg_F {f : VE → Option (List D)} {i : Nat} {D' : Ends} {σ : St} {H : Hp} (h : tS K M H0 (fun ρ => setRF i (f ρ) ρ) D' σ H) : tAsg (tF K M H0 f) (gName i) D' σ H := by
  obtain ⟨ρ, R, q⟩ := h
  try dsimp only at q
  cases hf : f ρ with
  | none => simp only [hf, setRF] at q; exact False.elim q
  | some d =>
    simp only [hf, setRF] at q
    refine ⟨ρ, d, R, hf, fun a vs H1 s z1 z2 z3 => ?_⟩
    obtain ⟨R1, S1⟩ := R.setO (i := i) s z1 z2 z3
    exact q _ _ R1 S1
theorem vs_set {i : Nat} {x : Str} {pos' : Pos} (hN : X.N.Nodup) (hi : X.N[i]? = some x) (hx : Loc X.env.scope x) (he : PE X e (tD K M H0 f)) (hs : swapsWith e (some (.Name x pos')) pos.line X.env = pure false := by rfl) (hf : X.fn x = true ∨ X.env.scope.names.lookup x = some .local := by first | exact .inl rfl | exact .inr rfl | assumption) :
    PS X (.Assign [.Name x pos'] e pos) (tS K M H0 fun ρ => setR i (f ρ) ρ) := (ps_set hN hi hx he hs hf).mono fun _ _ _ q => tAsg_D q
theorem j_vs_set {i : Nat} {x : Str} {pos' : Pos} (hN : X.N.Nodup) (hi : X.N[i]? = some x) (hx : Loc X.env.scope x) (he : JE X e (tD K M H0 f)) (hs : swapsWith e (some (.Name x pos')) pos.line X.env = pure false := by rfl) (hf : X.fn x = true ∨ X.env.scope.names.lookup x = some .local := by first | exact .inl rfl | exact .inr rfl | assumption) : JS X (.Assign [.Name x pos'] e pos) (tS K M H0 fun ρ => setR i (f ρ) ρ) := ⟨vs_set hN hi hx he.h hs hf⟩
theorem vs_setF {f : VE → Option (List D)} {i : Nat} {x : Str} {pos' : Pos} (hN : X.N.Nodup) (hi : X.N[i]? = some x) (hx : Loc X.env.scope x) (he : PE X e (tF K M H0 f)) (hs : swapsWith e (some (.Name x pos')) pos.line X.env = pure false := by rfl) (hf : X.fn x = true ∨ X.env.scope.names.lookup x = some .local := by first | exact .inl rfl | exact .inr rfl | assumption) :
    PS X (.Assign [.Name x pos'] e pos) (tS K M H0 fun ρ => setRF i (f ρ) ρ) := (ps_set hN hi hx he hs hf).mono fun _ _ _ q => tAsg_F q
theorem j_vs_setF {f : VE → Option (List D)} {i : Nat} {x : Str} {pos' : Pos} (hN : X.N.Nodup) (hi : X.N[i]? = some x) (hx : Loc X.env.scope x) (he : JE X e (tF K M H0 f)) (hs : swapsWith e (some (.Name x pos')) pos.line X.env = pure false := by rfl) (hf : X.fn x = true ∨ X.env.scope.names.lookup x = some .local := by first | exact .inl rfl | exact .inr rfl | assumption) : JS X (.Assign [.Name x pos'] e pos) (tS K M H0 fun ρ => setRF i (f ρ) ρ) := ⟨vs_setF hN hi hx he.h hs hf⟩
@[simp] def frzR (i : Nat) (ρ : VE) : VE := match ρ[i]? with
  | some (.own xs b) => ρ.set i (.val (.lst xs b))
  | _ => ρ
@[simp] def appR (i : Nat) (o : Option D) (ρ : VE) : Res := match rdO ρ i, o with
  | some xs, some d => if xs.length < sizeLine then .next (ρ.set i (.own (xs ++ [d]))) else .fail
  | _, _ => .fail
theorem vs_append {i : Nat} {x : Str} {vpos apos cpos : Pos} (hN : X.N[i]? = some x) (hv : Vis X.env.scope x) (he : PE X e (tD K M H0 f)) (hd : (x == ("__debug__" : Str)) = false := by decide) (hcd : (x == ("__classdict__" : Str)) = false := by decide)
    (hs : swapsWith (.Call (.Attribute (.Name x vpos) "append" apos) [e] [] cpos) none pos.line X.env = pure false := by rfl)
    (hbase : attributeBase (.Name x vpos) "append" X.env (eval (.Name x vpos) X.env) = eval (.Name x vpos) X.env := by rfl)
    (hfew : ((backTo cpos (starEach [e] X.env)).all (fun x => !x.1) && (backToKw cpos (keywordEach [] X.env)).all (fun x => x.1.isSome)
      && decide ([e].length + ([] : List Keyword).length + (if ([] : List Keyword).isEmpty then 0 else 1) < 30)) = true := by rfl)
    (hline : (apos.endLine == cpos.line) = true := by rfl) (hst : starEach [e] X.env = (false, eval e X.env) :: starEach [] X.env := by rfl) (hpl : (backTo cpos (starEach [] X.env)).any (·.1) = false := by rfl) :
    PS X (.Expr (.Call (.Attribute (.Name x vpos) "append" apos) [e] [] cpos) pos) (tS K M H0 fun ρ => appR i (f ρ) ρ) :=
  (ps_expr (pe_bm PySem.F.plainAttrs_list PySem.F.slot_list_append PySem.F.type_list_append mt_append (pe_var hN hv hd hcd) (pa_cons he pa_nil hst) hbase hfew hline hst hpl) hs).mono fun D' σ H ⟨ρ, R, q⟩ => by
    try dsimp only at q
    cases hr : rdO ρ i with
    | none => simp only [hr, appR] at q; exact False.elim q
    | some xs =>
      cases hf : f ρ with
      | none => simp only [hr, hf, appR] at q; exact False.elim q
      | some d =>
        simp only [hr, hf, appR] at q
        split at q
        · next hz =>
          have hi := rdO_slot hr
          obtain ⟨a, vs, e1, z1, z2, z3, z4⟩ := R.slot i _ hi
          have ha := join_some e1
          refine ⟨.ref a, ha, .inl ⟨rfl, vs, .inl (.inl z3)⟩, ρ, d, R, hf, fun v H1 s hv => ?_⟩
          have R1 := R.st s
          obtain ⟨R2, S2⟩ := R1.chg (ys := xs ++ [d]) (ws := vs ++ [v]) hi ha ((z4.same s).append (DenL.cons hv DenL.nil))
          exact ⟨a, vs, v, rfl, rfl, s _ _ z3, by rw [← z4.length]; exact hz, q _ _ R2 ((Step.of_same s).trans S2)⟩
        · exact False.elim q
theorem j_vs_append {i : Nat} {x : Str} {vpos apos cpos : Pos} (hN : X.N[i]? = some x) (hv : Vis X.env.scope x) (he : JE X e (tD K M H0 f)) (hd : (x == ("__debug__" : Str)) = false := by decide) (hcd : (x == ("__classdict__" : Str)) = false := by decide) (hs : swapsWith (.Call (.Attribute (.Name x vpos) "append" apos) [e] [] cpos) none pos.line X.env = pure false := by rfl) (hbase : attributeBase (.Name x vpos) "append" X.env (eval (.Name x vpos) X.env) = eval (.Name x vpos) X.env := by rfl) (hfew : ((backTo cpos (starEach [e] X.env)).all (fun x => !x.1) && (backToKw cpos (keywordEach [] X.env)).all (fun x => x.1.isSome)
      && decide ([e].length + ([] : List Keyword).length + (if ([] : List Keyword).isEmpty then 0 else 1) < 30)) = true := by rfl) (hline : (apos.endLine == cpos.line) = true := by rfl) (hst : starEach [e] X.env = (false, eval e X.env) :: starEach [] X.env := by rfl) (hpl : (backTo cpos (starEach [] X.env)).any (·.1) = false := by rfl) : JS X (.Expr (.Call (.Attribute (.Name x vpos) "append" apos) [e] [] cpos) pos) (tS K M H0 fun ρ => appR i (f ρ) ρ) := ⟨vs_append hN hv he.h hd hcd hs hbase hfew hline hst hpl⟩
end
def ItOk (K : PySem.W.Frag) (M N : Fb) (H1 : Hp) (J : It) (ds : List D) : Prop := ∀ N2 H2, Step M N N2 H1 H2 → ∀ i, (∀ d, ds[i]? = some d → J.go i H2 ∧ ∀ x H3, J.yld i H2 x H3 → Same H2 H3 ∧ Den K N2 H3 d x) ∧ (i = ds.length → J.stop i H2)
def tI (K : PySem.W.Frag) (M : Fb) (H0 : Hp) (f : VE → Option (List D)) : TI := fun σ H R => ∃ ρ ds, Rel K M H0 ρ σ H ∧ f ρ = some ds ∧ ∀ J H1, Same H H1 → ItOk K M (Nf M ρ σ) H1 J ds → R J H1
def tG (K : PySem.W.Frag) (M : Fb) (H0 : Hp) (ws : List Nat) (b : D → VE → Option VE) : TG := fun v σ H Q => ∃ ρ d ρ', Rel K M H0 ρ σ H ∧ Den K (Nf M ρ σ) H d v ∧ b d ρ = some ρ' ∧ ∀ σ' , Rel K M H0 ρ' σ' H → Step M (Nf M ρ σ) (Nf M ρ' σ') H H → (∀ j, j ∉ ws → σ'[j]? = σ[j]?) → Q σ' H
@[simp] def bName (i : Nat) (d : D) (ρ : VE) : Option VE := some (ρ.set i (.val d))
def forR (b : D → VE → Option VE) (g : VE → Res) : List D → VE → Res
  | [], ρ => .next ρ
  | d :: ds, ρ => match b d ρ with
    | none => .fail
    | some ρ1 => match g ρ1 with
      | .next ρ2 => forR b g ds ρ2
      | .cont ρ2 => forR b g ds ρ2
      | .brk ρ2 => .next ρ2
      | r => r
@[simp] def forO (f : VE → Option (List D)) (b : D → VE → Option VE) (g : VE → Res) : VE → Res := fun ρ => match f ρ with
  | some ds => forR b g ds ρ
  | none => .fail
section
variable {X : Cx} {K : PySem.W.Frag} {M : Fb} {H0 : Hp} {pos : Pos} {e tg iter : Expr} {f : VE → Option (List D)} {b : D → VE → Option VE} {g : VE → Res} {body : List Stmt}
theorem vg_name {i : Nat} {x : Str} (hN : X.N.Nodup) (hi : X.N[i]? = some x) (hx : Loc X.env.scope x) (hf : X.fn x = true ∨ X.env.scope.names.lookup x = some .local := by first | exact .inl rfl | exact .inr rfl | assumption) : PG X (.Name x pos) (tG K M H0 [i] (bName i)) := by
  intro pins s σ H v u Q I r ⟨ρ, d, ρ', R, hd, e, q⟩
  cases e
  obtain ⟨R1, S1⟩ := R.setV (i := i) (Same.refl H) hd
  exact pg_name hN hi hx hf pins s σ H v u Q I r (q _ R1 S1 fun j hj => by rw [List.getElem?_set_ne (fun e => hj (by rw [e]; simp))])
theorem j_vg_name {i : Nat} {x : Str} (hN : X.N.Nodup) (hi : X.N[i]? = some x) (hx : Loc X.env.scope x) (hf : X.fn x = true ∨ X.env.scope.names.lookup x = some .local := by first | exact .inl rfl | exact .inr rfl | assumption) : JG X (.Name x pos) (tG K M H0 [i] (bName i)) := ⟨vg_name hN hi hx hf⟩
theorem tFor_D {ws : List Nat} {D' : Ends} {σ : St} {H : Hp} {wi : TI} {tg' : TG} {tb : TS} (hi : ∀ σ H R, tI K M H0 f σ H R → wi σ H R) (hg : ∀ v σ H Q, tG K M H0 ws b v σ H Q → tg' v σ H Q) (hb : ∀ D σ H, tS K M H0 g D σ H → tb D σ H)
    (h : tS K M H0 (forO f b g) D' σ H) : tFor wi tg' tb D' σ H := by
  obtain ⟨ρ, R, q⟩ := h
  try dsimp only at q
  unfold forO at q
  cases hf : f ρ with
  | none => rw [hf] at q; exact False.elim q
  | some ds =>
    rw [hf] at q
    refine hi _ _ _ ⟨ρ, ds, R, hf, fun J H1 s1 ok => ?_⟩
    -- at turn i: the slots ρi from which the rest of the items gives what is wanted
    refine ⟨fun i m σi Hi => m = ds.length - i ∧ i ≤ ds.length ∧ ∃ ρi, Rel K M H0 ρi σi Hi ∧ Step M (Nf M ρ σ) (Nf M ρi σi) H1 Hi ∧ resOk K M H0 ρi σi Hi D' (forR b g (ds.drop i) ρi), ⟨ds.length, by simp, Nat.zero_le _, ρ, R.st s1, Step.refl, ?_⟩, ?_⟩
    · exact resOk.from (Step.of_same s1) q
    · rintro i m σi Hi ⟨rfl, hle, ρi, Ri, Si, qi⟩
      obtain ⟨ok1, ok2⟩ := ok _ _ Si i
      by_cases hlt : i < ds.length
      · obtain ⟨go, y⟩ := ok1 ds[i] (List.getElem?_eq_getElem hlt)
        rw [List.drop_eq_getElem_cons hlt] at qi
        simp only [forR] at qi
        refine .inr ⟨go, fun σ' H' => i + 1 ≤ ds.length ∧ ∃ ρi, Rel K M H0 ρi σ' H' ∧ Step M (Nf M ρ σ) (Nf M ρi σ') H1 H' ∧ resOk K M H0 ρi σ' H' D' (forR b g (ds.drop (i + 1)) ρi), fun σ' H' z => ⟨ds.length - (i + 1), by omega, rfl, z⟩, fun x H' yl => ?_⟩
        obtain ⟨s3, hd⟩ := y x H' yl
        cases hbd : b ds[i] ρi with
        | none => rw [hbd] at qi; exact False.elim qi
        | some ρ1 =>
          rw [hbd] at qi
          simp only at qi
          refine hg _ _ _ _ ⟨ρi, ds[i], ρ1, Ri.st s3, hd, hbd, fun σ1 R1 S1 _ => hb _ _ _ ⟨ρ1, R1, ?_⟩⟩
          have S01 : Step M (Nf M ρi σi) (Nf M ρ1 σ1) Hi H' := (Step.of_same s3).trans S1
          cases hgr : g ρ1 with
          | fail => rw [hgr] at qi; exact qi
          | next ρ2 => rw [hgr] at qi; exact fun σ2 H2 R2 S2 => ⟨hlt, ρ2, R2, Si.trans (S01.trans S2), resOk.from (S01.trans S2) qi⟩
          | cont ρ2 => rw [hgr] at qi; exact fun σ2 H2 R2 S2 => ⟨hlt, ρ2, R2, Si.trans (S01.trans S2), resOk.from (S01.trans S2) qi⟩
          | brk ρ2 => rw [hgr] at qi; exact fun σ2 H2 R2 S2 => qi σ2 H2 R2 (S01.trans S2)
          | ret r => rw [hgr] at qi; exact qi
      · have e : i = ds.length := by omega
        rw [List.drop_eq_nil_of_le (by omega)] at qi
        exact .inl ⟨ok2 e, qi σi Hi Ri Step.refl⟩
theorem vs_for {ws : List Nat} (hp : PassesOwn (model X.prog X.w) X.A X.env X.xe) (hc : X.calm = true) (hi : PI X tg iter (tI K M H0 f)) (hg : PG X tg (tG K M H0 ws b)) (hb : PSs X body (tS K M H0 g))
    (hs : ∀ x, foldedSetIterable iter X.env x = pure x := by intro _; rfl) : PS X (.For tg iter body [] pos) (tS K M H0 (forO f b g)) :=
  (ps_for hp hc hi hg hb hs).mono fun _ _ _ q => tFor_D (fun _ _ _ z => z) (fun _ _ _ _ z => z) (fun _ _ _ z => z) q
theorem j_vs_for {ws : List Nat} (hp : PassesOwn (model X.prog X.w) X.A X.env X.xe) (hc : X.calm = true) (hi : JI X tg iter (tI K M H0 f)) (hg : JG X tg (tG K M H0 ws b)) (hb : JB X body (tS K M H0 g)) (hs : ∀ x, foldedSetIterable iter X.env x = pure x := by intro _; rfl) : JS X (.For tg iter body [] pos) (tS K M H0 (forO f b g)) := ⟨vs_for hp hc hi.h hg.h hb.h hs⟩
theorem PI.mono {wi wi' : TI} (h : PI X tg iter wi) (m : ∀ σ H R, wi' σ H R → wi σ H R) : PI X tg iter wi' := fun pins s σ H R I q => h pins s σ H R I (m σ H R q)
def DenQ (K : PySem.W.Frag) (M N : Fb) (H : Hp) (d : D) (v : V) : Prop := match d with
  | .lst xs => ∃ a vs, v = .ref a ∧ (((¬ N a ∨ M a) ∧ Rd H a (.lst vs)) ∨ KL K a vs) ∧ DenL K N H xs vs
  | .lst xs true => ∃ a vs, v = .ref a ∧ (¬ N a ∨ M a) ∧ Rd H a (.dct (ktsOf xs) vs) ∧ DenL K N H xs vs
  | d => Den K N H d v
def tQ (K : PySem.W.Frag) (M : Fb) (H0 : Hp) (f : VE → Option D) : TE := fun σ H Q => ∃ ρ d, Rel K M H0 ρ σ H ∧ f ρ = some d ∧ ∀ v H', Same H H' → DenQ K M (Nf M ρ σ) H' d v → Q v H'
theorem Den.q {M N : Fb} {H : Hp} {d : D} {v : V} (h : Den K N H d v) : DenQ K M N H d v := by
  cases d with
  | lst xs fl =>
    simp only [Den] at h
    obtain ⟨a, vs, e, q, r⟩ := h
    cases fl with
    | false =>
      refine ⟨a, vs, e, ?_, r⟩
      rcases q with ⟨n, q⟩ | ⟨ws, z, q⟩
      · exact .inl ⟨.inl n, q⟩
      · cases z; exact .inr q
    | true =>
      rcases q with ⟨n, q⟩ | ⟨ws, z, _⟩
      · exact ⟨a, vs, e, .inl n, q, r⟩
      · cases z
  | _ => exact h
theorem PE.q {f : VE → Option D} (h : PE X e (tD K M H0 f)) : PE X e (tQ K M H0 f) := h.mono fun σ H Q ⟨ρ, d, R, e, q⟩ => ⟨ρ, d, R, e, fun v H' s z => q v H' s z.q⟩
theorem j_q {f : VE → Option D} (h : JE X e (tD K M H0 f)) : JE X e (tQ K M H0 f) := ⟨PE.q h.h⟩
theorem denQ_co {M N : Fb} {H : Hp} {xs : List D} {vs : List V} {fl : Bool} {a : Addr} (m : M a) (h : Rd H a (CO fl xs vs)) (r : DenL K N H xs vs) : DenQ K M N H (.lst xs fl) (.ref a) := by
  cases fl with
  | false => exact ⟨a, vs, rfl, .inl ⟨.inr m, h⟩, r⟩
  | true => exact ⟨a, vs, rfl, .inr m, h, r⟩
@[simp] def rdQ (ρ : VE) (i : Nat) : Option D := match ρ[i]? with
  | some (.val d) => some d
  | some (.lent xs b) => some (.lst xs b)
  | _ => none
theorem vq_var {i : Nat} {x : Str} (hN : X.N[i]? = some x) (hv : Vis X.env.scope x) (hd : (x == ("__debug__" : Str)) = false := by decide) (hcd : (x == ("__classdict__" : Str)) = false := by decide) : PE X (.Name x pos) (tQ K M H0 fun ρ => rdQ ρ i) :=
  (pe_var hN hv hd hcd).mono fun σ H Q ⟨ρ, d, R, e, q⟩ => by
    try dsimp only at e q
    unfold rdQ at e
    split at e
    · next h => cases e; obtain ⟨v, e1, h⟩ := R.slot i _ h; exact ⟨v, join_some e1, q v H (Same.refl H) h.q⟩
    · next h => cases e; obtain ⟨a, vs, e1, h2, h3, h4⟩ := R.slot i _ h; exact ⟨_, join_some e1, q _ H (Same.refl H) (denQ_co h2 h3 h4)⟩
    · cases e
def lstItems : D → Option (List D)
  | .lst xs => some xs
  | _ => none
def tupItems : D → Option (List D)
  | .tup xs => some xs
  | _ => none
def strItems : D → Option (List D)
  | .str x => some (x.cps.toList.map fun c => D.str ⟨#[c]⟩)
  | _ => none
theorem vi_list {l : Expr} {f : VE → Option D} (h : PE X l (tQ X.K M H0 f)) : PI X tg l (tI X.K M H0 fun ρ => (f ρ).bind lstItems) := (pi_list h).mono fun σ H R' ⟨ρ, ds, R, e, q⟩ => by
  try dsimp only at e q
  cases hf : f ρ with
  | none => rw [hf] at e; cases e
  | some d =>
    rw [hf] at e
    cases d with
    | lst xs fl =>
      cases fl with
      | true => cases e
      | false =>
      cases e
      refine ⟨ρ, .lst _, R, hf, fun v H1 s1 hv => ?_⟩
      obtain ⟨a, vs, e1, hr, hd⟩ := hv
      have sq : ∀ N2 H2, Step M (Nf M ρ σ) N2 H1 H2 → SqL X.K H2 a vs := fun N2 H2 S => by
        rcases hr with ⟨hn, hr⟩ | hr
        · exact .inl (hr.step S (by rcases hn with z | z; exact .inl z; exact .inr (.inl z)))
        · exact hr.sq
      refine ⟨a, e1, ⟨vs, sq _ _ Step.refl⟩, q _ H1 s1 fun N2 H2 S i => ?_⟩
      have hr2 := sq _ _ S
      have hd2 := DenL.step S _ _ hd
      refine ⟨fun d he => ?_, fun he => ⟨vs, hr2, by rw [he, hd.length]; exact Nat.le_refl _⟩⟩
      obtain ⟨w, hw, hdw⟩ := hd2.get he
      refine ⟨⟨vs, w, hr2, hw⟩, fun x H3 y => ?_⟩
      obtain ⟨e3, y⟩ := y
      subst e3
      have := y vs hr2
      rw [hw] at this; cases this
      exact ⟨Same.refl _, hdw⟩
    | _ => cases e
theorem vi_tup {l : Expr} {f : VE → Option D} (h : PE X l (tQ X.K M H0 f)) : PI X tg l (tI X.K M H0 fun ρ => (f ρ).bind tupItems) := (pi_tup h).mono fun σ H R' ⟨ρ, ds, R, e, q⟩ => by
  try dsimp only at e q
  cases hf : f ρ with
  | none => rw [hf] at e; cases e
  | some d =>
    rw [hf] at e
    cases d with
    | tup xs =>
      cases e
      refine ⟨ρ, .tup _, R, hf, fun v H1 s1 hv => ?_⟩
      simp only [DenQ, Den] at hv
      obtain ⟨a, vs, e1, hr, hd⟩ := hv
      refine ⟨a, e1, ⟨vs, hr⟩, q _ H1 s1 fun N2 H2 S i => ?_⟩
      have hr2 := hr.step S
      have hd2 := DenL.step S _ _ hd
      refine ⟨fun d he => ?_, fun he => ⟨vs, hr2, by rw [he, hd.length]; exact Nat.le_refl _⟩⟩
      obtain ⟨w, hw, hdw⟩ := hd2.get he
      refine ⟨⟨vs, w, hr2, hw⟩, fun x H3 y => ?_⟩
      obtain ⟨e3, y⟩ := y
      subst e3
      have := y vs hr2
      rw [hw] at this; cases this
      exact ⟨Same.refl _, hdw⟩
    | _ => cases e
theorem vi_str {l : Expr} {f : VE → Option D} (h : PE X l (tQ K M H0 f)) : PI X tg l (tI K M H0 fun ρ => (f ρ).bind strItems) := (pi_str h).mono fun σ H R' ⟨ρ, ds, R, e, q⟩ => by
  try dsimp only at e q
  cases hf : f ρ with
  | none => rw [hf] at e; cases e
  | some d =>
    rw [hf] at e
    cases d with
    | str x =>
      cases e
      refine ⟨ρ, .str x, R, hf, fun v H1 s1 hv => ?_⟩
      simp only [DenQ, Den] at hv
      refine ⟨x, hv, q _ H1 s1 fun N2 H2 S i => ⟨fun d he => ?_, fun he => ?_⟩⟩
      · rw [List.getElem?_map] at he
        cases hc : x.cps.toList[i]? with
        | none => rw [hc] at he; cases he
        | some c =>
          rw [hc] at he; cases he
          have hi : i < x.cps.size := by
            have := (List.getElem?_eq_some_iff.mp hc).1
            simpa using this
          refine ⟨hi, fun v H3 y => ?_⟩
          obtain ⟨e3, c', hc', y⟩ := y
          subst e3 y
          rw [← Array.getElem?_toList, hc] at hc'; cases hc'
          exact ⟨Same.refl _, by simp only [Den]⟩
      · have : i = x.cps.size := by simpa using he
        exact Nat.le_of_eq this.symm
    | _ => cases e
def rngItems (lo : Int) (n : Nat) : List D := (List.range n).map (fun (k : Nat) => D.int (lo + (k : Int)))
theorem rng_ok {M N : Fb} {H1 : Hp} {lo : Int} {n : Nat} : ItOk K M N H1 (Itr lo n) (rngItems lo n) := fun N2 H2 S i => by
  refine ⟨fun d he => ?_, fun he => ?_⟩
  · have hi : i < n := by
      have := (List.getElem?_eq_some_iff.mp he).1
      simpa [rngItems] using this
    have e : d = D.int (lo + i) := by
      simp only [rngItems, List.getElem?_map, List.getElem?_range hi, Option.map_some, Option.some.injEq] at he
      exact he.symm
    subst e
    refine ⟨hi, fun x H3 y => ?_⟩
    obtain ⟨e3, y⟩ := y
    subst e3 y
    exact ⟨Same.refl _, by simp only [Den]⟩
  · have : i = n := by simpa [rngItems] using he
    exact Nat.le_of_eq this.symm
noncomputable def gd {α : Type} (p : Prop) (o : Option α) : Option α := @ite _ p (Classical.propDecidable p) o none
theorem gd_pos {α : Type} {p : Prop} {o : Option α} (h : p) : gd p o = o := by unfold gd; exact @if_pos _ (Classical.propDecidable p) h _ _ _
theorem gd_inv {α : Type} {p : Prop} {o : Option α} {x : α} (h : gd p o = some x) : p ∧ o = some x := by
  by_cases hp : p
  · rw [gd_pos hp] at h; exact ⟨hp, h⟩
  · unfold gd at h
    rw [@if_neg _ (Classical.propDecidable p) hp] at h
    cases h
noncomputable def rng1 : List D → Option (List D)
  | [.int j] => gd (-1000000000 ≤ j ∧ j < 1000000000) (some (rngItems 0 j.toNat))
  | _ => none
theorem vi_range1 {a : Expr} {fa : VE → Option (List Sl)} {p : Pos} (hg : Gl X "range") (hm : X.mg "range" = none) (ha : PA X [a] (tA' K M H0 fa)) (hs : starEach [a] X.env = [(false, eval a X.env)] := by rfl) : PI X tg (.Call (.Name "range" p) [a] [] pos) (tI K M H0 fun ρ => ((fa ρ).bind vals).bind rng1) :=
  (pi_range1 hg hm ha hs).mono fun σ H R' ⟨ρ, ds, R, e, q⟩ => by
    try dsimp only at e q
    cases hf : fa ρ with
    | none => rw [hf] at e; cases e
    | some ss =>
      rw [hf] at e
      cases hv : vals ss with
      | none => simp only [Option.bind, hv] at e; cases e
      | some l =>
        simp only [Option.bind, hv] at e
        unfold rng1 at e
        split at e
        · next j =>
          obtain ⟨hz, e⟩ := gd_inv e
          cases e
          refine ⟨ρ, ss, R, hf, fun vs H1 s1 h1 => ?_⟩
          have hd := vals_den h1 hv
          simp only [DenL, Den] at hd
          obtain ⟨v, r, e1, e2, e3⟩ := hd
          subst e1 e2 e3
          exact ⟨j, rfl, by omega, by omega, q _ H1 s1 rng_ok⟩
        · cases e
theorem j_vi_range1 {a : Expr} {fa : VE → Option (List Sl)} {p : Pos} (hg : Gl X "range") (hm : X.mg "range" = none) (ha : JA X [a] (tA' K M H0 fa)) (hs : starEach [a] X.env = [(false, eval a X.env)] := by rfl) : JI X tg (.Call (.Name "range" p) [a] [] pos) (tI K M H0 fun ρ => ((fa ρ).bind vals).bind rng1) := ⟨vi_range1 hg hm ha.h hs⟩
end
end L2
set_option Elab.async false
set_option linter.all false
set_option maxRecDepth 100000
namespace L2
open PySem PySem.Spec PyProof.Rows
def tGs (K : PySem.W.Frag) (M : Fb) (H0 : Hp) (ws : List Nat) (b : List D → VE → Option VE) : TGs := fun vs σ H Q => ∃ ρ ds ρ', Rel K M H0 ρ σ H ∧ DenL K (Nf M ρ σ) H ds vs ∧ b ds ρ = some ρ' ∧ ∀ σ' , Rel K M H0 ρ' σ' H → Step M (Nf M ρ σ) (Nf M ρ' σ') H H → (∀ j, j ∉ ws → σ'[j]? = σ[j]?) → Q σ' H
@[simp] def bNil : List D → VE → Option VE
  | [], ρ => some ρ
  | _, _ => none
@[simp] def bCons (b : D → VE → Option VE) (c : List D → VE → Option VE) : List D → VE → Option VE
  | d :: r, ρ => (b d ρ).bind (c r)
  | _, _ => none
@[simp] def bTup (n : Nat) (b : List D → VE → Option VE) : D → VE → Option VE
  | .tup ds, ρ => if ds.length = n then b ds ρ else none
  | _, _ => none
section
variable {X : Cx} {K : PySem.W.Frag} {M : Fb} {H0 : Hp} {pos : Pos} {e tg iter : Expr} {es : List Expr} {ws ws' : List Nat} {b : D → VE → Option VE} {c : List D → VE → Option VE}
theorem vgs_nil : PGs X [] (tGs K M H0 [] bNil) := by
  intro pins s σ H vs us Q I r ⟨ρ, ds, ρ', R, hd, e, q⟩
  cases ds with
  | nil =>
    cases e
    simp only [DenL] at hd
    exact pgs_nil pins s σ H vs us Q I r ⟨hd, q σ R Step.refl fun _ _ => rfl⟩
  | cons => cases e
theorem j_vgs_nil  : JK X [] (tGs K M H0 [] bNil) := ⟨vgs_nil ⟩
theorem vgs_cons (h1 : PG X e (tG K M H0 ws b)) (h2 : PGs X es (tGs K M H0 ws' c)) (hs : (assignEach (e :: es) X.env).map (·.2) = assign e X.env :: (assignEach es X.env).map (·.2) := by rfl) : PGs X (e :: es) (tGs K M H0 (ws ++ ws') (bCons b c)) := by
  intro pins s σ H vs us Q I r ⟨ρ, ds, ρ', R, hd, e, q⟩
  cases ds with
  | nil => cases e
  | cons d ds =>
    simp only [DenL] at hd
    obtain ⟨v, vr, e1, hv, hr⟩ := hd
    subst e1
    simp only [bCons] at e
    cases hb : b d ρ with
    | none => rw [hb] at e; cases e
    | some ρ1 =>
      rw [hb] at e
      refine pgs_cons h1 h2 hs pins s σ H _ us Q I r ⟨v, vr, rfl, ρ, d, ρ1, R, hv, hb, fun σ1 R1 S1 w1 => ⟨ρ1, ds, ρ', R1, DenL.step S1 _ _ hr, e, fun σ2 R2 S2 w2 => q σ2 R2 (S1.trans S2) fun j hj => ?_⟩⟩
      rw [List.mem_append, not_or] at hj
      rw [w2 j hj.2, w1 j hj.1]
theorem j_vgs_cons (h1 : JG X e (tG K M H0 ws b)) (h2 : JK X es (tGs K M H0 ws' c)) (hs : (assignEach (e :: es) X.env).map (·.2) = assign e X.env :: (assignEach es X.env).map (·.2) := by rfl) : JK X (e :: es) (tGs K M H0 (ws ++ ws') (bCons b c)) := ⟨vgs_cons h1.h h2.h hs⟩
theorem vg_tup {k n : Nat} (hc : X.calm = true) (h : PGs X es (tGs X.K M H0 ws c))
    (hn : (assignEach es X.env).length = n := by rfl) (hst : (assignEach es X.env).findIdx? (·.1) = none := by rfl) : PG X (.Tuple es k pos) (tG X.K M H0 ws (bTup n c)) := by
  intro pins s σ H v u Q I r ⟨ρ, d, ρ', R, hd, e, q⟩
  cases d with
  | tup ds =>
    simp only [bTup] at e
    split at e
    · next hl =>
      simp only [Den] at hd
      obtain ⟨a, vs, e1, hq, hd⟩ := hd
      exact pg_tup hc h hn hst pins s σ H v u Q I r ⟨a, vs, e1, hq, by rw [← hd.length]; exact hl, ρ, ds, ρ', R, hd, e, q⟩
    · cases e
  | _ => cases e
theorem j_vg_tup {k n : Nat} (hc : X.calm = true) (h : JK X es (tGs X.K M H0 ws c)) (hn : (assignEach es X.env).length = n := by rfl) (hst : (assignEach es X.env).findIdx? (·.1) = none := by rfl) : JG X (.Tuple es k pos) (tG X.K M H0 ws (bTup n c)) := ⟨vg_tup hc h.h hn hst⟩
end
@[simp] def lend : Option Sl → Sl
  | some (.val d) => .val d
  | some (.own xs b) => .lent xs b
  | some (.lent xs b) => .lent xs b
  | _ => .no
@[simp] def compIn (k : Nat) (oix : List Nat) (ρ : VE) : VE := List.replicate k .no ++ oix.map fun j => lend ρ[j]?
def compL (b : D → VE → Option VE) (t : VE → Option Bool) (e : VE → Option D) (ρ : VE) : List D → Option (List D)
  | [] => some []
  | d :: ds => match b d ρ with
    | none => none
    | some ρ1 => match t ρ1 with
      | some true => consO (e ρ1) (compL b t e ρ ds)
      | some false => compL b t e ρ ds
      | none => none
@[simp] def compF (k : Nat) (oix : List Nat) (f : VE → Option (List D)) (b : D → VE → Option VE) (t : VE → Option Bool) (e : VE → Option D) : VE → Option (List D) := fun ρ => (shortO (f ρ)).bind (compL b t e (compIn k oix ρ))
section
variable {X : Cx} {K : PySem.W.Frag} {M : Fb} {H0 : Hp} {pos : Pos} {tg elt iter : Expr} {ifs : List Expr} {scope : Scope} {ws : List Nat} {f : VE → Option (List D)} {b : D → VE → Option VE} {t : VE → Option Bool} {e : VE → Option D} {k : Nat} {oix : List Nat}
theorem Rel.comp {ρ : VE} {σ : St} {H : Hp} (R : Rel K M H0 ρ σ H) (k : Nat) (oix : List Nat) : Rel K (Nf M ρ σ) H (compIn k oix ρ) (startC k oix σ) H ∧ ∀ a, Nf (Nf M ρ σ) (compIn k oix ρ) (startC k oix σ) a → Nf M ρ σ a := by
  have noown : ∀ (j : Nat) (xs : List D) (fl : Bool), (compIn k oix ρ)[j]? ≠ some (Sl.own xs fl) := fun j xs fl h => by
    unfold compIn at h
    rw [List.getElem?_append] at h
    split at h
    · rw [List.getElem?_replicate] at h
      split at h <;> cases h
    · rw [List.getElem?_map] at h
      cases ho : oix[j - (List.replicate k Sl.no).length]? with
      | none => rw [ho] at h; cases h
      | some o =>
        rw [ho] at h
        simp only [Option.map_some, Option.some.injEq] at h
        unfold lend at h
        split at h <;> cases h
  have nf : ∀ a, Nf (Nf M ρ σ) (compIn k oix ρ) (startC k oix σ) a → Nf M ρ σ a := fun a h => by
    rcases h with h | ⟨j, xs, fl, h, _⟩
    · exact h
    · exact absurd h (noown j xs fl)
  refine ⟨⟨by simp [compIn, startC], Same.refl H, R.nh, fun j s h => ?_, fun i j xs ys fl fl' a h => absurd h (noown i xs fl)⟩, nf⟩
  unfold compIn at h
  rw [List.getElem?_append] at h
  split at h
  · rw [List.getElem?_replicate] at h
    split at h
    · cases h; trivial
    · cases h
  · next hge =>
    rw [List.getElem?_map] at h
    have hσ : (startC k oix σ)[j]? = (oix[j - k]?).map fun i => (σ[i]?).join := by
      unfold startC
      rw [List.getElem?_append_right (by simpa using hge), List.getElem?_map]
      simp
    rw [hσ]
    simp only [List.length_replicate] at h
    cases ho : oix[j - k]? with
    | none => rw [ho] at h; cases h
    | some o =>
      rw [ho] at h
      simp only [Option.map_some, Option.some.injEq] at h
      simp only [Option.map_some, Option.join_some]
      unfold lend at h
      split at h
      · next d hd => subst h; obtain ⟨v, e1, q⟩ := R.slot o _ hd; exact ⟨v, e1, q.nw fun a ha => .inl (nf a ha)⟩
      · next xs fl hd =>
        subst h
        obtain ⟨a, vs, e1, z1, z2, z3, z4⟩ := R.slot o _ hd
        exact ⟨a, vs, e1, .inr ⟨o, xs, fl, hd, join_some e1⟩, .inl z3, z4.nw fun a ha => .inl (nf a ha)⟩
      · next xs hd =>
        subst h
        obtain ⟨a, vs, e1, z1, z2, z3⟩ := R.slot o _ hd
        exact ⟨a, vs, e1, .inl z1, z2, z3.nw fun a ha => .inl (nf a ha)⟩
      · subst h; trivial
def gAll (K : PySem.W.Frag) (ws : List Nat) (b : D → VE → Option VE) : TG := fun v σ H Q => ∃ M H0, tG K M H0 ws b v σ H Q
def tAll (K : PySem.W.Frag) (t : VE → Option Bool) : TT := fun σ H Q => ∃ M H0, tB' K M H0 t σ H Q
def eAll (K : PySem.W.Frag) (e : VE → Option D) : TE := fun σ H Q => ∃ M H0, tD K M H0 e σ H Q
theorem tComp_D (hw : ∀ j ∈ ws, j < k) {wi : TI} (hi : ∀ σ H R, tI K M H0 f σ H R → wi σ H R) {σ : St} {H : Hp} {Q : VK} (h : tF K M H0 (compF k oix f b t e) σ H Q) : tComp k oix wi (gAll K ws b) (tAll K t) (eAll K e) σ H Q := by
  obtain ⟨ρ, xs, R, ex, q⟩ := h
  try dsimp only at ex q
  unfold compF at ex
  cases hf : shortO (f ρ) with
  | none => rw [hf] at ex; cases ex
  | some ds =>
    rw [hf] at ex
    obtain ⟨hf, hz⟩ := shortO_inv hf
    have ex : compL b t e (compIn k oix ρ) ds = some xs := ex
    refine hi _ _ _ ⟨ρ, ds, R, hf, fun J H1 s1 ok => ?_⟩
    refine ⟨ds.length, fun i ys H2 => i ≤ ds.length ∧ ys.length ≤ i ∧ Same H1 H2 ∧ ∃ acc rest, DenL K (Nf M ρ σ) H2 acc ys ∧ compL b t e (compIn k oix ρ) (ds.drop i) = some rest ∧ acc ++ rest = xs, ⟨Nat.zero_le _, Nat.le_refl _, Same.refl _, [], xs, DenL.nil, ex, rfl⟩, ?_⟩
    rintro i ys H2 ⟨hle, hy, s2, acc, rest, hacc, hc, hx⟩
    obtain ⟨ok1, ok2⟩ := ok _ H2 (Step.of_same s2) i
    by_cases hlt : i < ds.length
    · obtain ⟨go, y⟩ := ok1 ds[i] (List.getElem?_eq_getElem hlt)
      rw [List.drop_eq_getElem_cons hlt] at hc
      simp only [compL] at hc
      refine .inr ⟨go, hlt, by omega, fun ys' H' => ys'.length ≤ i + 1 ∧ Same H1 H' ∧ ∃ acc rest, DenL K (Nf M ρ σ) H' acc ys' ∧ compL b t e (compIn k oix ρ) (ds.drop (i + 1)) = some rest ∧ acc ++ rest = xs, fun ys' H' z => ⟨hlt, z⟩, fun x H3 yl => ?_⟩
      obtain ⟨s3, hd⟩ := y x H3 yl
      have R3 := ((R.st s1).st s2).st s3
      obtain ⟨Rc, nf⟩ := R3.comp k oix
      cases hb : b ds[i] (compIn k oix ρ) with
      | none => rw [hb] at hc; cases hc
      | some ρ1 =>
        rw [hb] at hc
        simp only at hc
        refine ⟨Nf M ρ σ, H3, compIn k oix ρ, ds[i], ρ1, Rc, hd.nw fun a ha => .inl (nf a ha), hb, fun σ4 R4 S4 w4 => ⟨?_, ?_⟩⟩
        · apply List.ext_getElem?
          intro j
          rw [List.getElem?_drop, List.getElem?_drop]
          exact w4 _ fun hj => absurd (hw _ hj) (by omega)
        · cases ht : t ρ1 with
          | none => rw [ht] at hc; cases hc
          | some bb =>
            rw [ht] at hc
            refine ⟨Nf M ρ σ, H3, ρ1, bb, R4, ht, fun H5 s5 => ?_⟩
            cases bb with
            | true =>
              simp only at hc
              obtain ⟨yd, rest', e1, e2, e3⟩ := consO_inv hc
              refine ite_t ?_
              refine ⟨Nf M ρ σ, H3, ρ1, yd, R4.st s5, e1, fun v H6 s6 hv => ⟨?_, ((s2.trans s3).trans s5).trans s6, acc ++ [yd], rest', (hacc.same ((s3.trans s5).trans s6)).append (DenL.cons (hv.nw fun a ha => .inl (.inl ha)) DenL.nil), e2, ?_⟩⟩
              · simp only [List.length_append, List.length_singleton]; omega
              · subst e3; rw [← hx]; simp
            | false =>
              refine ite_f ?_
              exact ⟨by omega, (s2.trans s3).trans s5, acc, rest, hacc.same (s3.trans s5), hc, hx⟩
    · have ei : i = ds.length := by omega
      rw [List.drop_eq_nil_of_le (by omega)] at hc
      cases hc
      rw [List.append_nil] at hx
      subst hx
      exact .inl ⟨ok2 ei, by omega, fun p hp => tF_new (s1.trans s2) hp hacc q⟩
theorem PG.all {Y : Cx} (h : ∀ M H0, PG Y tg (tG K M H0 ws b)) : PG Y tg (gAll K ws b) := fun pins s σ H v u Q I r ⟨M, H0, z⟩ => h M H0 pins s σ H v u Q I r z
theorem PFs.all {Y : Cx} (h : ∀ M H0, PFs Y ifs (tB' K M H0 t)) : PFs Y ifs (tAll K t) := fun pins s σ H Q I ⟨M, H0, z⟩ => h M H0 pins s σ H Q I z
theorem PE.all {Y : Cx} (h : ∀ M H0, PE Y elt (tD K M H0 e)) : PE Y elt (eAll K e) := fun pins s σ H Q I ⟨M, H0, z⟩ => h M H0 pins s σ H Q I z
theorem vf_nil {Y : Cx} : PFs Y [] (tB' K M H0 fun _ => some true) := fun pins s σ H Q I ⟨ρ, b, R, e, q⟩ => pf_nil pins s σ H Q I (by cases e; exact q H (Same.refl H))
theorem j_vf_nil {Y : Cx} : JF Y [] (tB' K M H0 fun _ => some true) := ⟨vf_nil ⟩
theorem vf_comp (own outs : List Str) (oix : List Nat) (S : CompSc own outs scope X.env.scope) (hox : oix.map (fun j => X.N[j]?) = outs.map some) (hc : X.calm = true) (hi : PI X tg iter (tI K M H0 f))
    (hg : ∀ C s2 H2 fp pins M' H', PG (cxC X own outs scope C s2 H2 fp pins) tg (tG K M' H' ws b))
    (ht : ∀ C s2 H2 fp pins M' H', PFs (cxC X own outs scope C s2 H2 fp pins) ifs (tB' K M' H' t))
    (he : ∀ C s2 H2 fp pins M' H', PE (cxC X own outs scope C s2 H2 fp pins) elt (tD K M' H' e)) (hw : ∀ j ∈ ws, j < own.length)
    (hs : ∀ x, foldedSetIterable iter X.env x = pure x := by intro _; rfl) :
    PE X (.ListComp elt [⟨tg, iter, ifs, 0⟩] scope pos) (tF K M H0 (compF own.length oix f b t e)) :=
  (pe_comp own outs oix S hox hc hi (fun C s2 H2 fp pins => PG.all (hg C s2 H2 fp pins)) (fun C s2 H2 fp pins => PFs.all (ht C s2 H2 fp pins)) (fun C s2 H2 fp pins => PE.all (he C s2 H2 fp pins)) hs).mono
    fun _ _ _ z => tComp_D hw (fun _ _ _ z => z) z
theorem j_vf_comp (own outs : List Str) (oix : List Nat) (S : CompSc own outs scope X.env.scope) (hox : oix.map (fun j => X.N[j]?) = outs.map some) (hc : X.calm = true) (hi : JI X tg iter (tI K M H0 f)) (hg : ∀ C s2 H2 fp pins M' H', JG (cxC X own outs scope C s2 H2 fp pins) tg (tG K M' H' ws b)) (ht : ∀ C s2 H2 fp pins M' H', JF (cxC X own outs scope C s2 H2 fp pins) ifs (tB' K M' H' t)) (he : ∀ C s2 H2 fp pins M' H', JE (cxC X own outs scope C s2 H2 fp pins) elt (tD K M' H' e)) (hw : ∀ j ∈ ws, j < own.length) (hs : ∀ x, foldedSetIterable iter X.env x = pure x := by intro _; rfl) : JE X (.ListComp elt [⟨tg, iter, ifs, 0⟩] scope pos) (tF K M H0 (compF own.length oix f b t e)) := ⟨vf_comp own outs oix S hox hc hi.h (fun C s2 H2 fp pins M' H' => (hg C s2 H2 fp pins M' H').h) (fun C s2 H2 fp pins M' H' => (ht C s2 H2 fp pins M' H').h) (fun C s2 H2 fp pins M' H' => (he C s2 H2 fp pins M' H').h) hw hs⟩
theorem vs_setCompV (own outs : List Str) (oix : List Nat) {i : Nat} {x : Str} {pos' spos : Pos} (S : CompSc own outs scope X.env.scope) (hox : oix.map (fun j => X.N[j]?) = outs.map some) (hc : X.calm = true)
    (hN : X.N.Nodup) (hix : X.N[i]? = some x) (hx : X.env.scope.names.lookup x = some .local) (hi : PI X tg iter (tI K M H0 f))
    (hg : ∀ C s2 H2 fp pins M' H', PG (cxC X own outs scope C s2 H2 fp pins) tg (tG K M' H' ws b))
    (ht : ∀ C s2 H2 fp pins M' H', PFs (cxC X own outs scope C s2 H2 fp pins) ifs (tB' K M' H' t))
    (he : ∀ C s2 H2 fp pins M' H', PE (cxC X own outs scope C s2 H2 fp pins) elt (tD K M' H' e)) (hw : ∀ j ∈ ws, j < own.length)
    (hsw : swapsWith (.ListComp elt [⟨tg, iter, ifs, 0⟩] scope pos) (some (.Name x pos')) spos.line X.env = pure true := by rfl)
    (hs : ∀ x, foldedSetIterable iter X.env x = pure x := by intro _; rfl) :
    PS X (.Assign [.Name x pos'] (.ListComp elt [⟨tg, iter, ifs, 0⟩] scope pos) spos) (tS K M H0 fun ρ => setR i (lstO (compF own.length oix f b t e ρ)) ρ) :=
  (ps_setComp own outs oix S hox hc hN hix hx hi (fun C s2 H2 fp pins => PG.all (hg C s2 H2 fp pins)) (fun C s2 H2 fp pins => PFs.all (ht C s2 H2 fp pins)) (fun C s2 H2 fp pins => PE.all (he C s2 H2 fp pins)) hsw hs).mono
    fun D' σ H z => by
      have z' : tD K M H0 (fun ρ => lstO (compF own.length oix f b t e ρ)) σ H (fun x H1 => gName i x σ H1 D'.nx) := tAsg_D z
      obtain ⟨ρ, d, R, ed, q⟩ := z'
      try dsimp only at ed q
      cases hf : compF own.length oix f b t e ρ with
      | none => rw [hf] at ed; cases ed
      | some xs =>
        rw [hf] at ed; cases ed
        refine tComp_D hw (fun _ _ _ z => z) ⟨ρ, xs, R, hf, fun a vs H' s z1 z2 z3 => q _ _ s ?_⟩
        simp only [Den]
        exact ⟨a, vs, rfl, .of (R.fresh z1) z2, z3.nw fun b hb => .inl (.inl hb)⟩
theorem j_vs_setCompV (own outs : List Str) (oix : List Nat) {i : Nat} {x : Str} {pos' spos : Pos} (S : CompSc own outs scope X.env.scope) (hox : oix.map (fun j => X.N[j]?) = outs.map some) (hc : X.calm = true) (hN : X.N.Nodup) (hix : X.N[i]? = some x) (hx : X.env.scope.names.lookup x = some .local) (hi : JI X tg iter (tI K M H0 f)) (hg : ∀ C s2 H2 fp pins M' H', JG (cxC X own outs scope C s2 H2 fp pins) tg (tG K M' H' ws b)) (ht : ∀ C s2 H2 fp pins M' H', JF (cxC X own outs scope C s2 H2 fp pins) ifs (tB' K M' H' t)) (he : ∀ C s2 H2 fp pins M' H', JE (cxC X own outs scope C s2 H2 fp pins) elt (tD K M' H' e)) (hw : ∀ j ∈ ws, j < own.length) (hsw : swapsWith (.ListComp elt [⟨tg, iter, ifs, 0⟩] scope pos) (some (.Name x pos')) spos.line X.env = pure true := by rfl) (hs : ∀ x, foldedSetIterable iter X.env x = pure x := by intro _; rfl) : JS X (.Assign [.Name x pos'] (.ListComp elt [⟨tg, iter, ifs, 0⟩] scope pos) spos) (tS K M H0 fun ρ => setR i (lstO (compF own.length oix f b t e ρ)) ρ) := ⟨vs_setCompV own outs oix S hox hc hN hix hx hi.h (fun C s2 H2 fp pins M' H' => (hg C s2 H2 fp pins M' H').h) (fun C s2 H2 fp pins M' H' => (ht C s2 H2 fp pins M' H').h) (fun C s2 H2 fp pins M' H' => (he C s2 H2 fp pins M' H').h) hw hsw hs⟩
end
def whR (t : VE → Option Bool) (g : VE → Res) : Nat → VE → Res
  | 0, _ => .fail
  | n + 1, ρ => match t ρ with
    | none => .fail
    | some false => .next ρ
    | some true => match g ρ with
      | .next ρ' => whR t g n ρ'
      | .cont ρ' => whR t g n ρ'
      | .brk ρ' => .next ρ'
      | r => r
theorem vs_while {X : Cx} {K : PySem.W.Frag} {M : Fb} {H0 : Hp} {pos : Pos} {c : Expr} {body : List Stmt} {t : VE → Option Bool} {g : VE → Res} (n : VE → Nat) (hp : PassesOwn (model X.prog X.w) X.A X.env X.xe) (hc : PT X c (tB' K M H0 t)) (hb : PSs X body (tS K M H0 g)) :
    PS X (.While c body [] pos) (tS K M H0 fun ρ => whR t g (n ρ) ρ) := (ps_while hp hc hb).mono fun D' σ H ⟨ρ, R, q⟩ => by
  try dsimp only at q
  refine ⟨fun m σi Hi => ∃ ρi, Rel K M H0 ρi σi Hi ∧ resOk K M H0 ρi σi Hi D' (whR t g m ρi), ⟨n ρ, ρ, R, q⟩, ?_⟩
  rintro m σi Hi ⟨ρi, Ri, qi⟩
  cases m with
  | zero => exact False.elim qi
  | succ m =>
    simp only [whR] at qi
    cases ht : t ρi with
    | none => rw [ht] at qi; exact False.elim qi
    | some bb =>
      rw [ht] at qi
      refine ⟨ρi, bb, Ri, ht, fun H1 s1 => ?_⟩
      cases bb with
      | false => refine ite_f ?_; exact qi σi H1 (Ri.st s1) (Step.of_same s1)
      | true =>
        simp only at qi
        refine ite_t ?_
        refine ⟨fun σ' H' => ∃ ρi, Rel K M H0 ρi σ' H' ∧ resOk K M H0 ρi σ' H' D' (whR t g m ρi), fun σ' H' z => ⟨m, Nat.lt_succ_self m, z⟩, ρi, Ri.st s1, ?_⟩
        cases hg : g ρi with
        | fail => rw [hg] at qi; exact qi
        | next ρ2 => rw [hg] at qi; exact fun σ2 H2 R2 S2 => ⟨ρ2, R2, resOk.from ((Step.of_same s1).trans S2) qi⟩
        | cont ρ2 => rw [hg] at qi; exact fun σ2 H2 R2 S2 => ⟨ρ2, R2, resOk.from ((Step.of_same s1).trans S2) qi⟩
        | brk ρ2 => rw [hg] at qi; exact fun σ2 H2 R2 S2 => qi σ2 H2 R2 ((Step.of_same s1).trans S2)
        | ret r => rw [hg] at qi; exact qi
theorem j_vs_while {X : Cx} {K : PySem.W.Frag} {M : Fb} {H0 : Hp} {pos : Pos} {c : Expr} {body : List Stmt} {t : VE → Option Bool} {g : VE → Res} (n : VE → Nat) (hp : PassesOwn (model X.prog X.w) X.A X.env X.xe) (hc : JT X c (tB' K M H0 t)) (hb : JB X body (tS K M H0 g)) : JS X (.While c body [] pos) (tS K M H0 fun ρ => whR t g (n ρ) ρ) := ⟨vs_while n hp hc.h hb.h⟩
def fnP (np n : Nat) (g : VE → Res) : List Sl → Option Rv := fun ss => if ss.length = np then
    match g (ss ++ List.replicate (n - np) .no) with
    | .ret r => some r
    | .next _ => some (.val .non)
    | _ => none
  else none
theorem start_rel {K : PySem.W.Frag} {N : Fb} {H : Hp} {ss : List Sl} {vs : List V} (nh : ∀ a, N a → H a ≠ none) (h : ArgsOk K N H ss vs) (n : Nat) : Rel K N H (ss ++ List.replicate n .no) (vs.map some ++ List.replicate n none) H := by
  have hl := h.length
  have noown : ∀ (j : Nat) (xs : List D) (fl : Bool), (ss ++ List.replicate n Sl.no)[j]? ≠ some (Sl.own xs fl) := fun j xs fl e => by
    rw [List.getElem?_append] at e
    split at e
    · obtain ⟨v, _, q⟩ := h.get e; exact q
    · rw [List.getElem?_replicate] at e
      split at e <;> cases e
  have nf : ∀ a, Nf N (ss ++ List.replicate n Sl.no) (vs.map some ++ List.replicate n none) a → N a := fun a z => by
    rcases z with z | ⟨j, xs, fl, z, _⟩
    · exact z
    · exact absurd z (noown j xs fl)
  refine ⟨by simp [hl], Same.refl H, nh, fun j s e => ?_, fun i j xs ys fl fl' a z => absurd z (noown i xs fl)⟩
  rw [List.getElem?_append] at e
  split at e
  · next hj =>
    obtain ⟨v, ev, q⟩ := h.get e
    rw [List.getElem?_append_left (by simpa [← hl] using hj), List.getElem?_map, ev]
    cases s with
    | val d => exact ⟨v, rfl, Den.nw q fun a ha => .inl (nf a ha)⟩
    | lent xs fl => obtain ⟨a, us, e1, z1, z2, z3⟩ := q; exact ⟨a, us, by rw [e1]; rfl, z1, z2, z3.nw fun a ha => .inl (nf a ha)⟩
    | no => trivial
    | own xs fl => exact False.elim q
  · rw [List.getElem?_replicate] at e
    split at e
    · cases e; trivial
    · cases e
theorem fn_ok {P : Program} {w : World} {K : PySem.W.Frag} {mg : Str → Option Value} {base : Heap} {x qual : Str} {st : Stmt} {f : Addr} {fd : FuncData} {N ps : List Str} {k : Nat} {g : VE → Res} (F : Fun K x qual st f fd) (S : FnScope N ps (defScope st)) (hnp : ps.length ≤ N.length)
    (hb : ∀ (cdv : Value) (A : Around) (outer : List Env) (s : Shared) (H : Hp) (E : XK) (M : Fb) (H0 : Hp), Room k (A.deeper (envOfC qual (defScope st) s.heap.objs.size f cdv)) →
      PSs (cxOf CX0 P w K mg base N qual (defScope st) f cdv A outer s H E).nox (defBody st) (tS K M H0 g)) : FnOk P w K mg base CX0 (k + 1) f fd ps (spD K (fnP ps.length N.length g)) := by
  refine F.ok S (fun vs H Q E h => ?_) (fun cdv A outer s H vs Q E hr h => ?_)
  · obtain ⟨N', ss, r, nh, ha, hF, q⟩ := h
    unfold fnP at hF
    split at hF
    · next hl => rw [← ha.length]; exact hl
    · cases hF
  · obtain ⟨N', ss, r, nh, ha, hF, q⟩ := h
    refine ⟨_, hb cdv A outer s H E N' H hr, ?_⟩
    unfold fnP at hF
    split at hF
    · next hl =>
      have hs : start N vs = vs.map some ++ List.replicate (N.length - ps.length) none := by unfold start; rw [← ha.length, hl]
      rw [hs]
      refine ⟨_, start_rel nh ha (N.length - ps.length), ?_⟩
      cases hg : g (ss ++ List.replicate (N.length - ps.length) .no) with
      | fail => rw [hg] at hF; cases hF
      | next ρ' => rw [hg] at hF; cases hF; exact fun σ' H' R' S' => q .non H' R'.same (by simp only [RvOk, Den])
      | brk ρ' => rw [hg] at hF; cases hF
      | cont ρ' => rw [hg] at hF; cases hF
      | ret r' => rw [hg] at hF; cases hF; exact fun v H' s hv => q v H' s hv
    · cases hF
theorem fn_okJ {P : Program} {w : World} {K : PySem.W.Frag} {mg : Str → Option Value} {base : Heap} {x qual : Str} {st : Stmt} {f : Addr} {fd : FuncData} {N ps : List Str} {k : Nat} {g : VE → Res} (F : Fun K x qual st f fd) (S : FnScope N ps (defScope st)) (hnp : ps.length ≤ N.length)
    (hb : ∀ (cdv : Value) (A : Around) (outer : List Env) (s : Shared) (H : Hp) (E : XK) (M : Fb) (H0 : Hp), Room k (A.deeper (envOfC qual (defScope st) s.heap.objs.size f cdv)) →
      JB (cxOf CX0 P w K mg base N qual (defScope st) f cdv A outer s H E).nox (defBody st) (tS K M H0 g)) : FnOk P w K mg base CX0 (k + 1) f fd ps (spD K (fnP ps.length N.length g)) :=
  fn_ok F S hnp fun cdv A outer s H E M H0 hr => (hb cdv A outer s H E M H0 hr).h
theorem law_ok {P : Program} {w : World} {K : PySem.W.Frag} {mg : Str → Option Value} {base : Heap} {k : Nat} {f : Addr} {fd : FuncData} {F : List Sl → Option Rv} (G : FnOk P w K mg base CX0 k f fd ["_law_script"] (spD K F))
    (h : ∀ ns : List Int, ns.length ≤ 63 → F [.val (.lst (ns.map D.int))] = some (.val (.bl true))) : FnOk P w K mg base CX0 k f fd ["_law_script"] (spLaw K) :=
  G.imp fun vs H Q E ⟨a, ns, e, hs, hl, q⟩ => by
    refine ⟨fun _ => False, [.val (.lst (ns.map D.int))], .val (.bl true), fun _ z => z.elim, ⟨_, [], e, ?_, rfl⟩, h ns hl, fun v H' s hv => ?_⟩
    · simp only [ArgOk, Den]
      exact ⟨a, _, rfl, .of_sq hs, DenL.ints ns⟩
    · simp only [RvOk, Den] at hv
      subst hv; exact q H'
end L2
set_option Elab.async false
set_option linter.all false
set_option maxRecDepth 100000
namespace L2
open PySem PySem.Spec PyProof.Rows
section
variable {K : PySem.W.Frag}
@[simp] def i2 (g : Int → Int → Option D) : D → D → Option D
  | .int i, .int j => g i j
  | _, _ => none
theorem i2_inv {g : Int → Int → Option D} {x y d : D} (h : i2 g x y = some d) : ∃ i j, x = .int i ∧ y = .int j ∧ g i j = some d := by
  unfold i2 at h
  split at h
  · exact ⟨_, _, rfl, rfl, h⟩
  · cases h
theorem DenP.int {N : Fb} {H : Hp} {i : Int} {v : V} (h : DenP K N H (.int i) v) : v = .int i := by simpa only [DenP, Den] using h
theorem DenP.str {N : Fb} {H : Hp} {i : Str} {v : V} (h : DenP K N H (.str i) v) : v = .str i := by simpa only [DenP, Den] using h
theorem DenP.bl {N : Fb} {H : Hp} {i : Bool} {v : V} (h : DenP K N H (.bl i) v) : v = .bl i := by simpa only [DenP, Den] using h
theorem DenP.non {N : Fb} {H : Hp} {v : V} (h : DenP K N H .non v) : v = .non := by simpa only [DenP, Den] using h
theorem DenP.ty {N : Fb} {H : Hp} {i : String} {v : V} (h : DenP K N H (.ty i) v) : v = .ty i := by simpa only [DenP, Den] using h
theorem DenP.tup {N : Fb} {H : Hp} {xs : List D} {v : V} (h : DenP K N H (.tup xs) v) : ∃ a vs, v = .ref a ∧ SqT K H a vs ∧ DenL K N H xs vs := by simpa only [DenP, Den] using h
theorem den_int {N : Fb} {H : Hp} {i : Int} : Den K N H (.int i) (.int i) := by simp only [Den]
theorem den_bl {N : Fb} {H : Hp} {i : Bool} : Den K N H (.bl i) (.bl i) := by simp only [Den]
theorem den_str {N : Fb} {H : Hp} {i : Str} : Den K N H (.str i) (.str i) := by simp only [Den]
theorem r2_i0 (g : Int → Int → Int) : R2D K (rI0 fun i j => .int (g i j)) (i2 fun i j => some (.int (g i j))) := by
  intro N H x y d1 d2 d Q nh h1 h2 e q
  obtain ⟨i, j, rfl, rfl, e⟩ := i2_inv e
  cases e
  exact ⟨i, j, h1.int, h2.int, q _ H (Same.refl H) den_int⟩
theorem r2_b0 (g : Int → Int → Bool) : R2D K (rI0 fun i j => .bl (g i j)) (i2 fun i j => some (.bl (g i j))) := by
  intro N H x y d1 d2 d Q nh h1 h2 e q
  obtain ⟨i, j, rfl, rfl, e⟩ := i2_inv e
  cases e
  exact ⟨i, j, h1.int, h2.int, q _ H (Same.refl H) den_bl⟩
theorem r2_i {C : Int → Int → Prop} [∀ i j, Decidable (C i j)] (g : Int → Int → Int) : R2D K (rI C fun i j => .int (g i j)) (i2 fun i j => if C i j then some (.int (g i j)) else none) := by
  intro N H x y d1 d2 d Q nh h1 h2 e q
  obtain ⟨i, j, rfl, rfl, e'⟩ := i2_inv e
  split at e'
  · next hc => cases e'; exact ⟨i, j, h1.int, h2.int, hc, q _ H (Same.refl H) den_int⟩
  · cases e'
instance (i j : Int) : Decidable (CDiv i j) := by unfold CDiv; exact inferInstance
instance (i j : Int) : Decidable (CMul i j) := by unfold CMul; exact inferInstance
instance (i j : Int) : Decidable (CPow i j) := by unfold CPow; exact inferInstance
@[simp] def subD : D → D → Option D := i2 fun i j => some (.int (i - j))
@[simp] def mulD : D → D → Option D := i2 fun i j => if CMul i j then some (.int (i * j)) else none
@[simp] def fdivD : D → D → Option D := i2 fun i j => if CDiv i j then some (.int (i / j)) else none
@[simp] def modD : D → D → Option D := i2 fun i j => if 0 < j then some (.int (i % j)) else none
@[simp] def powD : D → D → Option D := i2 fun i j => if CPow i j then some (.int (i ^ j.toNat)) else none
@[simp] def leD : D → D → Option D := i2 fun i j => some (.bl (decide (i ≤ j)))
@[simp] def gtD : D → D → Option D := i2 fun i j => some (.bl (decide (j < i)))
@[simp] def geD : D → D → Option D := i2 fun i j => some (.bl (decide (j ≤ i)))
section
variable {X : Cx} {M : Fb} {H0 : Hp} {a b : Expr} {f g : VE → Option D} {pos : Pos}
theorem ve_sub (ha : PE X a (tP K M H0 f)) (hb : PE X b (tP K M H0 g)) : PE X (.BinOp a .Sub b pos) (tD K M H0 (bin2 subD f g)) := ve_op op_sub (r2_i0 _) ha hb
theorem j_ve_sub (ha : JE X a (tP K M H0 f)) (hb : JE X b (tP K M H0 g)) : JE X (.BinOp a .Sub b pos) (tD K M H0 (bin2 subD f g)) := ⟨ve_sub ha.h hb.h⟩
theorem ve_mul (ha : PE X a (tP K M H0 f)) (hb : PE X b (tP K M H0 g)) : PE X (.BinOp a .Mult b pos) (tD K M H0 (bin2 mulD f g)) := ve_op op_mul (r2_i _) ha hb
theorem j_ve_mul (ha : JE X a (tP K M H0 f)) (hb : JE X b (tP K M H0 g)) : JE X (.BinOp a .Mult b pos) (tD K M H0 (bin2 mulD f g)) := ⟨ve_mul ha.h hb.h⟩
theorem ve_fdiv (ha : PE X a (tP K M H0 f)) (hb : PE X b (tP K M H0 g)) : PE X (.BinOp a .FloorDiv b pos) (tD K M H0 (bin2 fdivD f g)) := ve_op op_fdiv (r2_i _) ha hb
theorem j_ve_fdiv (ha : JE X a (tP K M H0 f)) (hb : JE X b (tP K M H0 g)) : JE X (.BinOp a .FloorDiv b pos) (tD K M H0 (bin2 fdivD f g)) := ⟨ve_fdiv ha.h hb.h⟩
theorem ve_mod (ha : PE X a (tP K M H0 f)) (hb : PE X b (tP K M H0 g)) : PE X (.BinOp a .Mod b pos) (tD K M H0 (bin2 modD f g)) := ve_op op_mod (r2_i _) ha hb
theorem j_ve_mod (ha : JE X a (tP K M H0 f)) (hb : JE X b (tP K M H0 g)) : JE X (.BinOp a .Mod b pos) (tD K M H0 (bin2 modD f g)) := ⟨ve_mod ha.h hb.h⟩
theorem ve_pow (ha : PE X a (tP K M H0 f)) (hb : PE X b (tP K M H0 g)) : PE X (.BinOp a .Pow b pos) (tD K M H0 (bin2 powD f g)) := ve_op op_pow (r2_i _) ha hb
theorem j_ve_pow (ha : JE X a (tP K M H0 f)) (hb : JE X b (tP K M H0 g)) : JE X (.BinOp a .Pow b pos) (tD K M H0 (bin2 powD f g)) := ⟨ve_pow ha.h hb.h⟩
@[simp] def negD : Option D → Option D
  | some (.int i) => some (.int (-i))
  | _ => none
end
end
section
variable {X : Cx}
def rCatG (K : PySem.W.Frag) : R2 := fun x y H Q => ∃ l b xs zs, x = .ref l ∧ y = .ref b ∧ SqL K H l xs ∧ SqL K H b zs ∧ xs.length + zs.length ≤ sizeLine ∧ ∀ p, H p = none → Q (.ref p) (upd H p (.lst (xs ++ zs)))
theorem op_catG : OpR X (binaryOp .Add) (rCatG X.K) := by
  intro pins s σ H x y v u Q I rx ry h
  obtain ⟨l, b, xs, zs, rfl, rfl, hH, hB, hz, q⟩ := h
  cases rx
  cases ry
  obtain ⟨its, r, p1, z1⟩ := I.list hH
  obtain ⟨its2, r2, p2, z2⟩ := I.list hB
  have hl := r.length
  have hl2 := r2.length
  obtain ⟨⟨cls, dd, data, sl⟩, ho, hc, n, hd⟩ := p1.isList
  obtain ⟨⟨cls2, dd2, data2, sl2⟩, ho2, hc2, n2, hd2⟩ := p2.isList
  simp only at hc hd hc2 hd2
  subst hc hd hc2 hd2
  have e : its.toArray ++ its2.toArray = (its ++ its2).toArray := by simp
  refine concat_meets ⟨_, ho, rfl⟩ ⟨_, ho2, rfl⟩ noFill_list_add seq_list_add PySem.F.slot_list_add PySem.F.entry_list_add (PySem.F.args_list_add_2 _ _) (list_addW l b its.toArray its2.toArray n n2 dd dd2 sl sl2 (by rw [List.size_toArray, List.size_toArray]; omega)) ⟨ho, ho2, ?_⟩
  rw [e]
  exact ⟨.ref _, _, I.lnew (t' := s.toks) (r.append r2) (by rw [List.length_append]; omega), rfl, q _ I.fresh⟩
def rCatGT (K : PySem.W.Frag) : R2 := fun x y H Q => ∃ l b xs zs, x = .ref l ∧ y = .ref b ∧ SqT K H l xs ∧ SqT K H b zs ∧ xs.length + zs.length ≤ sizeLine ∧
  (xs = [] → Q (.ref b) H) ∧ (zs = [] → Q (.ref l) H) ∧ ∀ p, H p = none → Q (.ref p) (upd H p (.tup (xs ++ zs)))
theorem op_catGT : OpR X (binaryOp .Add) (rCatGT X.K) := by
  intro pins s σ H x y v u Q I rx ry h
  obtain ⟨l, b, xs, zs, rfl, rfl, hH, hB, hz, qx, qz, q⟩ := h
  cases rx
  cases ry
  obtain ⟨its, r, p1, z1⟩ := I.tuple hH
  obtain ⟨its2, r2, p2, z2⟩ := I.tuple hB
  have hl := r.length
  have hl2 := r2.length
  obtain ⟨⟨cls, dd, data, sl⟩, ho, hc, n, hd⟩ := id p1
  obtain ⟨⟨cls2, dd2, data2, sl2⟩, ho2, hc2, n2, hd2⟩ := id p2
  simp only at hc hd hc2 hd2
  subst hc hd hc2 hd2
  by_cases h1 : xs = []
  · have hi : its.toArray.isEmpty = true := by
      subst h1
      have : its = [] := List.length_eq_zero_iff.mp hl.symm
      subst this; rfl
    exact concat_meets ⟨_, ho, rfl⟩ ⟨_, ho2, rfl⟩ noFill_tuple_add seq_tuple_add PySem.F.slot_tuple_add PySem.F.entry_tuple_add (PySem.F.args_tuple_add_2 _ _) (tuple_addW0 l b its.toArray its2.toArray n n2 dd dd2 sl sl2 hi) ⟨ho, ho2, ⟨.ref b, H, I, rfl, qx h1⟩⟩
  · have hi : ¬ its.toArray.isEmpty = true := by
      intro z
      have : its = [] := by simpa using z
      subst this
      exact h1 (List.length_eq_zero_iff.mp hl)
    by_cases h2 : zs = []
    · have hi2 : its2.toArray.isEmpty = true := by
        subst h2
        have : its2 = [] := List.length_eq_zero_iff.mp hl2.symm
        subst this; rfl
      exact concat_meets ⟨_, ho, rfl⟩ ⟨_, ho2, rfl⟩ noFill_tuple_add seq_tuple_add PySem.F.slot_tuple_add PySem.F.entry_tuple_add (PySem.F.args_tuple_add_2 _ _) (tuple_addW1 l b its.toArray its2.toArray n n2 dd dd2 sl sl2 hi hi2) ⟨ho, ho2, ⟨.ref l, H, I, rfl, qz h2⟩⟩
    · have hi2 : ¬ its2.toArray.isEmpty = true := by
        intro z
        have : its2 = [] := by simpa using z
        subst this
        exact h2 (List.length_eq_zero_iff.mp hl2)
      have e : its.toArray ++ its2.toArray = (its ++ its2).toArray := by simp
      refine concat_meets ⟨_, ho, rfl⟩ ⟨_, ho2, rfl⟩ noFill_tuple_add seq_tuple_add PySem.F.slot_tuple_add PySem.F.entry_tuple_add (PySem.F.args_tuple_add_2 _ _) (tuple_addW2 l b its.toArray its2.toArray n n2 dd dd2 sl sl2 hi hi2 (by rw [List.size_toArray, List.size_toArray]; omega)) ⟨ho, ho2, ?_⟩
      rw [e]
      refine ⟨.ref s.heap.objs.size, upd H s.heap.objs.size (.tup (xs ++ zs)), I.laid (t' := s.toks) (fun b u e => Heap.get?_push_of_some _ e) (Nat.le_refl _) ?_, rfl, q _ I.fresh⟩
      exact ⟨by rw [List.length_append]; omega, its ++ its2, r.append r2, IsTup.new _ _⟩
end
@[simp] def addD : D → D → Option D
  | .int i, .int j => some (.int (i + j))
  | .str x, .str y => if x.length + y.length ≤ sizeLine then some (.str (x ++ y)) else none
  | .lst xs, .lst ys => if xs.length + ys.length ≤ sizeLine then some (.lst (xs ++ ys)) else none
  | .tup xs, .tup ys => if xs.length + ys.length ≤ sizeLine then some (.tup (xs ++ ys)) else none
  | _, _ => none
def rAddD (K : PySem.W.Frag) : R2 := fun x y H Q => rI0 (fun i j => .int (i + j)) x y H Q ∨ (∃ i j, x = .str i ∧ y = .str j ∧ i.length + j.length ≤ sizeLine ∧ Q (.str (i ++ j)) H) ∨ rCatG K x y H Q ∨ rCatGT K x y H Q
theorem op_addD {X : Cx} : OpR X (binaryOp .Add) (rAddD X.K) := op_add.or (op_add_str.or (op_catG.or op_catGT))
theorem den_newL {K : PySem.W.Frag} {N : Fb} {H : Hp} {xs : List D} {vs : List V} {p : Addr} (nh : ∀ a, N a → H a ≠ none) (hp : H p = none) (h : DenL K N H xs vs) : Den K N (upd H p (.lst vs)) (.lst xs) (.ref p) := by
  simp only [Den]
  exact ⟨p, vs, rfl, .of (fun z => nh p z hp) upd_same, h.same (same_new hp)⟩
theorem den_newT {K : PySem.W.Frag} {N : Fb} {H : Hp} {xs : List D} {vs : List V} {p : Addr} (hp : H p = none) (h : DenL K N H xs vs) : Den K N (upd H p (.tup vs)) (.tup xs) (.ref p) := by
  simp only [Den]
  exact ⟨p, vs, rfl, SqT.of upd_same, h.same (same_new hp)⟩
theorem r2_add {K : PySem.W.Frag} : R2D K (rAddD K) addD := by
  intro N H x y d1 d2 d Q nh h1 h2 e q
  unfold addD at e
  split at e
  · cases e; exact .inl ⟨_, _, h1.int, h2.int, q _ H (Same.refl H) den_int⟩
  · split at e
    · next hz => cases e; exact .inr (.inl ⟨_, _, h1.str, h2.str, hz, q _ H (Same.refl H) den_str⟩)
    · cases e
  · split at e
    · next hz =>
      cases e
      obtain ⟨a, vs, e1, q1, r1⟩ := h1
      obtain ⟨b, ws, e2, q2, r2⟩ := h2
      exact .inr (.inr (.inl ⟨a, b, vs, ws, e1, e2, q1, q2, by rw [← r1.length, ← r2.length]; exact hz, fun p hp => q _ _ (same_new hp) (den_newL nh hp (r1.append r2))⟩))
    · cases e
  · split at e
    · next hz =>
      cases e
      obtain ⟨a, vs, e1, q1, r1⟩ := h1.tup
      obtain ⟨b, ws, e2, q2, r2⟩ := h2.tup
      refine .inr (.inr (.inr ⟨a, b, vs, ws, e1, e2, q1, q2, by rw [← r1.length, ← r2.length]; exact hz, fun z => ?_, fun z => ?_, fun p hp => q _ _ (same_new hp) (den_newT hp (r1.append r2))⟩))
      · refine q _ H (Same.refl H) ?_
        simp only [Den]
        exact ⟨b, vs ++ ws, rfl, by rw [z]; exact q2, r1.append r2⟩
      · refine q _ H (Same.refl H) ?_
        simp only [Den]
        exact ⟨a, vs ++ ws, rfl, by rw [z, List.append_nil]; exact q1, r1.append r2⟩
    · cases e
  · cases e
theorem ve_add {X : Cx} {M : Fb} {H0 : Hp} {a b : Expr} {f g : VE → Option D} {pos : Pos} (ha : PE X a (tP X.K M H0 f)) (hb : PE X b (tP X.K M H0 g)) : PE X (.BinOp a .Add b pos) (tD X.K M H0 (bin2 addD f g)) := ve_op op_addD r2_add ha hb
theorem j_ve_add {X : Cx} {M : Fb} {H0 : Hp} {a b : Expr} {f g : VE → Option D} {pos : Pos} (ha : JE X a (tP X.K M H0 f)) (hb : JE X b (tP X.K M H0 g)) : JE X (.BinOp a .Add b pos) (tD X.K M H0 (bin2 addD f g)) := ⟨ve_add ha.h hb.h⟩
section
variable {prog : Program} {w : World} {A : Around} {E : Value → Shared → Prop} {s : Shared}
theorem getItem_tuple_whole {t sl : Addr} {items : Array Value} {vl vu : Value} {lo hi : Option Int} {Q : Value → Shared → Prop} (ht : IsTup s.heap t items) (hs : s.heap.IsSliceOf sl vl vu .none) (pl : IsPart vl lo) (pu : IsPart vu hi)
    (hw : HT.sIx items.size 0 lo = 0 ∧ HT.sIx items.size items.size hi = items.size) (h : Q (.ref t) s) : wpAny (model prog w) A (getItem (.ref t) (.ref sl)) Q E s := by
  obtain ⟨os, hos, hcs, hds⟩ := id hs
  have hTs : s.TypeIs (.ref sl) "slice" := ⟨os, hos, hcs⟩
  unfold getItem
  try with_reducible refine wpAny_holding ?_
  first | refine wpAny_bind (wpAny_pure ?_) | skip
  refine wpAny_bind (wpAny_sequenceKey ht.typeIs (by decide) ?_)
  refine wpAny_bind (wpAny_callSpecial?_slot (name := Str.ofString "__getitem__") ht.typeIs PyProof.Rows.slot_tuple_getitem
    (wpAny_call_entry PyProof.Rows.slot_tuple_getitem ht.typeIs entry_tuple_getitem ?_ (args_tuple_getitem _ _)))
  show wpAny _ _ (Builtin.Tuple.tupleItemsOf (.ref t) >>= _) _ _ s
  refine wpAny_bind (PyProof.Rows.tupleItemsOf_ ht ?_)
  refine wpAny_bind (wpAny_typeOf hTs ?_)
  rw [if_pos (by decide)]
  refine wpAny_bind (HT.sliceApplied_gen hs pl pu ?_)
  have hyes : (((HT.sIx items.size 0 lo : Nat) : Int) == 0 && (1 : Int) == 1 && (HT.sIx items.size items.size hi - HT.sIx items.size 0 lo) == items.size) = true := by
    rw [hw.1, hw.2]; simp
  show wpAny _ _ (if (((HT.sIx items.size 0 lo : Nat) : Int) == 0 && (1 : Int) == 1 && (HT.sIx items.size items.size hi - HT.sIx items.size 0 lo) == items.size) = true then _ else _) _ _ s
  rw [if_pos hyes]
  unfold Builtin.Tuple.tupleIsExact
  refine wpAny_bind (wpAny_bind (wpAny_typeOf ht.typeIs (wpAny_pure ?_)))
  rw [if_pos (by decide)]
  exact wpAny_bind (wpAny_rule (wpAny_pure ⟨_, rfl, wpAny_pure h⟩))
end
def rSlTG (K : PySem.W.Frag) : V → Option Int → Option Int → Hp → VK → Prop := fun x lo hi H Q => ∃ a xs, x = .ref a ∧ SqT K H a xs ∧ (cutV xs lo hi = xs → Q (.ref a) H) ∧ ∀ p, H p = none → Q (.ref p) (upd H p (.tup (cutV xs lo hi)))
theorem sl_tupG {X : Cx} : SlR X (rSlTG X.K) := by
  intro pins s σ H x v vl vu lo hi sl Q I rx hs pl pu h
  obtain ⟨a, xs, rfl, hx, qw, q⟩ := h
  by_cases hw : HT.sIx xs.length 0 lo = 0 ∧ HT.sIx xs.length xs.length hi = xs.length
  · cases rx
    obtain ⟨its, r, ht, hz⟩ := I.tuple hx
    have hlen : its.toArray.size = xs.length := by rw [List.size_toArray]; exact r.length.symm
    refine ⟨"tuple", _, PyProof.Rows.slot_tuple_getitem.lookup, ht.typeIs, getItem_tuple_whole ht hs pl pu (by rw [hlen]; exact hw) ⟨.ref a, H, I, rfl, qw ?_⟩⟩
    unfold cutV
    rw [hw.1, hw.2, List.drop_zero, Nat.sub_zero, List.take_length]
  · exact sl_tup pins s σ H _ v vl vu lo hi sl Q I rx hs pl pu ⟨a, xs, rfl, hx, hw, q⟩
@[simp] def ixD : D → D → Option D
  | .lst xs, .int i => atI xs i
  | .tup xs, .int i => atI xs i
  | .str x, .int i => if x.length ≤ sizeLine then (atI x.cps.toList i).map fun c => .str ⟨#[c]⟩ else none
  | _, _ => none
theorem DenL.atI {K : PySem.W.Frag} {N : Fb} {H : Hp} {xs : List D} {vs : List V} {i : Int} {d : D} (h : DenL K N H xs vs) (e : L2.atI xs i = some d) : ∃ v, L2.atI vs i = some v ∧ Den K N H d v := by
  unfold L2.atI at e ⊢
  rw [← h.length]
  cases hj : ixN xs.length i with
  | none => rw [hj] at e; cases e
  | some j => rw [hj] at e; exact h.get e
theorem r2_ix {K : PySem.W.Frag} : R2D K (rIx K) ixD := by
  intro N H x y d1 d2 d Q nh h1 h2 e q
  unfold ixD at e
  split at e
  · obtain ⟨a, vs, e1, q1, r1⟩ := h1
    obtain ⟨v, ev, hv⟩ := r1.atI e
    exact .inl ⟨a, vs, _, v, e1, h2.int, q1, ev, q v H (Same.refl H) hv⟩
  · obtain ⟨a, vs, e1, q1, r1⟩ := h1.tup
    obtain ⟨v, ev, hv⟩ := r1.atI e
    exact .inr (.inl ⟨a, vs, _, v, e1, h2.int, q1, ev, q v H (Same.refl H) hv⟩)
  · split at e
    · next z i hz =>
      cases hc : atI z.cps.toList i with
      | none => rw [hc] at e; cases e
      | some c => rw [hc] at e; cases e; exact .inr (.inr ⟨z, i, c, h1.str, h2.int, hz, hc, q _ H (Same.refl H) den_str⟩)
    · cases e
  · cases e
section
variable {X : Cx} {K : PySem.W.Frag} {M : Fb} {H0 : Hp} {a b e : Expr} {f g : VE → Option D} {pos p2 : Pos}
theorem ve_item (ha : PE X a (tP X.K M H0 f)) (hb : PE X b (tP X.K M H0 g)) (hs : PlainIx b) : PE X (.Subscript a b pos) (tD X.K M H0 (bin2 ixD f g)) := ve_ix ix_seq r2_ix ha hb hs
theorem j_ve_item (ha : JE X a (tP X.K M H0 f)) (hb : JE X b (tP X.K M H0 g)) (hs : PlainIx b) : JE X (.Subscript a b pos) (tD X.K M H0 (bin2 ixD f g)) := ⟨ve_item ha.h hb.h hs⟩
def tO (K : PySem.W.Frag) (M : Fb) (H0 : Hp) (o : VE → Option (Option Int)) : TO := fun σ H Q => ∃ ρ i, Rel K M H0 ρ σ H ∧ o ρ = some i ∧ ∀ H', Same H H' → Q i H'
@[simp] def asI : Option D → Option (Option Int)
  | some (.int i) => some (some i)
  | _ => none
theorem PO.mono {e : Option Expr} {t t' : TO} (h : PO X e t) (m : ∀ σ H Q, t' σ H Q → t σ H Q) : PO X e t' := by
  intro pins s σ H Q I q
  exact h pins s σ H Q I (m σ H Q q)
theorem vo_none : PO X none (tO K M H0 fun _ => some none) := PO.mono po_none fun σ H Q ⟨ρ, i, R, e, q⟩ => by (try dsimp only at e q); cases e; exact q H (Same.refl H)
theorem j_vo_none  : JO X none (tO K M H0 fun _ => some none) := ⟨vo_none ⟩
theorem vo_some (h : PE X e (tP K M H0 f)) : PO X (some e) (tO K M H0 fun ρ => asI (f ρ)) := PO.mono (po_some h) fun σ H Q ⟨ρ, i, R, e, q⟩ => by
  try dsimp only at e q
  unfold asI at e
  split at e
  · next j hf => cases e; exact ⟨ρ, .int j, R, hf, fun v H' s hv => ⟨j, hv.int, q H' s⟩⟩
  · cases e
theorem j_vo_some (h : JE X e (tP K M H0 f)) : JO X (some e) (tO K M H0 fun ρ => asI (f ρ)) := ⟨vo_some h.h⟩
def cutD {α : Type} (xs : List α) (lo hi : Option Int) : List α := (xs.drop (HT.sIx xs.length 0 lo)).take (HT.sIx xs.length xs.length hi - HT.sIx xs.length 0 lo)
@[simp] def slD (x : D) (lo hi : Option Int) : Option D := match x with
  | .lst xs => some (.lst (cutD xs lo hi))
  | .tup xs => some (.tup (cutD xs lo hi))
  | .str x => if x.length ≤ sizeLine then some (.str (Txt.slice x lo hi)) else none
  | _ => none
@[simp] def slL (x : D) (lo hi : Option Int) : Option (List D) := match x with
  | .lst xs => some (cutD xs lo hi)
  | _ => none
theorem DenL.cut {K : PySem.W.Frag} {N : Fb} {H : Hp} {xs : List D} {vs : List V} (h : DenL K N H xs vs) (lo hi : Option Int) : DenL K N H (cutD xs lo hi) (cutV vs lo hi) := by
  unfold cutD cutV
  rw [h.length]
  exact (h.drop _).take _
@[simp] def sl3 {α : Type} (f : VE → Option D) (lo hi : VE → Option (Option Int)) (F : D → Option Int → Option Int → Option α) : VE → Option α := fun ρ => (f ρ).bind fun x => (lo ρ).bind fun l => (hi ρ).bind fun h => F x l h
theorem sl3_inv {α : Type} {f : VE → Option D} {lo hi : VE → Option (Option Int)} {F : D → Option Int → Option Int → Option α} {ρ : VE} {d : α} (h : sl3 f lo hi F ρ = some d) : ∃ x l u, f ρ = some x ∧ lo ρ = some l ∧ hi ρ = some u ∧ F x l u = some d := by
  unfold sl3 at h
  cases hf : f ρ with
  | none => rw [hf] at h; cases h
  | some x =>
    cases hl : lo ρ with
    | none => rw [hf, hl] at h; cases h
    | some l =>
      cases hu : hi ρ with
      | none => rw [hf, hl, hu] at h; cases h
      | some u => rw [hf, hl, hu] at h; exact ⟨x, l, u, rfl, rfl, rfl, h⟩
theorem ve_slice {el eu : Option Expr} {lo hi : VE → Option (Option Int)} (he : PE X e (tP X.K M H0 f)) (hl : PO X el (tO X.K M H0 lo)) (hu : PO X eu (tO X.K M H0 hi)) :
    PE X (.Subscript e (.Slice el eu none p2) pos) (tD X.K M H0 (sl3 f lo hi slD)) := (pe_slice (sl_list.or (sl_tupG.or sl_str)) he hl hu).mono fun σ H Q ⟨ρ, d, R, ex, q⟩ => by
  try dsimp only at ex q
  obtain ⟨x, l, u, e1, e2, e3, e4⟩ := sl3_inv ex
  refine ⟨ρ, x, R, e1, fun v H1 s1 hv => ⟨ρ, l, R.st s1, e2, fun H2 s2 => ⟨ρ, u, (R.st s1).st s2, e3, fun H3 s3 => ?_⟩⟩⟩
  have hv := (hv.same s2).same s3
  have s := (s1.trans s2).trans s3
  have R3 := R.st s
  unfold slD at e4
  split at e4
  · cases e4
    obtain ⟨a, vs, ea, qa, ra⟩ := hv
    exact .inl ⟨a, vs, ea, qa, fun p hp => q _ _ (s.trans (same_new hp)) (den_newL R3.nh hp (ra.cut l u))⟩
  · cases e4
    obtain ⟨a, vs, ea, qa, ra⟩ := hv.tup
    refine .inr (.inl ⟨a, vs, ea, qa, fun z => q _ _ s ?_, fun p hp => q _ _ (s.trans (same_new hp)) (den_newT hp (ra.cut l u))⟩)
    simp only [Den]
    exact ⟨a, vs, rfl, qa, z ▸ ra.cut l u⟩
  · split at e4
    · next hz => cases e4; exact .inr (.inr ⟨_, hv.str, hz, q _ _ s den_str⟩)
    · cases e4
  · cases e4
theorem j_ve_slice {el eu : Option Expr} {lo hi : VE → Option (Option Int)} (he : JE X e (tP X.K M H0 f)) (hl : JO X el (tO X.K M H0 lo)) (hu : JO X eu (tO X.K M H0 hi)) : JE X (.Subscript e (.Slice el eu none p2) pos) (tD X.K M H0 (sl3 f lo hi slD)) := ⟨ve_slice he.h hl.h hu.h⟩
end
end L2
set_option Elab.async false
set_option linter.all false
set_option maxRecDepth 100000
namespace L2
open PySem PySem.Spec PyProof.Rows
mutual
def eqD : D → D → Bool
  | .non, .non => true
  | .bl a, .bl b => a == b
  | .bl a, .int b => (if a then 1 else 0) == b
  | .int a, .bl b => a == (if b then 1 else 0)
  | .int a, .int b => a == b
  | .str a, .str b => a == b
  | .tup xs, .tup ys => eqDs xs ys
  | .lst xs, .lst ys => eqDs xs ys
  | _, _ => false
def eqDs : List D → List D → Bool
  | [], [] => true
  | x :: xs, y :: ys => eqD x y && eqDs xs ys
  | _, _ => false
end
@[simp] def okD : Nat → D → Bool
  | _, .non => true
  | _, .bl _ => true
  | _, .int _ => true
  | _, .str _ => true
  | n + 1, .tup xs => xs.all (okD n)
  | n + 1, .lst xs => xs.all (okD n)
  | _, _ => false
mutual
theorem eqD_refl : ∀ (n : Nat) (d : D), okD n d = true → eqD d d = true
  | _, .non, _ => by simp only [eqD]
  | _, .bl _, _ => by simp only [eqD, beq_self_eq_true]
  | _, .int _, _ => by simp only [eqD, beq_self_eq_true]
  | _, .str _, _ => by simp only [eqD, beq_self_eq_true]
  | 0, .ty _, h => by simp [okD] at h
  | _ + 1, .ty _, h => by simp [okD] at h
  | 0, .tup xs, h => by simp [okD] at h
  | 0, .lst xs _, h => by simp [okD] at h
  | n + 1, .tup xs, h => by simp only [okD] at h; simp only [eqD]; exact eqDs_refl n xs h
  | n + 1, .lst xs false, h => by simp only [okD] at h; simp only [eqD]; exact eqDs_refl n xs h
  | n + 1, .lst xs true, h => by simp [okD] at h
theorem eqDs_refl : ∀ (n : Nat) (xs : List D), xs.all (okD n) = true → eqDs xs xs = true
  | _, [], _ => by simp only [eqDs]
  | n, x :: xs, h => by
    simp only [List.all_cons, Bool.and_eq_true] at h
    simp only [eqDs, Bool.and_eq_true]
    exact ⟨eqD_refl n x h.1, eqDs_refl n xs h.2⟩
end
theorem eqDs_len : ∀ {xs ys : List D}, xs.length ≠ ys.length → eqDs xs ys = false
  | [], [], h => absurd rfl h
  | [], _ :: _, _ => by simp only [eqDs]
  | _ :: _, [], _ => by simp only [eqDs]
  | x :: xs, y :: ys, h => by
    simp only [eqDs]
    rw [eqDs_len (xs := xs) (ys := ys) (by simpa using h), Bool.and_false]
theorem eqDs_all : ∀ {xs ys : List D}, xs.length = ys.length → eqDs xs ys = (List.range xs.length).all fun j => eqD (xs.getD j .non) (ys.getD j .non)
  | [], [], _ => by simp [eqDs]
  | [], _ :: _, h => by simp at h
  | _ :: _, [], h => by simp at h
  | x :: xs, y :: ys, h => by
    have ih := eqDs_all (xs := xs) (ys := ys) (by simpa using h)
    simp only [eqDs, List.length_cons, List.range_succ_eq_map, List.all_cons, List.getD_cons_zero, List.all_map, ih]
    rfl
section
variable {X : Cx} {pins : List (Addr × Obj)} {σ : St} {H : Hp} {s : Shared}
theorem Inv.apart (I : Inv X pins σ H s) {a : Addr} {xs ys : List V} (h : SqL X.K H a xs) (h' : SqT X.K H a ys) : False := by
  obtain ⟨its, r, ⟨o, n, e, c, _⟩, _⟩ := I.list h
  obtain ⟨its', r', ⟨o', e', c', _⟩, _⟩ := I.tuple h'
  rw [e] at e'; cases e'
  rw [c] at c'
  exact absurd c' (by decide)
theorem Rd.dct_inj {H : Hp} {a : Addr} {ks ks' : List KT} {vs vs' : List V} (h : Rd H a (.dct ks vs)) (h' : Rd H a (.dct ks' vs')) : vs = vs' := by
  rcases h with h | ⟨o, h⟩ <;> rcases h' with h' | ⟨o', h'⟩ <;> (rw [h] at h'; cases h'; try rfl)
theorem Inv.apartDL (I : Inv X pins σ H s) {a : Addr} {ks : List KT} {xs ys : List V} (h : Rd H a (.dct ks xs)) (h' : SqL X.K H a ys) : False := by
  obtain ⟨_, _, _, o, _, _, e, c, _⟩ := h.ok I.hok
  obtain ⟨its', r', ⟨o', n', e', c', _⟩, _⟩ := I.list h'
  rw [e] at e'; cases e'
  rw [c.1] at c'
  exact absurd c' (by decide)
theorem Inv.apartDT (I : Inv X pins σ H s) {a : Addr} {ks : List KT} {xs ys : List V} (h : Rd H a (.dct ks xs)) (h' : SqT X.K H a ys) : False := by
  obtain ⟨_, _, _, o, _, _, e, c, _⟩ := h.ok I.hok
  obtain ⟨its', r', ⟨o', e', c', _⟩, _⟩ := I.tuple h'
  rw [e] at e'; cases e'
  rw [c.1] at c'
  exact absurd c' (by decide)
mutual
/-- what an address denotes is one thing -/
theorem den_inj (I : Inv X pins σ H s) {N N' : Fb} : ∀ (d d' : D) (v : V), DenP X.K N H d v → DenP X.K N' H d' v → d = d'
  | .non, d', v, h, h' => by
    have h := h.non
    cases d' with
    | non => rfl
    | bl _ => rw [h'.bl] at h; cases h
    | int _ => rw [h'.int] at h; cases h
    | str _ => rw [h'.str] at h; cases h
    | ty _ => rw [h'.ty] at h; cases h
    | tup _ => obtain ⟨_, _, e, _⟩ := h'.tup; rw [e] at h; cases h
    | lst _ fl => cases fl <;> (obtain ⟨_, _, e, _⟩ := h'; rw [e] at h; cases h)
  | .bl _, d', v, h, h' => by
    have h := h.bl
    cases d' with
    | non => rw [h'.non] at h; cases h
    | bl _ => rw [h'.bl] at h; cases h; rfl
    | int _ => rw [h'.int] at h; cases h
    | str _ => rw [h'.str] at h; cases h
    | ty _ => rw [h'.ty] at h; cases h
    | tup _ => obtain ⟨_, _, e, _⟩ := h'.tup; rw [e] at h; cases h
    | lst _ fl => cases fl <;> (obtain ⟨_, _, e, _⟩ := h'; rw [e] at h; cases h)
  | .int _, d', v, h, h' => by
    have h := h.int
    cases d' with
    | non => rw [h'.non] at h; cases h
    | bl _ => rw [h'.bl] at h; cases h
    | int _ => rw [h'.int] at h; cases h; rfl
    | str _ => rw [h'.str] at h; cases h
    | ty _ => rw [h'.ty] at h; cases h
    | tup _ => obtain ⟨_, _, e, _⟩ := h'.tup; rw [e] at h; cases h
    | lst _ fl => cases fl <;> (obtain ⟨_, _, e, _⟩ := h'; rw [e] at h; cases h)
  | .str _, d', v, h, h' => by
    have h := h.str
    cases d' with
    | non => rw [h'.non] at h; cases h
    | bl _ => rw [h'.bl] at h; cases h
    | int _ => rw [h'.int] at h; cases h
    | str _ => rw [h'.str] at h; cases h; rfl
    | ty _ => rw [h'.ty] at h; cases h
    | tup _ => obtain ⟨_, _, e, _⟩ := h'.tup; rw [e] at h; cases h
    | lst _ fl => cases fl <;> (obtain ⟨_, _, e, _⟩ := h'; rw [e] at h; cases h)
  | .ty _, d', v, h, h' => by
    have h := h.ty
    cases d' with
    | non => rw [h'.non] at h; cases h
    | bl _ => rw [h'.bl] at h; cases h
    | int _ => rw [h'.int] at h; cases h
    | str _ => rw [h'.str] at h; cases h
    | ty _ => rw [h'.ty] at h; cases h; rfl
    | tup _ => obtain ⟨_, _, e, _⟩ := h'.tup; rw [e] at h; cases h
    | lst _ fl => cases fl <;> (obtain ⟨_, _, e, _⟩ := h'; rw [e] at h; cases h)
  | .tup xs, d', v, h, h' => by
    obtain ⟨a, vs, e, q, r⟩ := h.tup
    subst e
    cases d' with
    | non => cases h'.non
    | bl _ => cases h'.bl
    | int _ => cases h'.int
    | str _ => cases h'.str
    | ty _ => cases h'.ty
    | tup ys =>
      obtain ⟨b, ws, e, q', r'⟩ := h'.tup
      cases e
      have := I.tuple_inj q q'
      subst this
      rw [denL_inj I xs ys vs r r']
    | lst _ fl =>
      cases fl with
      | false => obtain ⟨b, ws, e, q', _⟩ := h'; cases e; exact (I.apart q' q).elim
      | true => obtain ⟨b, ws, e, q', _⟩ := h'; cases e; exact (I.apartDT q' q).elim
  | .lst xs true, d', v, h, h' => by
    obtain ⟨a, vs, e, q, r⟩ := h
    subst e
    cases d' with
    | non => cases h'.non
    | bl _ => cases h'.bl
    | int _ => cases h'.int
    | str _ => cases h'.str
    | ty _ => cases h'.ty
    | tup ys => obtain ⟨b, ws, e, q', r'⟩ := h'.tup; cases e; exact (I.apartDT q q').elim
    | lst ys fl =>
      cases fl with
      | false => obtain ⟨b, ws, e, q', r'⟩ := h'; cases e; exact (I.apartDL q q').elim
      | true =>
        obtain ⟨b, ws, e, q', r'⟩ := h'
        cases e
        have := Rd.dct_inj q q'
        subst this
        rw [denL_inj I xs ys vs r r']
  | .lst xs false, d', v, h, h' => by
    obtain ⟨a, vs, e, q, r⟩ := h
    subst e
    cases d' with
    | non => cases h'.non
    | bl _ => cases h'.bl
    | int _ => cases h'.int
    | str _ => cases h'.str
    | ty _ => cases h'.ty
    | tup ys => obtain ⟨b, ws, e, q', r'⟩ := h'.tup; cases e; exact (I.apart q q').elim
    | lst ys fl =>
      cases fl with
      | true => obtain ⟨b, ws, e, q', r'⟩ := h'; cases e; exact (I.apartDL q' q).elim
      | false =>
      obtain ⟨b, ws, e, q', r'⟩ := h'
      cases e
      have := I.list_inj q q'
      subst this
      rw [denL_inj I xs ys vs r r']
theorem denL_inj (I : Inv X pins σ H s) {N N' : Fb} : ∀ (xs ys : List D) (vs : List V), DenL X.K N H xs vs → DenL X.K N' H ys vs → xs = ys
  | [], ys, vs, h, h' => by
    simp only [DenL] at h; subst h
    cases ys with
    | nil => rfl
    | cons y ys => simp only [DenL] at h'; obtain ⟨_, _, e, _⟩ := h'; cases e
  | x :: xs, ys, vs, h, h' => by
    simp only [DenL] at h
    obtain ⟨v, r, e, q, t⟩ := h
    subst e
    cases ys with
    | nil => simp only [DenL] at h'; cases h'
    | cons y ys =>
      simp only [DenL] at h'
      obtain ⟨v', r', e, q', t'⟩ := h'
      cases e
      rw [den_inj I x y v q.p q'.p, denL_inj I xs ys r t t']
end
open SeqAt
theorem getD_some {α : Type} {xs : List α} {j : Nat} {d e : α} (h : xs[j]? = some e) : xs.getD j d = e := by simp [List.getD_eq_getElem?_getD, h]
theorem arr_get {its : List Value} {j : Nat} {u : Value} (h1 : j < its.toArray.size) (e : its[j]? = some u) : its.toArray[j] = u := by
  obtain ⟨_, e⟩ := List.getElem?_eq_some_iff.mp e
  simpa using e
def BothAt (A : Around) (s : Shared) (u v : Value) (b : Bool) : Prop := RcAt A s u v b ∧ EqAt A s u v b ∧ RcNeAt A s u v (!b)
theorem in1_units (A : Around) : A.in1.units = A.units + 1 := rfl
theorem bothAt_D (I : Inv X pins σ H s) {N : Fb} : ∀ (n : Nat) (A : Around) (x y : D) (vx vy : V) (u v : Value), A.units + n < cLine → okD n x = true → okD n y = true → DenP X.K N H x vx → DenP X.K N H y vy → RelV vx u → RelV vy v → BothAt A s u v (eqD x y) := by
  intro n
  induction n with
  | zero =>
    intro A x y vx vy u v hu ox oy hx hy rx ry
    have hu' : A.units < cLine := by omega
    cases x with
    | non =>
      rw [hx.non] at rx; cases rx
      cases y with
      | non => rw [hy.non] at ry; cases ry; simp only [eqD]; exact ⟨RcAt.none_none, EqAt.same _, RcNeAt.none_none⟩
      | bl _ => rw [hy.bl] at ry; cases ry; simp only [eqD]; exact ⟨RcAt.none_bool _, EqAt.none_bool _, RcNeAt.none_bool _⟩
      | int _ => rw [hy.int] at ry; obtain ⟨t2, rfl⟩ := ry; simp only [eqD]; exact ⟨RcAt.none_int _ _, EqAt.none_int _ _, RcNeAt.none_int _ _⟩
      | str _ => rw [hy.str] at ry; obtain ⟨t2, rfl⟩ := ry; simp only [eqD]; exact ⟨RcAt.none_str _ _, EqAt.none_str _ _, RcNeAt.none_str _ _⟩
      | tup ys => simp [okD] at oy
      | lst ys => simp [okD] at oy
      | ty _ => simp [okD] at oy
    | bl _ =>
      rw [hx.bl] at rx; cases rx
      cases y with
      | non => rw [hy.non] at ry; cases ry; simp only [eqD]; exact ⟨RcAt.bool_none _, EqAt.bool_none _, RcNeAt.bool_none _⟩
      | bl _ => rw [hy.bl] at ry; cases ry; simp only [eqD]; exact ⟨RcAt.bool_bool _ _, EqAt.bool_bool _ _, RcNeAt.bool_bool _ _⟩
      | int _ => rw [hy.int] at ry; obtain ⟨t2, rfl⟩ := ry; simp only [eqD]; exact ⟨RcAt.bool_int _ _ _, EqAt.bool_int _ _ _, RcNeAt.bool_int _ _ _⟩
      | str _ => rw [hy.str] at ry; obtain ⟨t2, rfl⟩ := ry; simp only [eqD]; exact ⟨RcAt.bool_str _ _ _, EqAt.bool_str _ _ _, RcNeAt.bool_str _ _ _⟩
      | tup ys => simp [okD] at oy
      | lst ys => simp [okD] at oy
      | ty _ => simp [okD] at oy
    | int _ =>
      rw [hx.int] at rx; obtain ⟨t1, rfl⟩ := rx
      cases y with
      | non => rw [hy.non] at ry; cases ry; simp only [eqD]; exact ⟨RcAt.int_none _ _, EqAt.int_none _ _, RcNeAt.int_none _ _⟩
      | bl _ => rw [hy.bl] at ry; cases ry; simp only [eqD]; exact ⟨RcAt.int_bool _ _ _, EqAt.int_bool _ _ _, RcNeAt.int_bool _ _ _⟩
      | int _ => rw [hy.int] at ry; obtain ⟨t2, rfl⟩ := ry; simp only [eqD]; exact ⟨RcAt.int_int _ _ _ _, EqAt.int_int _ _ _ _, RcNeAt.int_int _ _ _ _⟩
      | str _ => rw [hy.str] at ry; obtain ⟨t2, rfl⟩ := ry; simp only [eqD]; exact ⟨RcAt.int_str _ _ _ _, EqAt.int_str _ _ _ _, RcNeAt.int_str _ _ _ _⟩
      | tup ys => simp [okD] at oy
      | lst ys => simp [okD] at oy
      | ty _ => simp [okD] at oy
    | str _ =>
      rw [hx.str] at rx; obtain ⟨t1, rfl⟩ := rx
      cases y with
      | non => rw [hy.non] at ry; cases ry; simp only [eqD]; exact ⟨RcAt.str_none _ _, EqAt.str_none _ _, RcNeAt.str_none _ _⟩
      | bl _ => rw [hy.bl] at ry; cases ry; simp only [eqD]; exact ⟨RcAt.str_bool _ _ _, EqAt.str_bool _ _ _, RcNeAt.str_bool _ _ _⟩
      | int _ => rw [hy.int] at ry; obtain ⟨t2, rfl⟩ := ry; simp only [eqD]; exact ⟨RcAt.str_int _ _ _ _, EqAt.str_int _ _ _ _, RcNeAt.str_int _ _ _ _⟩
      | str _ => rw [hy.str] at ry; obtain ⟨t2, rfl⟩ := ry; simp only [eqD]; exact ⟨RcAt.str_str _ _ _ _, EqAt.str_str _ _ _ _, RcNeAt.str_str _ _ _ _⟩
      | tup ys => simp [okD] at oy
      | lst ys => simp [okD] at oy
      | ty _ => simp [okD] at oy
    | tup xs => simp [okD] at ox
    | lst xs => simp [okD] at ox
    | ty _ => simp [okD] at ox
  | succ n ih =>
    intro A x y vx vy u v hu ox oy hx hy rx ry
    have hu' : A.units < cLine := by omega
    cases x with
    | non =>
      rw [hx.non] at rx; cases rx
      cases y with
      | non => rw [hy.non] at ry; cases ry; simp only [eqD]; exact ⟨RcAt.none_none, EqAt.same _, RcNeAt.none_none⟩
      | bl _ => rw [hy.bl] at ry; cases ry; simp only [eqD]; exact ⟨RcAt.none_bool _, EqAt.none_bool _, RcNeAt.none_bool _⟩
      | int _ => rw [hy.int] at ry; obtain ⟨t2, rfl⟩ := ry; simp only [eqD]; exact ⟨RcAt.none_int _ _, EqAt.none_int _ _, RcNeAt.none_int _ _⟩
      | str _ => rw [hy.str] at ry; obtain ⟨t2, rfl⟩ := ry; simp only [eqD]; exact ⟨RcAt.none_str _ _, EqAt.none_str _ _, RcNeAt.none_str _ _⟩
      | tup ys => obtain ⟨a2, vs2, e2, q2, d2⟩ := hy.tup; subst e2; cases ry; obtain ⟨its2, r2, p2, z2⟩ := I.tuple q2; simp only [eqD]; exact ⟨RcAt.none_tuple p2 hu', EqAt.none_tuple p2 hu', RcNeAt.none_tuple p2 hu'⟩
      | lst ys fl =>
       cases fl with
       | true => simp [okD] at oy
       | false =>
        obtain ⟨a2, vs2, e2, q2, d2⟩ := hy; subst e2; cases ry; obtain ⟨its2, r2, p2, z2⟩ := I.list q2; simp only [eqD]; exact ⟨RcAt.none_list p2.isList hu', EqAt.none_list p2.isList hu', RcNeAt.none_list p2.isList hu'⟩
      | ty _ => simp [okD] at oy
    | bl _ =>
      rw [hx.bl] at rx; cases rx
      cases y with
      | non => rw [hy.non] at ry; cases ry; simp only [eqD]; exact ⟨RcAt.bool_none _, EqAt.bool_none _, RcNeAt.bool_none _⟩
      | bl _ => rw [hy.bl] at ry; cases ry; simp only [eqD]; exact ⟨RcAt.bool_bool _ _, EqAt.bool_bool _ _, RcNeAt.bool_bool _ _⟩
      | int _ => rw [hy.int] at ry; obtain ⟨t2, rfl⟩ := ry; simp only [eqD]; exact ⟨RcAt.bool_int _ _ _, EqAt.bool_int _ _ _, RcNeAt.bool_int _ _ _⟩
      | str _ => rw [hy.str] at ry; obtain ⟨t2, rfl⟩ := ry; simp only [eqD]; exact ⟨RcAt.bool_str _ _ _, EqAt.bool_str _ _ _, RcNeAt.bool_str _ _ _⟩
      | tup ys => obtain ⟨a2, vs2, e2, q2, d2⟩ := hy.tup; subst e2; cases ry; obtain ⟨its2, r2, p2, z2⟩ := I.tuple q2; simp only [eqD]; exact ⟨RcAt.bool_tuple _ p2 hu', EqAt.bool_tuple _ p2 hu', RcNeAt.bool_tuple _ p2 hu'⟩
      | lst ys fl =>
       cases fl with
       | true => simp [okD] at oy
       | false =>
        obtain ⟨a2, vs2, e2, q2, d2⟩ := hy; subst e2; cases ry; obtain ⟨its2, r2, p2, z2⟩ := I.list q2; simp only [eqD]; exact ⟨RcAt.bool_list _ p2.isList hu', EqAt.bool_list _ p2.isList hu', RcNeAt.bool_list _ p2.isList hu'⟩
      | ty _ => simp [okD] at oy
    | int _ =>
      rw [hx.int] at rx; obtain ⟨t1, rfl⟩ := rx
      cases y with
      | non => rw [hy.non] at ry; cases ry; simp only [eqD]; exact ⟨RcAt.int_none _ _, EqAt.int_none _ _, RcNeAt.int_none _ _⟩
      | bl _ => rw [hy.bl] at ry; cases ry; simp only [eqD]; exact ⟨RcAt.int_bool _ _ _, EqAt.int_bool _ _ _, RcNeAt.int_bool _ _ _⟩
      | int _ => rw [hy.int] at ry; obtain ⟨t2, rfl⟩ := ry; simp only [eqD]; exact ⟨RcAt.int_int _ _ _ _, EqAt.int_int _ _ _ _, RcNeAt.int_int _ _ _ _⟩
      | str _ => rw [hy.str] at ry; obtain ⟨t2, rfl⟩ := ry; simp only [eqD]; exact ⟨RcAt.int_str _ _ _ _, EqAt.int_str _ _ _ _, RcNeAt.int_str _ _ _ _⟩
      | tup ys => obtain ⟨a2, vs2, e2, q2, d2⟩ := hy.tup; subst e2; cases ry; obtain ⟨its2, r2, p2, z2⟩ := I.tuple q2; simp only [eqD]; exact ⟨RcAt.int_tuple _ _ p2 hu', EqAt.int_tuple _ _ p2 hu', RcNeAt.int_tuple _ _ p2 hu'⟩
      | lst ys fl =>
       cases fl with
       | true => simp [okD] at oy
       | false =>
        obtain ⟨a2, vs2, e2, q2, d2⟩ := hy; subst e2; cases ry; obtain ⟨its2, r2, p2, z2⟩ := I.list q2; simp only [eqD]; exact ⟨RcAt.int_list _ _ p2.isList hu', EqAt.int_list _ _ p2.isList hu', RcNeAt.int_list _ _ p2.isList hu'⟩
      | ty _ => simp [okD] at oy
    | str _ =>
      rw [hx.str] at rx; obtain ⟨t1, rfl⟩ := rx
      cases y with
      | non => rw [hy.non] at ry; cases ry; simp only [eqD]; exact ⟨RcAt.str_none _ _, EqAt.str_none _ _, RcNeAt.str_none _ _⟩
      | bl _ => rw [hy.bl] at ry; cases ry; simp only [eqD]; exact ⟨RcAt.str_bool _ _ _, EqAt.str_bool _ _ _, RcNeAt.str_bool _ _ _⟩
      | int _ => rw [hy.int] at ry; obtain ⟨t2, rfl⟩ := ry; simp only [eqD]; exact ⟨RcAt.str_int _ _ _ _, EqAt.str_int _ _ _ _, RcNeAt.str_int _ _ _ _⟩
      | str _ => rw [hy.str] at ry; obtain ⟨t2, rfl⟩ := ry; simp only [eqD]; exact ⟨RcAt.str_str _ _ _ _, EqAt.str_str _ _ _ _, RcNeAt.str_str _ _ _ _⟩
      | tup ys => obtain ⟨a2, vs2, e2, q2, d2⟩ := hy.tup; subst e2; cases ry; obtain ⟨its2, r2, p2, z2⟩ := I.tuple q2; simp only [eqD]; exact ⟨RcAt.str_tuple _ _ p2 hu', EqAt.str_tuple _ _ p2 hu', RcNeAt.str_tuple _ _ p2 hu'⟩
      | lst ys fl =>
       cases fl with
       | true => simp [okD] at oy
       | false =>
        obtain ⟨a2, vs2, e2, q2, d2⟩ := hy; subst e2; cases ry; obtain ⟨its2, r2, p2, z2⟩ := I.list q2; simp only [eqD]; exact ⟨RcAt.str_list _ _ p2.isList hu', EqAt.str_list _ _ p2.isList hu', RcNeAt.str_list _ _ p2.isList hu'⟩
      | ty _ => simp [okD] at oy
    | tup xs =>
      obtain ⟨a1, vs1, e1, q1, d1⟩ := hx.tup; subst e1; cases rx; obtain ⟨its1, r1, p1, z1⟩ := I.tuple q1
      cases y with
      | non => rw [hy.non] at ry; cases ry; simp only [eqD]; exact ⟨RcAt.tuple_none p1 hu', EqAt.tuple_none p1 hu', RcNeAt.tuple_none p1 hu'⟩
      | bl _ => rw [hy.bl] at ry; cases ry; simp only [eqD]; exact ⟨RcAt.tuple_bool _ p1 hu', EqAt.tuple_bool _ p1 hu', RcNeAt.tuple_bool _ p1 hu'⟩
      | int _ => rw [hy.int] at ry; obtain ⟨t2, rfl⟩ := ry; simp only [eqD]; exact ⟨RcAt.tuple_int _ _ p1 hu', EqAt.tuple_int _ _ p1 hu', RcNeAt.tuple_int _ _ p1 hu'⟩
      | str _ => rw [hy.str] at ry; obtain ⟨t2, rfl⟩ := ry; simp only [eqD]; exact ⟨RcAt.tuple_str _ _ p1 hu', EqAt.tuple_str _ _ p1 hu', RcNeAt.tuple_str _ _ p1 hu'⟩
      | tup ys =>
        obtain ⟨a2, vs2, e2, q2, d2⟩ := hy.tup; subst e2; cases ry; obtain ⟨its2, r2, p2, z2⟩ := I.tuple q2
        simp only [okD] at ox oy
        have l1 := r1.length
        have l2 := r2.length
        have m1 := d1.length
        have m2 := d2.length
        simp only [eqD]
        have rc : RcAt A s (.ref a1) (.ref a2) (eqDs xs ys) ∧ RcNeAt A s (.ref a1) (.ref a2) (!eqDs xs ys) := by
          have each : ∀ j (h1 : j < its1.toArray.size) (h2 : j < its2.toArray.size), EqAt A.in1 s its1.toArray[j] its2.toArray[j] (eqD (xs.getD j .non) (ys.getD j .non)) := fun j h1 h2 => ?_
          · have key := RcAt.tuples (A := A) (s := s) (e := fun j => eqD (xs.getD j .non) (ys.getD j .non)) p1 p2 hu' each
            have key2 := RcNeAt.tuples (A := A) (s := s) (e := fun j => eqD (xs.getD j .non) (ys.getD j .non)) p1 p2 hu' each
            have e : ((List.range (min its1.toArray.size its2.toArray.size)).all (fun j => eqD (xs.getD j .non) (ys.getD j .non)) && its1.toArray.size == its2.toArray.size) = eqDs xs ys := by
              rw [List.size_toArray, List.size_toArray]
              by_cases hl : xs.length = ys.length
              · rw [eqDs_all hl, show its1.length = xs.length by omega, show its2.length = xs.length by omega, Nat.min_self]; simp
              · rw [eqDs_len hl, show (its1.length == its2.length) = false by simp; omega, Bool.and_false]
            rw [e] at key key2
            exact ⟨key, key2⟩
          · have h1' : j < xs.length := by rw [List.size_toArray] at h1; omega
            have h2' : j < ys.length := by rw [List.size_toArray] at h2; omega
            have g1 := List.getElem?_eq_getElem h1'
            have g2 := List.getElem?_eq_getElem h2'
            obtain ⟨w1, hw1, dw1⟩ := d1.get g1
            obtain ⟨w2, hw2, dw2⟩ := d2.get g2
            obtain ⟨u1, hu1, ru1⟩ := r1.get hw1
            obtain ⟨u2, hu2, ru2⟩ := r2.get hw2
            rw [arr_get h1 hu1, arr_get h2 hu2, getD_some g1, getD_some g2]
            exact (ih A.in1 _ _ _ _ _ _ (by rw [in1_units]; omega) (List.all_eq_true.mp ox _ (List.getElem_mem h1')) (List.all_eq_true.mp oy _ (List.getElem_mem h2')) dw1.p dw2.p ru1 ru2).2.1
        refine ⟨rc.1, ?_, rc.2⟩
        by_cases ea : a1 = a2
        · subst ea
          have := I.tuple_inj q1 q2
          subst this
          rw [denL_inj I xs ys _ d1 d2, eqDs_refl n ys oy]
          exact EqAt.same _
        · exact EqAt.of_refs ea rc.1
      | lst ys fl =>
       cases fl with
       | true => simp [okD] at oy
       | false =>
        obtain ⟨a2, vs2, e2, q2, d2⟩ := hy; subst e2; cases ry; obtain ⟨its2, r2, p2, z2⟩ := I.list q2; simp only [eqD]; exact ⟨RcAt.tuple_list p1 p2.isList hu', EqAt.tuple_list p1 p2.isList hu', RcNeAt.tuple_list p1 p2.isList hu'⟩
      | ty _ => simp [okD] at oy
    | lst xs fl =>
     cases fl with
     | true => simp [okD] at ox
     | false =>
      obtain ⟨a1, vs1, e1, q1, d1⟩ := hx; subst e1; cases rx; obtain ⟨its1, r1, p1, z1⟩ := I.list q1
      cases y with
      | non => rw [hy.non] at ry; cases ry; simp only [eqD]; exact ⟨RcAt.list_none p1.isList hu', EqAt.list_none p1.isList hu', RcNeAt.list_none p1.isList hu'⟩
      | bl _ => rw [hy.bl] at ry; cases ry; simp only [eqD]; exact ⟨RcAt.list_bool _ p1.isList hu', EqAt.list_bool _ p1.isList hu', RcNeAt.list_bool _ p1.isList hu'⟩
      | int _ => rw [hy.int] at ry; obtain ⟨t2, rfl⟩ := ry; simp only [eqD]; exact ⟨RcAt.list_int _ _ p1.isList hu', EqAt.list_int _ _ p1.isList hu', RcNeAt.list_int _ _ p1.isList hu'⟩
      | str _ => rw [hy.str] at ry; obtain ⟨t2, rfl⟩ := ry; simp only [eqD]; exact ⟨RcAt.list_str _ _ p1.isList hu', EqAt.list_str _ _ p1.isList hu', RcNeAt.list_str _ _ p1.isList hu'⟩
      | tup ys => obtain ⟨a2, vs2, e2, q2, d2⟩ := hy.tup; subst e2; cases ry; obtain ⟨its2, r2, p2, z2⟩ := I.tuple q2; simp only [eqD]; exact ⟨RcAt.list_tuple p1.isList p2 hu', EqAt.list_tuple p1.isList p2 hu', RcNeAt.list_tuple p1.isList p2 hu'⟩
      | lst ys fl =>
       cases fl with
       | true => simp [okD] at oy
       | false =>
        obtain ⟨a2, vs2, e2, q2, d2⟩ := hy; subst e2; cases ry; obtain ⟨its2, r2, p2, z2⟩ := I.list q2
        simp only [okD] at ox oy
        have l1 := r1.length
        have l2 := r2.length
        have m1 := d1.length
        have m2 := d2.length
        simp only [eqD]
        have rc : RcAt A s (.ref a1) (.ref a2) (eqDs xs ys) ∧ RcNeAt A s (.ref a1) (.ref a2) (!eqDs xs ys) := by
          by_cases hl : xs.length = ys.length
          · have each : ∀ j (h1 : j < its1.toArray.size) (h2 : j < its2.toArray.size), EqAt A.in1 s its1.toArray[j] its2.toArray[j] (eqD (xs.getD j .non) (ys.getD j .non)) := fun j h1 h2 => ?_
            · have key := RcAt.lists (A := A) (s := s) (e := fun j => eqD (xs.getD j .non) (ys.getD j .non)) p1.isList p2.isList (by rw [List.size_toArray, List.size_toArray]; omega) hu' each
              have key2 := RcNeAt.lists (A := A) (s := s) (e := fun j => eqD (xs.getD j .non) (ys.getD j .non)) p1.isList p2.isList (by rw [List.size_toArray, List.size_toArray]; omega) hu' each
              have e : (List.range its1.toArray.size).all (fun j => eqD (xs.getD j .non) (ys.getD j .non)) = eqDs xs ys := by
                rw [List.size_toArray, eqDs_all hl, show its1.length = xs.length by omega]
              rw [e] at key key2
              exact ⟨key, key2⟩
            · have h1' : j < xs.length := by rw [List.size_toArray] at h1; omega
              have h2' : j < ys.length := by rw [List.size_toArray] at h2; omega
              have g1 := List.getElem?_eq_getElem h1'
              have g2 := List.getElem?_eq_getElem h2'
              obtain ⟨w1, hw1, dw1⟩ := d1.get g1
              obtain ⟨w2, hw2, dw2⟩ := d2.get g2
              obtain ⟨u1, hu1, ru1⟩ := r1.get hw1
              obtain ⟨u2, hu2, ru2⟩ := r2.get hw2
              rw [arr_get h1 hu1, arr_get h2 hu2, getD_some g1, getD_some g2]
              exact (ih A.in1 _ _ _ _ _ _ (by rw [in1_units]; omega) (List.all_eq_true.mp ox _ (List.getElem_mem h1')) (List.all_eq_true.mp oy _ (List.getElem_mem h2')) dw1.p dw2.p ru1 ru2).2.1
          · rw [eqDs_len hl]
            have hne : (its1.toArray.size != its2.toArray.size) = true := by rw [List.size_toArray, List.size_toArray]; simp; omega
            exact ⟨RcAt.lists_lengths p1.isList p2.isList hne hu', RcNeAt.lists_lengths p1.isList p2.isList hne hu'⟩
        refine ⟨rc.1, ?_, rc.2⟩
        by_cases ea : a1 = a2
        · subst ea
          have := I.list_inj q1 q2
          subst this
          rw [denL_inj I xs ys _ d1 d2, eqDs_refl n ys oy]
          exact EqAt.same _
        · exact EqAt.of_refs ea rc.1
      | ty _ => simp [okD] at oy
    | ty _ => simp [okD] at ox
end
def deep : Nat := 12
@[simp] def eqO (x y : D) : Option D := if okD deep x && okD deep y then some (.bl (eqD x y)) else none
@[simp] def neO (x y : D) : Option D := if okD deep x && okD deep y then some (.bl (!eqD x y)) else none
def rEqD (K : PySem.W.Frag) (neg : Bool) : R2 := fun x y H Q => ∃ N d1 d2, DenP K N H d1 x ∧ DenP K N H d2 y ∧ okD deep d1 = true ∧ okD deep d2 = true ∧ Q (.bl (if neg then !eqD d1 d2 else eqD d1 d2)) H
section
variable {X : Cx} {K : PySem.W.Frag} {M : Fb} {H0 : Hp} {a b : Expr} {f g : VE → Option D} {pos : Pos}
theorem op_eqD (hu : X.A.units + 64 < cLine) : OpR X (compareOp .Eq) (rEqD X.K false) := by
  intro pins s σ H x y v u Q I rx ry h
  obtain ⟨N, d1, d2, h1, h2, o1, o2, q⟩ := h
  exact (bothAt_D I deep X.A d1 d2 x y v u (by unfold deep; omega) o1 o2 h1 h2 rx ry).1 X.prog X.w X.xe _ ⟨.bl _, H, I, rfl, q⟩
theorem op_neD (hu : X.A.units + 64 < cLine) : OpR X (compareOp .NotEq) (rEqD X.K true) := by
  intro pins s σ H x y v u Q I rx ry h
  obtain ⟨N, d1, d2, h1, h2, o1, o2, q⟩ := h
  exact (bothAt_D I deep X.A d1 d2 x y v u (by unfold deep; omega) o1 o2 h1 h2 rx ry).2.2 X.prog X.w X.xe _ ⟨.bl _, H, I, rfl, q⟩
theorem r2_eq : R2D K (rEqD K false) eqO := by
  intro N H x y d1 d2 d Q nh h1 h2 e q
  unfold eqO at e
  split at e
  · next ho => rw [Bool.and_eq_true] at ho; cases e; exact ⟨N, d1, d2, h1, h2, ho.1, ho.2, q _ H (Same.refl H) den_bl⟩
  · cases e
theorem r2_ne : R2D K (rEqD K true) neO := by
  intro N H x y d1 d2 d Q nh h1 h2 e q
  unfold neO at e
  split at e
  · next ho => rw [Bool.and_eq_true] at ho; cases e; exact ⟨N, d1, d2, h1, h2, ho.1, ho.2, q _ H (Same.refl H) den_bl⟩
  · cases e
def inDs (x : D) (ys : List D) : Bool := ys.any fun y => eqD y x
@[simp] def inD (neg : Bool) (x y : D) : Option D := match y with
  | .lst ys => if okD deep x && ys.all (okD deep) then some (.bl (if neg then !inDs x ys else inDs x ys)) else none
  | .tup ys => if okD deep x && ys.all (okD deep) then some (.bl (if neg then !inDs x ys else inDs x ys)) else none
  | .str z => match x with
    | .str w => some (.bl (if neg then !(!(Builtin.Str.occurrences z w 0 z.length 1).isEmpty) else !(Builtin.Str.occurrences z w 0 z.length 1).isEmpty))
    | _ => none
  | _ => none
def rInD (K : PySem.W.Frag) (neg : Bool) : R2 := fun x y H Q => ∃ N d1 ys vs p, DenP K N H d1 x ∧ y = .ref p ∧ (SqL K H p vs ∨ SqT K H p vs) ∧ DenL K N H ys vs ∧ okD deep d1 = true ∧ ys.all (okD deep) = true ∧ Q (.bl (if neg then !inDs d1 ys else inDs d1 ys)) H
open Classical in
noncomputable def ansOf (K : PySem.W.Frag) (N : Fb) (H : Hp) (x : D) (u : Value) : Bool := decide (∃ d w, DenP K N H d w ∧ RelV w u ∧ eqD d x = true)
theorem ansOf_eq {pins : List (Addr × Obj)} {σ : St} {H : Hp} {s : Shared} (I : Inv X pins σ H s) {N : Fb} {x d : D} {w : V} {u : Value} (hd : DenP X.K N H d w) (r : RelV w u) : ansOf X.K N H x u = eqD d x := by
  classical
  unfold ansOf
  cases e : eqD d x with
  | true => exact @decide_eq_true _ (Classical.propDecidable _) ⟨d, w, hd, r, e⟩
  | false =>
    refine @decide_eq_false _ (Classical.propDecidable _) ?_
    rintro ⟨d', w', hd', r', e'⟩
    have := r'.inj r
    subst this
    have := den_inj I d' d _ hd' hd
    subst this
    rw [e] at e'; cases e'
theorem any_ans {pins : List (Addr × Obj)} {σ : St} {H : Hp} {s : Shared} (I : Inv X pins σ H s) {N : Fb} {x : D} : ∀ {ys : List D} {vs : List V} {us : List Value}, DenL X.K N H ys vs → Vals vs us → us.any (ansOf X.K N H x) = inDs x ys
  | [], _, _, h, r => by simp only [DenL] at h; subst h; cases r; rfl
  | y :: ys, _, _, h, r => by
    simp only [DenL] at h
    obtain ⟨v, t, e, hv, ht⟩ := h
    subst e
    cases r with
    | cons r1 r2 =>
      rw [List.any_cons, ansOf_eq I hv.p r1, any_ans I ht r2]
      rfl
theorem each_ans {pins : List (Addr × Obj)} {σ : St} {H : Hp} {s : Shared} (I : Inv X pins σ H s) {N : Fb} {A : Around} {x : D} {vx : V} {v : Value} (hu : A.units + deep < cLine) (ox : okD deep x = true) (hx : DenP X.K N H x vx) (rx : RelV vx v) {ys : List D} {vs : List V} {us : List Value} (h : DenL X.K N H ys vs) (r : Vals vs us) (oy : ys.all (okD deep) = true) :
    ∀ u ∈ us, SeqAt.EqAt A s u v (ansOf X.K N H x u) := by
  intro u hu'
  obtain ⟨j, hj⟩ := List.getElem?_of_mem hu'
  have hl := r.length
  have hj' : j < vs.length := by have := (List.getElem?_eq_some_iff.mp hj).1; omega
  have hv := List.getElem?_eq_getElem hj'
  obtain ⟨u', e1, r1⟩ := r.get hv
  rw [hj] at e1; cases e1
  obtain ⟨y, e2, hy⟩ := h.get' hv
  rw [ansOf_eq I hy.p r1]
  exact (bothAt_D I deep A y x _ _ _ _ hu (List.all_eq_true.mp oy y (List.mem_of_getElem? e2)) ox hy.p hx r1 rx).2.1
theorem op_inD (hu : X.A.units + 64 < cLine) : OpR X (compareOp .In) (rInD X.K false) := by
  intro pins s σ H x y v u Q I rx ry h
  obtain ⟨N, d1, ys, vs, p, h1, rfl, hq, hd, o1, o2, q⟩ := h
  cases ry
  have hu1 : X.A.in1.units + deep < cLine := by rw [in1_units]; unfold deep; omega
  rcases hq with hq | hq
  · obtain ⟨its, r, pl, hz⟩ := I.list hq
    refine SeqAt.in_listAt (ansOf X.K N H d1) pl.isList (fun w hw => each_ans I hu1 o1 h1 rx hd r o2 w (by simpa using hw)) ⟨.bl _, H, I, rfl, ?_⟩
    rw [show its.toArray.any (ansOf X.K N H d1) = its.any (ansOf X.K N H d1) by simp, any_ans I hd r]
    exact q
  · obtain ⟨its, r, pl, hz⟩ := I.tuple hq
    refine SeqAt.in_tupleAt (ansOf X.K N H d1) pl (fun w hw => each_ans I hu1 o1 h1 rx hd r o2 w (by simpa using hw)) ⟨.bl _, H, I, rfl, ?_⟩
    rw [show its.toArray.any (ansOf X.K N H d1) = its.any (ansOf X.K N H d1) by simp, any_ans I hd r]
    exact q
theorem r2_in : R2D K (fun x y H Q => rInD K false x y H Q ∨ ∃ i j, x = .str i ∧ y = .str j ∧ Q (.bl (!(Builtin.Str.occurrences j i 0 j.length 1).isEmpty)) H) (inD false) := by
  intro N H x y d1 d2 d Q nh h1 h2 e q
  unfold inD at e
  split at e
  · split at e
    · next ho => rw [Bool.and_eq_true] at ho; cases e; obtain ⟨a, vs, e1, q1, r1⟩ := h2; exact .inl ⟨N, d1, _, vs, a, h1, e1, .inl q1, r1, ho.1, ho.2, q _ H (Same.refl H) den_bl⟩
    · cases e
  · split at e
    · next ho => rw [Bool.and_eq_true] at ho; cases e; obtain ⟨a, vs, e1, q1, r1⟩ := h2.tup; exact .inl ⟨N, d1, _, vs, a, h1, e1, .inr q1, r1, ho.1, ho.2, q _ H (Same.refl H) den_bl⟩
    · cases e
  · split at e
    · cases e; exact .inr ⟨_, _, h1.str, h2.str, q _ H (Same.refl H) den_bl⟩
    · cases e
  · cases e
@[simp] def ltDs (lt : D → D → Option Bool) : List D → List D → Option Bool
  | [], [] => some false
  | [], _ :: _ => some true
  | _ :: _, [] => some false
  | x :: xs, y :: ys => if okD deep x && okD deep y then (if eqD x y then ltDs lt xs ys else lt x y) else none
@[simp] def ltN : Nat → D → D → Option Bool
  | _, .int i, .int j => some (decide (i < j))
  | _, .str a, .str b => some (decide (a.cps.toList < b.cps.toList))
  | n + 1, .tup xs, .tup ys => ltDs (ltN n) xs ys
  | _, _, _ => none
@[simp] def ltO (x y : D) : Option D := (ltN 6 x y).map D.bl
def rLtD (K : PySem.W.Frag) : R2 := fun x y H Q => ∃ N d1 d2 b, DenP K N H d1 x ∧ DenP K N H d2 y ∧ ltN 6 d1 d2 = some b ∧ Q (.bl b) H
theorem ltAt_D {pins : List (Addr × Obj)} {σ : St} {H : Hp} {s : Shared} (I : Inv X pins σ H s) {N : Fb} : ∀ (n : Nat) (A : Around) (x y : D) (vx vy : V) (u v : Value) (b : Bool), A.units + n + deep < cLine → ltN n x y = some b → DenP X.K N H x vx → DenP X.K N H y vy → RelV vx u → RelV vy v →
    ∀ (prog : Program) (wo : World) (E Q : Value → Shared → Prop), Q (.bool b) s → wpAny (model prog wo) A (richCompare .Lt u v) Q E s := by
  intro n
  induction n with
  | zero =>
    intro A x y vx vy u v b hu h hx hy rx ry prog wo E Q q
    unfold ltN at h
    split at h
    · cases h; rw [hx.int] at rx; rw [hy.int] at ry; obtain ⟨t, rfl⟩ := rx; obtain ⟨t', rfl⟩ := ry; exact HT.rcLt_int A s _ _ _ _ prog wo E Q q
    · cases h; rw [hx.str] at rx; rw [hy.str] at ry; obtain ⟨t, rfl⟩ := rx; obtain ⟨t', rfl⟩ := ry; exact (PyProof.Rows.lt_str q : wpAny (model prog wo) A (compareOp .Lt _ _) Q E s)
    · next h0 => cases h0
    · cases h
  | succ n ih =>
    intro A x y vx vy u v b hu h hx hy rx ry prog wo E Q q
    unfold ltN at h
    split at h
    · cases h; rw [hx.int] at rx; rw [hy.int] at ry; obtain ⟨t, rfl⟩ := rx; obtain ⟨t', rfl⟩ := ry; exact HT.rcLt_int A s _ _ _ _ prog wo E Q q
    · cases h; rw [hx.str] at rx; rw [hy.str] at ry; obtain ⟨t, rfl⟩ := rx; obtain ⟨t', rfl⟩ := ry; exact (PyProof.Rows.lt_str q : wpAny (model prog wo) A (compareOp .Lt _ _) Q E s)
    · next m xs ys e0 =>
      cases e0
      obtain ⟨a1, vs1, e1, q1, d1⟩ := hx.tup
      obtain ⟨a2, vs2, e2, q2, d2⟩ := hy.tup
      subst e1 e2
      cases rx
      cases ry
      obtain ⟨its1, r1, p1, _⟩ := I.tuple q1
      obtain ⟨its2, r2, p2, _⟩ := I.tuple q2
      have lists : ∀ (xs ys : List D) (vs1 vs2 : List V) (us1 us2 : List Value), ltDs (ltN n) xs ys = some b → DenL X.K N H xs vs1 → DenL X.K N H ys vs2 → Vals vs1 us1 → Vals vs2 us2 → LtAt A.in1 s us1 us2 b := by
        intro xs
        induction xs with
        | nil =>
          intro ys vs1 vs2 us1 us2 h d1 d2 r1 r2
          simp only [DenL] at d1; subst d1; cases r1
          cases ys with
          | nil => simp only [DenL] at d2; subst d2; cases r2; cases h; exact .nn
          | cons y ys => simp only [DenL] at d2; obtain ⟨w, t, e, _, _⟩ := d2; subst e; cases r2; cases h; exact .nc
        | cons x xs ihx =>
          intro ys vs1 vs2 us1 us2 h d1 d2 r1 r2
          simp only [DenL] at d1; obtain ⟨w1, t1, e1, dw1, dt1⟩ := d1; subst e1
          cases r1 with
          | cons rw1 rt1 =>
            cases ys with
            | nil => simp only [DenL] at d2; subst d2; cases r2; cases h; exact .cn
            | cons y ys =>
              simp only [DenL] at d2; obtain ⟨w2, t2, e2, dw2, dt2⟩ := d2; subst e2
              cases r2 with
              | cons rw2 rt2 =>
                simp only [ltDs] at h
                split at h
                · next ho =>
                  rw [Bool.and_eq_true] at ho
                  have he := (bothAt_D I deep A.in1 x y _ _ _ _ (by rw [in1_units]; omega) ho.1 ho.2 dw1.p dw2.p rw1 rw2).2.1
                  split at h
                  · next e => rw [e] at he; exact .eq he (ihx ys _ _ _ _ h dt1 dt2 rt1 rt2)
                  · next e =>
                    rw [Bool.not_eq_true] at e
                    rw [e] at he
                    exact .ne he fun prog wo E Q q => ih A.in1 x y _ _ _ _ b (by rw [in1_units]; omega) h dw1.p dw2.p rw1 rw2 prog wo E Q q
                · cases h
      exact rcLt_tup p1 p2 (by simpa using lists xs ys _ _ _ _ h d1 d2 r1 r2) (by omega) q
    · cases h
theorem op_ltD (hu : X.A.units + 64 < cLine) : OpR X (compareOp .Lt) (rLtD X.K) := by
  intro pins s σ H x y v u Q I rx ry h
  obtain ⟨N, d1, d2, b, h1, h2, hb, q⟩ := h
  have fin : EP X pins σ Q (.bool b) s := ⟨.bl b, H, I, rfl, q⟩
  exact ltAt_D I 6 X.A d1 d2 x y v u b (by unfold deep; omega) hb h1 h2 rx ry X.prog X.w X.xe _ fin
theorem r2_lt : R2D K (rLtD K) ltO := by
  intro N H x y d1 d2 d Q nh h1 h2 e q
  unfold ltO at e
  cases hl : ltN 6 d1 d2 with
  | none => rw [hl] at e; cases e
  | some b => rw [hl] at e; cases e; exact ⟨N, d1, d2, b, h1, h2, hl, q _ H (Same.refl H) den_bl⟩
end
end L2
set_option Elab.async false
set_option linter.all false
set_option maxRecDepth 100000
namespace L2
open PySem PySem.Spec PyProof.Rows
section
variable {K : PySem.W.Frag} {N : Fb} {H : Hp}
theorem Paired.one' {α β : Type} {F : α → β → Prop} {x : α} {vs : List β} (h : Paired F [x] vs) : ∃ v, vs = [v] ∧ F x v := by
  cases h with
  | cons r t => cases t; exact ⟨_, rfl, r⟩
theorem Paired.two' {α β : Type} {F : α → β → Prop} {x y : α} {vs : List β} (h : Paired F [x, y] vs) : ∃ v w, vs = [v, w] ∧ F x v ∧ F y w := by
  cases h with
  | cons r t =>
    obtain ⟨w, e, q⟩ := Paired.one' t
    subst e
    exact ⟨_, w, rfl, r, q⟩
@[simp] def lenD : List D → Option D
  | [.lst xs] => some (.int xs.length)
  | [.tup xs] => some (.int xs.length)
  | [.str x] => if x.length ≤ sizeLine then some (.int x.length) else none
  | _ => none
theorem rc_len : RcD K (fun xs H Q => ∃ x n, xs = [x] ∧ LenV K x H n ∧ Q (.int n) H) lenD := by
  intro N H vs ds d Q nh h e q
  unfold lenD at e
  split at e
  · cases e
    obtain ⟨v, rfl, hv⟩ := Paired.one' h
    obtain ⟨a, ws, e1, q1, r1⟩ := hv
    subst e1
    exact ⟨.ref a, _, rfl, .inl ⟨ws, q1, rfl⟩, by rw [← r1.length]; exact q _ H (Same.refl H) den_int⟩
  · cases e
    obtain ⟨v, rfl, hv⟩ := Paired.one' h
    obtain ⟨a, ws, e1, q1, r1⟩ := hv.tup
    subst e1
    exact ⟨.ref a, _, rfl, .inr ⟨ws, q1, rfl⟩, by rw [← r1.length]; exact q _ H (Same.refl H) den_int⟩
  · split at e
    · next hz =>
      cases e
      obtain ⟨v, rfl, hv⟩ := Paired.one' h
      exact ⟨v, _, rfl, by rw [hv.str]; exact ⟨hz, rfl⟩, q _ H (Same.refl H) den_int⟩
    · cases e
  · cases e
@[simp] def lstD : List D → Option (List D)
  | [.lst xs] => some xs
  | [.tup xs] => some xs
  | _ => none
@[simp] def tupD : List D → Option D
  | [.lst xs] => some (.tup xs)
  | [.tup xs] => some (.tup xs)
  | _ => none
theorem rc_tuple : RcD K (fun xs H Q => ∃ p ys, xs = [.ref p] ∧ ((SqL K H p ys ∧ ∀ l, H l = none → Q (.ref l) (upd H l (.tup ys))) ∨ (SqT K H p ys ∧ Q (.ref p) H))) tupD := by
  intro N H vs ds d Q nh h e q
  unfold tupD at e
  split at e
  · cases e
    obtain ⟨v, rfl, hv⟩ := Paired.one' h
    obtain ⟨a, ws, e1, q1, r1⟩ := hv
    subst e1
    exact ⟨a, ws, rfl, .inl ⟨q1, fun l hl => q _ _ (same_new hl) (den_newT hl r1)⟩⟩
  · cases e
    obtain ⟨v, rfl, hv⟩ := Paired.one' h
    obtain ⟨a, ws, e1, q1, r1⟩ := hv.tup
    subst e1
    exact ⟨a, ws, rfl, .inr ⟨q1, q _ _ (Same.refl H) (by simp only [Den]; exact ⟨a, ws, rfl, q1, r1⟩)⟩⟩
  · cases e
def asBs : List D → Option (List Bool)
  | [] => some []
  | .bl b :: r => (asBs r).map (b :: ·)
  | _ => none
theorem asBs_map : ∀ {xs : List D} {bs : List Bool}, asBs xs = some bs → xs = bs.map D.bl
  | [], _, e => by cases e; rfl
  | .bl b :: r, _, e => by
    simp only [asBs] at e
    cases h : asBs r with
    | none => rw [h] at e; cases e
    | some bs => rw [h] at e; cases e; rw [asBs_map h]; rfl
  | .non :: _, _, e => nomatch e
  | .int _ :: _, _, e => nomatch e
  | .str _ :: _, _, e => nomatch e
  | .ty _ :: _, _, e => nomatch e
  | .tup _ :: _, _, e => nomatch e
  | .lst _ _ :: _, _, e => nomatch e
theorem denL_bls : ∀ {bs : List Bool} {vs : List V}, DenL K N H (bs.map D.bl) vs → vs = bs.map V.bl
  | [], _, h => by simpa only [List.map_nil, DenL] using h
  | b :: bs, _, h => by
    simp only [List.map_cons, DenL, Den] at h
    obtain ⟨v, r, e, hv, t⟩ := h
    subst e hv
    rw [denL_bls t]; rfl
@[simp] def allD : List D → Option D
  | [.lst xs] => (asBs xs).map fun bs => .bl (bs.all id)
  | _ => none
@[simp] def anyD : List D → Option D
  | [.lst xs] => (asBs xs).map fun bs => .bl (bs.any id)
  | _ => none
theorem rc_all : RcD K (fun xs H Q => ∃ (a : Addr) (bs : List Bool), xs = [.ref a] ∧ SqL K H a (bs.map V.bl) ∧ Q (.bl (bs.all id)) H) allD := by
  intro N H vs ds d Q nh h e q
  unfold allD at e
  split at e
  · next xs =>
    cases hb : asBs xs with
    | none => rw [hb] at e; cases e
    | some bs =>
      rw [hb] at e; cases e
      obtain ⟨v, rfl, hv⟩ := Paired.one' h
      obtain ⟨a, ws, e1, q1, r1⟩ := hv
      subst e1
      rw [asBs_map hb] at r1
      rw [denL_bls r1] at q1
      exact ⟨a, bs, rfl, q1, q _ H (Same.refl H) den_bl⟩
  · cases e
theorem rc_any : RcD K (fun xs H Q => ∃ (a : Addr) (bs : List Bool), xs = [.ref a] ∧ SqL K H a (bs.map V.bl) ∧ Q (.bl (bs.any id)) H) anyD := by
  intro N H vs ds d Q nh h e q
  unfold anyD at e
  split at e
  · next xs =>
    cases hb : asBs xs with
    | none => rw [hb] at e; cases e
    | some bs =>
      rw [hb] at e; cases e
      obtain ⟨v, rfl, hv⟩ := Paired.one' h
      obtain ⟨a, ws, e1, q1, r1⟩ := hv
      subst e1
      rw [asBs_map hb] at r1
      rw [denL_bls r1] at q1
      exact ⟨a, bs, rfl, q1, q _ H (Same.refl H) den_bl⟩
  · cases e
@[simp] def max2D : List D → Option D
  | [.int i, .int j] => some (.int (if j > i then j else i))
  | _ => none
@[simp] def min2D : List D → Option D
  | [.int i, .int j] => some (.int (if j < i then j else i))
  | _ => none
theorem rc_max2 : RcD K (fun xs H Q => ∃ i j, xs = [.int i, .int j] ∧ Q (.int (if j > i then j else i)) H) max2D := by
  intro N H vs ds d Q nh h e q
  unfold max2D at e
  split at e
  · cases e
    obtain ⟨v, w, rfl, hv, hw⟩ := Paired.two' h
    exact ⟨_, _, by rw [hv.int, hw.int], q _ H (Same.refl H) den_int⟩
  · cases e
@[simp] def absD : List D → Option D
  | [.int i] => some (.int (if i < 0 then -i else i))
  | _ => none
theorem rc_abs : RcD K (fun xs H Q => ∃ i, xs = [.int i] ∧ Q (.int (if i < 0 then -i else i)) H) absD := by
  intro N H vs ds d Q nh h e q
  unfold absD at e
  split at e
  · cases e
    obtain ⟨v, rfl, hv⟩ := Paired.one' h
    exact ⟨_, by rw [hv.int], q _ H (Same.refl H) den_int⟩
  · cases e
@[simp] def strI : List D → Option D
  | [.int i] => if i.natAbs.log2 < 1920 then some (.str (toString i)) else none
  | _ => none
@[simp] def intD : List D → Option D
  | [.int i] => some (.int i)
  | [.bl k] => some (.int (if k then 1 else 0))
  | _ => none
def asIs : List D → Option (List Int)
  | [] => some []
  | .int b :: r => (asIs r).map (b :: ·)
  | _ => none
theorem asIs_map : ∀ {xs : List D} {bs : List Int}, asIs xs = some bs → xs = bs.map D.int
  | [], _, e => by cases e; rfl
  | .int b :: r, _, e => by
    simp only [asIs] at e
    cases h : asIs r with
    | none => rw [h] at e; cases e
    | some bs => rw [h] at e; cases e; rw [asIs_map h]; rfl
  | .non :: _, _, e => nomatch e
  | .bl _ :: _, _, e => nomatch e
  | .str _ :: _, _, e => nomatch e
  | .ty _ :: _, _, e => nomatch e
  | .tup _ :: _, _, e => nomatch e
  | .lst _ _ :: _, _, e => nomatch e
theorem asIs_ints : ∀ (ns : List Int), asIs (ns.map D.int) = some ns
  | [] => rfl
  | n :: ns => by simp only [List.map_cons, asIs, asIs_ints ns]; rfl
theorem denL_ints : ∀ {bs : List Int} {vs : List V}, DenL K N H (bs.map D.int) vs → vs = bs.map V.int
  | [], _, h => by simpa only [List.map_nil, DenL] using h
  | b :: bs, _, h => by
    simp only [List.map_cons, DenL, Den] at h
    obtain ⟨v, r, e, hv, t⟩ := h
    subst e hv
    rw [denL_ints t]; rfl
end
section
variable {X : Cx}
theorem call_sumI (hc : X.calm = true) : CallR X (.builtin "sum") (fun xs H Q => ∃ (a : Addr) (ns : List Int), xs = [.ref a] ∧ SqL X.K H a (ns.map V.int) ∧ Q (.int ns.sum) H) := by
  intro pins s σ H xs us Q I r h
  obtain ⟨a, ns, rfl, hs, q⟩ := h
  obtain ⟨u, rfl, rx⟩ := vals1 r
  cases rx
  obtain ⟨its, rv, p, hz⟩ := I.list hs
  have hi : IntsAre its ns := intsAre_of rv
  obtain ⟨ys, hy⟩ := hi.allInts.items
  have hl' : s.heap.IsList a (intItems ys) := hy ▸ p.isList
  refine sum_intListG (I.ok.hd hc) hl' fun h' tk t' hk => ?_
  have e1 : ns = ys.toList.map (·.1) := by
    rw [← nums_intItems, ← hy]
    exact (show numsOf its.toArray.toList = ns from hi.numsOf).symm
  have e2 : preSum (numAt ys) ys.size = ns.sum := by
    rw [preSum_eq, List.take_of_length_le (by simp), e1]
  rw [e2]
  exact ⟨.int ns.sum, H, I.kept (t' := tk) hk, ⟨_, rfl⟩, q⟩
theorem call_minI (hc : X.calm = true) : CallR X (.builtin "min") (fun xs H Q => ∃ (a : Addr) (ns : List Int), xs = [.ref a] ∧ SqL X.K H a (ns.map V.int) ∧ 0 < ns.length ∧ ∀ m, m ∈ ns → (∀ a, a ∈ ns → m ≤ a) → Q (.int m) H) := by
  intro pins s σ H xs us Q I r h
  obtain ⟨a, ns, rfl, hs, hne, q⟩ := h
  obtain ⟨u, rfl, rx⟩ := vals1 r
  cases rx
  obtain ⟨its, rv, p, hz⟩ := I.list hs
  have hi : IntsAre its ns := intsAre_of rv
  obtain ⟨ys, e⟩ := hi.allInts.items
  have hns : ns = ys.toList.map (·.1) := by rw [← hi.numsOf, ← nums_intItems, ← e]
  have hsz : 0 < ys.size := by
    have h3 := hne; rw [hns, List.length_map, Array.length_toList] at h3; exact h3
  have hl : s.heap.IsList a (intItems ys) := e ▸ p.isList
  refine min_intList (I.ok.hd hc) hl hsz fun v h' tk hv hk => ?_
  obtain ⟨t, rfl⟩ := intItems_at hv
  obtain ⟨h1, h2⟩ := argBest_lt (numAt ys) (ys.size - 1)
  refine ⟨.int _, H, I.kept (t' := tk) hk, ⟨t, rfl⟩, q _ ?_ fun b hb => ?_⟩
  · rw [hns, numAt_eq]; exact getD_mem (by rw [List.length_map, Array.length_toList]; omega)
  · rw [hns] at hb
    obtain ⟨j, hj, rfl⟩ := mem_getD hb
    rw [List.length_map, Array.length_toList] at hj
    rw [← numAt_eq]; exact h2 j (by omega)
theorem call_maxI (hc : X.calm = true) : CallR X (.builtin "max") (fun xs H Q => ∃ (a : Addr) (ns : List Int), xs = [.ref a] ∧ SqL X.K H a (ns.map V.int) ∧ 0 < ns.length ∧ ∀ m, m ∈ ns → (∀ a, a ∈ ns → a ≤ m) → Q (.int m) H) := by
  intro pins s σ H xs us Q I r h
  obtain ⟨a, ns, rfl, hs, hne, q⟩ := h
  obtain ⟨u, rfl, rx⟩ := vals1 r
  cases rx
  obtain ⟨its, rv, p, hz⟩ := I.list hs
  have hi : IntsAre its ns := intsAre_of rv
  obtain ⟨ys, e⟩ := hi.allInts.items
  have hns : ns = ys.toList.map (·.1) := by rw [← hi.numsOf, ← nums_intItems, ← e]
  have hsz : 0 < ys.size := by
    have h3 := hne; rw [hns, List.length_map, Array.length_toList] at h3; exact h3
  have hl : s.heap.IsList a (intItems ys) := e ▸ p.isList
  refine max_intList (I.ok.hd hc) hl hsz fun v h' tk hv hk => ?_
  obtain ⟨t, rfl⟩ := intItems_at hv
  obtain ⟨h1, h2⟩ := argBest_gt (numAt ys) (ys.size - 1)
  refine ⟨.int _, H, I.kept (t' := tk) hk, ⟨t, rfl⟩, q _ ?_ fun b hb => ?_⟩
  · rw [hns, numAt_eq]; exact getD_mem (by rw [List.length_map, Array.length_toList]; omega)
  · rw [hns] at hb
    obtain ⟨j, hj, rfl⟩ := mem_getD hb
    rw [List.length_map, Array.length_toList] at hj
    rw [← numAt_eq]; exact h2 j (by omega)
end
def minL : List Int → Option Int
  | [] => none
  | x :: xs => some (xs.foldl (fun m y => if y < m then y else m) x)
def maxL : List Int → Option Int
  | [] => none
  | x :: xs => some (xs.foldl (fun m y => if y > m then y else m) x)
theorem minF_mem : ∀ (xs : List Int) (x : Int), (xs.foldl (fun m y => if y < m then y else m) x) ∈ x :: xs ∧ ∀ a ∈ x :: xs, (xs.foldl (fun m y => if y < m then y else m) x) ≤ a
  | [], x => by simp
  | y :: ys, x => by
    simp only [List.foldl_cons]
    obtain ⟨h1, h2⟩ := minF_mem ys (if y < x then y else x)
    have hle := h2 _ List.mem_cons_self
    have k1 : (if y < x then y else x) ≤ x := by split <;> omega
    have k2 : (if y < x then y else x) ≤ y := by split <;> omega
    refine ⟨?_, fun a ha => ?_⟩
    · rcases List.mem_cons.mp h1 with h | h
      · rw [h]; split <;> simp
      · exact List.mem_cons_of_mem _ (List.mem_cons_of_mem _ h)
    · rcases List.mem_cons.mp ha with rfl | ha
      · exact Int.le_trans hle k1
      · rcases List.mem_cons.mp ha with rfl | ha
        · exact Int.le_trans hle k2
        · exact h2 a (List.mem_cons_of_mem _ ha)
theorem maxF_mem : ∀ (xs : List Int) (x : Int), (xs.foldl (fun m y => if y > m then y else m) x) ∈ x :: xs ∧ ∀ a ∈ x :: xs, a ≤ (xs.foldl (fun m y => if y > m then y else m) x)
  | [], x => by simp
  | y :: ys, x => by
    simp only [List.foldl_cons]
    obtain ⟨h1, h2⟩ := maxF_mem ys (if y > x then y else x)
    have hle := h2 _ List.mem_cons_self
    have k1 : x ≤ (if y > x then y else x) := by split <;> omega
    have k2 : y ≤ (if y > x then y else x) := by split <;> omega
    refine ⟨?_, fun a ha => ?_⟩
    · rcases List.mem_cons.mp h1 with h | h
      · rw [h]; split <;> simp
      · exact List.mem_cons_of_mem _ (List.mem_cons_of_mem _ h)
    · rcases List.mem_cons.mp ha with rfl | ha
      · exact Int.le_trans k1 hle
      · rcases List.mem_cons.mp ha with rfl | ha
        · exact Int.le_trans k2 hle
        · exact h2 a (List.mem_cons_of_mem _ ha)
theorem minL_uniq {ns : List Int} {m k : Int} (h : minL ns = some k) (h1 : m ∈ ns) (h2 : ∀ a, a ∈ ns → m ≤ a) : m = k := by
  cases ns with
  | nil => cases h
  | cons x xs =>
    cases h
    obtain ⟨q1, q2⟩ := minF_mem xs x
    have := h2 _ q1
    have := q2 _ h1
    omega
theorem maxL_uniq {ns : List Int} {m k : Int} (h : maxL ns = some k) (h1 : m ∈ ns) (h2 : ∀ a, a ∈ ns → a ≤ m) : m = k := by
  cases ns with
  | nil => cases h
  | cons x xs =>
    cases h
    obtain ⟨q1, q2⟩ := maxF_mem xs x
    have := h2 _ q1
    have := q2 _ h1
    omega
section
variable {K : PySem.W.Frag}
@[simp] def sumD : List D → Option D
  | [.lst xs] => (asIs xs).map fun ns => .int ns.sum
  | _ => none
@[simp] def min1D : List D → Option D
  | [.lst xs] => ((asIs xs).bind minL).map D.int
  | _ => none
@[simp] def max1D : List D → Option D
  | [.lst xs] => ((asIs xs).bind maxL).map D.int
  | _ => none
theorem rc_sum : RcD K (fun xs H Q => ∃ (a : Addr) (ns : List Int), xs = [.ref a] ∧ SqL K H a (ns.map V.int) ∧ Q (.int ns.sum) H) sumD := by
  intro N H vs ds d Q nh h e q
  unfold sumD at e
  split at e
  · next xs =>
    cases hb : asIs xs with
    | none => rw [hb] at e; cases e
    | some bs =>
      rw [hb] at e; cases e
      obtain ⟨v, rfl, hv⟩ := Paired.one' h
      obtain ⟨a, ws, e1, q1, r1⟩ := hv
      subst e1
      rw [asIs_map hb] at r1
      rw [denL_ints r1] at q1
      exact ⟨a, bs, rfl, q1, q _ H (Same.refl H) den_int⟩
  · cases e
theorem rc_min1 : RcD K (fun xs H Q => ∃ (a : Addr) (ns : List Int), xs = [.ref a] ∧ SqL K H a (ns.map V.int) ∧ 0 < ns.length ∧ ∀ m, m ∈ ns → (∀ a, a ∈ ns → m ≤ a) → Q (.int m) H) min1D := by
  intro N H vs ds d Q nh h e q
  unfold min1D at e
  split at e
  · next xs =>
    cases hb : asIs xs with
    | none => rw [hb] at e; cases e
    | some bs =>
      rw [hb] at e
      simp only [Option.bind] at e
      cases hm : minL bs with
      | none => rw [hm] at e; cases e
      | some k =>
        rw [hm] at e; cases e
        obtain ⟨v, rfl, hv⟩ := Paired.one' h
        obtain ⟨a, ws, e1, q1, r1⟩ := hv
        subst e1
        rw [asIs_map hb] at r1
        rw [denL_ints r1] at q1
        refine ⟨a, bs, rfl, q1, ?_, fun m h1 h2 => ?_⟩
        · cases bs with
          | nil => cases hm
          | cons => simp
        · rw [minL_uniq hm h1 h2]; exact q _ H (Same.refl H) den_int
  · cases e
theorem rc_max1 : RcD K (fun xs H Q => ∃ (a : Addr) (ns : List Int), xs = [.ref a] ∧ SqL K H a (ns.map V.int) ∧ 0 < ns.length ∧ ∀ m, m ∈ ns → (∀ a, a ∈ ns → a ≤ m) → Q (.int m) H) max1D := by
  intro N H vs ds d Q nh h e q
  unfold max1D at e
  split at e
  · next xs =>
    cases hb : asIs xs with
    | none => rw [hb] at e; cases e
    | some bs =>
      rw [hb] at e
      simp only [Option.bind] at e
      cases hm : maxL bs with
      | none => rw [hm] at e; cases e
      | some k =>
        rw [hm] at e; cases e
        obtain ⟨v, rfl, hv⟩ := Paired.one' h
        obtain ⟨a, ws, e1, q1, r1⟩ := hv
        subst e1
        rw [asIs_map hb] at r1
        rw [denL_ints r1] at q1
        refine ⟨a, bs, rfl, q1, ?_, fun m h1 h2 => ?_⟩
        · cases bs with
          | nil => cases hm
          | cons => simp
        · rw [maxL_uniq hm h1 h2]; exact q _ H (Same.refl H) den_int
  · cases e
@[simp] def tyD : D → Option String
  | .non => some "NoneType"
  | .bl _ => some "bool"
  | .int _ => some "int"
  | .str _ => some "str"
  | .tup _ => some "tuple"
  | .lst _ => some "list"
  | .lst _ true => none
  | .ty _ => none
def tyLe (t n : String) : Bool := t == n || (t == "bool" && n == "int")
end
def tyNames : List String := ["NoneType", "bool", "int", "str", "tuple", "list"]
theorem kit_all (K : PySem.W.Frag) : ∀ t ∈ tyNames, ∀ n ∈ tyNames, PySem.W.kitOne K (.type t) (.type n) = some (tyLe t n) := by
  intro t ht n hn
  simp only [tyNames, List.mem_cons, List.not_mem_nil, or_false] at ht hn
  rcases ht with rfl | rfl | rfl | rfl | rfl | rfl <;> rcases hn with rfl | rfl | rfl | rfl | rfl | rfl <;> with_unfolding_all rfl
theorem kit_any (K : PySem.W.Frag) {t : String} (ht : t ∈ tyNames) : ∀ (ns : List String), (∀ n ∈ ns, n ∈ tyNames) → PySem.W.kitAny K (.type t) (ns.map Value.type) = some (ns.any fun n => tyLe t n)
  | [], _ => rfl
  | n :: ns, h => by
    have h1 := kit_all K t ht n (h n List.mem_cons_self)
    have h2 := kit_any K ht ns fun m hm => h m (List.mem_cons_of_mem _ hm)
    simp only [List.map_cons, PySem.W.kitAny, h1, h2, List.any_cons]
    cases tyLe t n <;> rfl
theorem tyD_mem {d : D} {t : String} (h : tyD d = some t) : t ∈ tyNames := by
  cases d with
  | lst xs fl => cases fl <;> simp [tyD] at h; subst h; simp [tyNames]
  | _ => simp [tyD] at h <;> subst h <;> simp [tyNames]
section
variable {X : Cx} {K : PySem.W.Frag}
theorem kitx_D {pins : List (Addr × Obj)} {σ : St} {H : Hp} {s : Shared} (I : Inv X pins σ H s) {N : Fb} {d : D} {x : V} {u : Value} {t : String} (hx : DenP X.K N H d x) (rx : RelV x u) (ht : tyD d = some t) :
    ∃ HP : Heap → Prop, PySem.W.KitX X.K u (.type t) HP ∧ HP s.heap ∧ u ≠ .builtin "__main__.__loader__#opaque" := by
  cases d with
  | non => cases ht; rw [hx.non] at rx; cases rx; exact ⟨_, PySem.W.kitx_none, trivial, fun z => nomatch z⟩
  | bl b => cases ht; rw [hx.bl] at rx; cases rx; exact ⟨_, PySem.W.kitx_bool, trivial, fun z => nomatch z⟩
  | int b => cases ht; rw [hx.int] at rx; obtain ⟨t, rfl⟩ := rx; exact ⟨_, PySem.W.kitx_int, trivial, fun z => nomatch z⟩
  | str b => cases ht; rw [hx.str] at rx; obtain ⟨t, rfl⟩ := rx; exact ⟨_, PySem.W.kitx_str, trivial, fun z => nomatch z⟩
  | ty n => cases ht
  | tup xs =>
    cases ht
    obtain ⟨a, vs, e, q, r⟩ := hx.tup
    subst e; cases rx
    obtain ⟨its, _, ⟨o, h1, h2, _⟩, _⟩ := I.tuple q
    exact ⟨_, PySem.W.kitx_tuple, ⟨o, h1, h2⟩, fun z => nomatch z⟩
  | lst xs fl =>
    cases fl with
    | true => cases ht
    | false =>
    cases ht
    obtain ⟨a, vs, e, q, r⟩ := hx
    subst e; cases rx
    obtain ⟨its, _, ⟨o, n, h1, h2, _⟩, _⟩ := I.list q
    exact ⟨_, PySem.W.kitx_list, ⟨o, h1, h2⟩, fun z => nomatch z⟩
@[simp] def tysOf : D → Option (List String)
  | .ty n => some [n]
  | .tup xs => tysL xs
  | _ => none
where tysL : List D → Option (List String)
  | [] => some []
  | .ty n :: r => (tysL r).map (n :: ·)
  | _ => none
theorem tysL_map : ∀ {xs : List D} {ns : List String}, tysOf.tysL xs = some ns → xs = ns.map D.ty
  | [], _, e => by cases e; rfl
  | .ty b :: r, _, e => by
    simp only [tysOf.tysL] at e
    cases h : tysOf.tysL r with
    | none => rw [h] at e; cases e
    | some bs => rw [h] at e; cases e; rw [tysL_map h]; rfl
  | .non :: _, _, e => nomatch e
  | .bl _ :: _, _, e => nomatch e
  | .int _ :: _, _, e => nomatch e
  | .str _ :: _, _, e => nomatch e
  | .tup _ :: _, _, e => nomatch e
  | .lst _ _ :: _, _, e => nomatch e
@[simp] def isD : List D → Option D
  | [x, c] => (tysOf c).bind fun ns => if (∀ n ∈ ns, n ∈ tyNames) then (tyD x).map fun t => .bl (ns.any fun n => tyLe t n) else none
  | _ => none
def rIsD (K : PySem.W.Frag) : List V → Hp → VK → Prop := fun vs H Q => ∃ N d c x y ns t, vs = [x, y] ∧ DenP K N H d x ∧ DenP K N H c y ∧ tysOf c = some ns ∧ (∀ n ∈ ns, n ∈ tyNames) ∧ tyD d = some t ∧ Q (.bl (ns.any fun n => tyLe t n)) H
theorem denL_tys {N : Fb} {H : Hp} : ∀ {ns : List String} {vs : List V}, DenL K N H (ns.map D.ty) vs → vs = ns.map V.ty
  | [], _, h => by simpa only [List.map_nil, DenL] using h
  | b :: bs, _, h => by
    simp only [List.map_cons, DenL, Den] at h
    obtain ⟨v, r, e, hv, t⟩ := h
    subst e hv
    rw [denL_tys t]; rfl
theorem vals_tys : ∀ {ns : List String} {us : List Value}, Vals (ns.map V.ty) us → us = ns.map Value.type
  | [], _, r => by cases r; rfl
  | n :: ns, _, r => by
    cases r with
    | cons r1 r2 => cases r1; rw [vals_tys r2]; rfl
theorem call_isD : CallR X (.builtin "isinstance") (rIsD X.K) := by
  intro pins s σ H xs us Q I r h
  obtain ⟨N, d, c, x, y, ns, t, rfl, hx, hy, hns, hin, ht, q⟩ := h
  obtain ⟨u, w', rfl, rx, ry⟩ := vals2 r
  obtain ⟨HP, Z, p, hne⟩ := kitx_D I hx rx ht
  cases c with
  | ty n =>
    cases hns
    rw [hy.ty] at ry; cases ry
    refine PySem.W.kia_one Z I.kIn p (kit_all X.K t (tyD_mem ht) n (hin n (by simp))) hne fun tk => ⟨.bl _, H, I.tok tk, rfl, ?_⟩
    simpa using q
  | tup xs =>
    have e := tysL_map hns
    subst e
    obtain ⟨a, vs, e, sq, dl⟩ := hy.tup
    subst e; cases ry
    obtain ⟨its, rv, ⟨⟨cls, dd, data, sl⟩, h1, h2, n, h3⟩, _⟩ := I.tuple sq
    simp only at h2 h3
    subst h2 h3
    have e2 := denL_tys dl
    subst e2
    have e3 := vals_tys rv
    subst e3
    exact PySem.W.kia_tup Z I.kIn p h1 (kit_any X.K (tyD_mem ht) ns hin) hne fun tk => ⟨.bl _, H, I.tok tk, rfl, q⟩
  | non => cases hns
  | bl _ => cases hns
  | int _ => cases hns
  | str _ => cases hns
  | lst _ => cases hns
theorem rc_is : RcD K (rIsD K) isD := by
  intro N H vs ds d Q nh h e q
  unfold isD at e
  split at e
  · next x c =>
    cases hc : tysOf c with
    | none => rw [hc] at e; cases e
    | some ns =>
      rw [hc] at e
      simp only [Option.bind] at e
      split at e
      · next hin =>
        cases ht : tyD x with
        | none => rw [ht] at e; cases e
        | some t =>
          rw [ht] at e; cases e
          obtain ⟨v, w, rfl, hv, hw⟩ := Paired.two' h
          exact ⟨N, x, c, v, w, ns, t, rfl, hv, hw, hc, hin, ht, q _ H (Same.refl H) den_bl⟩
      · cases e
  · cases e
theorem ve_tyn {M : Fb} {H0 : Hp} {x : Str} {n : String} {pos : Pos} (hg : Gl X x) (hm : X.mg x = none) (hv : bootBuiltins x = some (.type n)) (hn : x ≠ "__name__" := by decide) (hd : (x == ("__debug__" : Str)) = false := by decide) : PE X (.Name x pos) (tD K M H0 fun _ => some (.ty n)) :=
  ve_c (pe_bltn hg hm hv (v := .ty n) rfl hn hd) fun _ _ => by simp only [Den]
theorem j_ve_tyn {M : Fb} {H0 : Hp} {x : Str} {n : String} {pos : Pos} (hg : Gl X x) (hm : X.mg x = none) (hv : bootBuiltins x = some (.type n)) (hn : x ≠ "__name__" := by decide) (hd : (x == ("__debug__" : Str)) = false := by decide) : JE X (.Name x pos) (tD K M H0 fun _ => some (.ty n)) := ⟨ve_tyn hg hm hv hn hd⟩
theorem ve_glob {M : Fb} {H0 : Hp} {x : Str} {v : V} {d : D} {pos : Pos} (hg : Gl X x) (h : ∃ u, X.mg x = some u ∧ RelV v u) (hd : ∀ N H, Den K N H d v) (hdb : (x == ("__debug__" : Str)) = false := by decide) : PE X (.Name x pos) (tD K M H0 fun _ => some d) := by
  obtain ⟨u, hm, r⟩ := h
  exact ve_c (pe_glob hg hm r hdb) hd
theorem j_ve_glob {M : Fb} {H0 : Hp} {x : Str} {v : V} {d : D} {pos : Pos} (hg : Gl X x) (h : ∃ u, X.mg x = some u ∧ RelV v u) (hd : ∀ N H, Den K N H d v) (hdb : (x == ("__debug__" : Str)) = false := by decide) : JE X (.Name x pos) (tD K M H0 fun _ => some d) := ⟨ve_glob hg h hd hdb⟩
end
end L2
set_option Elab.async false
set_option linter.all false
set_option maxRecDepth 100000
namespace L2
open PySem PySem.Spec PyProof.Rows
section
variable {X : Cx} {K : PySem.W.Frag} {M : Fb} {H0 : Hp} {a b c e tg iter : Expr} {es : List Expr} {f g h : VE → Option D} {fa : VE → Option (List Sl)} {pos : Pos}
theorem vv (i : Nat) {x : Str} (hN : X.N[i]? = some x := by rfl) (hv : Vis X.env.scope x := by first | exact Or.inl rfl | exact Or.inr (Or.inl rfl) | exact Or.inr (Or.inr rfl)) (hd : (x == ("__debug__" : Str)) = false := by decide) (hcd : (x == ("__classdict__" : Str)) = false := by decide) :
    PE X (.Name x pos) (tD K M H0 fun ρ => rdV ρ i) := ve_var hN hv hd hcd
theorem j_vv (i : Nat) {x : Str} (hN : X.N[i]? = some x := by rfl) (hv : Vis X.env.scope x := by first | exact Or.inl rfl | exact Or.inr (Or.inl rfl) | exact Or.inr (Or.inr rfl)) (hd : (x == ("__debug__" : Str)) = false := by decide) (hcd : (x == ("__classdict__" : Str)) = false := by decide) : JE X (.Name x pos) (tD K M H0 fun ρ => rdV ρ i) := ⟨vv i hN hv hd hcd⟩
theorem vp (i : Nat) {x : Str} (hN : X.N[i]? = some x := by rfl) (hv : Vis X.env.scope x := by first | exact Or.inl rfl | exact Or.inr (Or.inl rfl) | exact Or.inr (Or.inr rfl)) (hd : (x == ("__debug__" : Str)) = false := by decide) (hcd : (x == ("__classdict__" : Str)) = false := by decide) :
    PE X (.Name x pos) (tP K M H0 fun ρ => rdP ρ i) := vp_var hN hv hd hcd
theorem j_vp (i : Nat) {x : Str} (hN : X.N[i]? = some x := by rfl) (hv : Vis X.env.scope x := by first | exact Or.inl rfl | exact Or.inr (Or.inl rfl) | exact Or.inr (Or.inr rfl)) (hd : (x == ("__debug__" : Str)) = false := by decide) (hcd : (x == ("__classdict__" : Str)) = false := by decide) : JE X (.Name x pos) (tP K M H0 fun ρ => rdP ρ i) := ⟨vp i hN hv hd hcd⟩
theorem vq (i : Nat) {x : Str} (hN : X.N[i]? = some x := by rfl) (hv : Vis X.env.scope x := by first | exact Or.inl rfl | exact Or.inr (Or.inl rfl) | exact Or.inr (Or.inr rfl)) (hd : (x == ("__debug__" : Str)) = false := by decide) (hcd : (x == ("__classdict__" : Str)) = false := by decide) :
    PE X (.Name x pos) (tQ K M H0 fun ρ => rdQ ρ i) := vq_var hN hv hd hcd
theorem j_vq (i : Nat) {x : Str} (hN : X.N[i]? = some x := by rfl) (hv : Vis X.env.scope x := by first | exact Or.inl rfl | exact Or.inr (Or.inl rfl) | exact Or.inr (Or.inr rfl)) (hd : (x == ("__debug__" : Str)) = false := by decide) (hcd : (x == ("__classdict__" : Str)) = false := by decide) : JE X (.Name x pos) (tQ K M H0 fun ρ => rdQ ρ i) := ⟨vq i hN hv hd hcd⟩
theorem va (i : Nat) {x : Str} (hN : X.N[i]? = some x := by rfl) (hv : Vis X.env.scope x := by first | exact Or.inl rfl | exact Or.inr (Or.inl rfl) | exact Or.inr (Or.inr rfl)) (hd : (x == ("__debug__" : Str)) = false := by decide) (hcd : (x == ("__classdict__" : Str)) = false := by decide) :
    PE X (.Name x pos) (tS1 K M H0 fun ρ => rdA ρ i) := va_var hN hv hd hcd
theorem j_va (i : Nat) {x : Str} (hN : X.N[i]? = some x := by rfl) (hv : Vis X.env.scope x := by first | exact Or.inl rfl | exact Or.inr (Or.inl rfl) | exact Or.inr (Or.inr rfl)) (hd : (x == ("__debug__" : Str)) = false := by decide) (hcd : (x == ("__classdict__" : Str)) = false := by decide) : JE X (.Name x pos) (tS1 K M H0 fun ρ => rdA ρ i) := ⟨va i hN hv hd hcd⟩
theorem vc_eq (hu : X.A.units + 64 < cLine) (ha : PE X a (tP X.K M H0 f)) (hb : PE X b (tP X.K M H0 g)) : PE X (.Compare a [.Eq] [b] pos) (tD X.K M H0 (bin2 eqO f g)) := ve_cmp (op_eqD hu) r2_eq ha hb (nobehind _ (by decide) (by decide))
theorem j_vc_eq (hu : X.A.units + 64 < cLine) (ha : JE X a (tP X.K M H0 f)) (hb : JE X b (tP X.K M H0 g)) : JE X (.Compare a [.Eq] [b] pos) (tD X.K M H0 (bin2 eqO f g)) := ⟨vc_eq hu ha.h hb.h⟩
theorem vc_in (hu : X.A.units + 64 < cLine) (ha : PE X a (tP X.K M H0 f)) (hb : PE X b (tP X.K M H0 g)) (hm : behindInMarks .In b = false := by with_unfolding_all rfl) : PE X (.Compare a [.In] [b] pos) (tD X.K M H0 (bin2 (inD false) f g)) := ve_cmp ((op_inD hu).or op_in_str) r2_in ha hb hm
theorem j_vc_in (hu : X.A.units + 64 < cLine) (ha : JE X a (tP X.K M H0 f)) (hb : JE X b (tP X.K M H0 g)) (hm : behindInMarks .In b = false := by with_unfolding_all rfl) : JE X (.Compare a [.In] [b] pos) (tD X.K M H0 (bin2 (inD false) f g)) := ⟨vc_in hu ha.h hb.h hm⟩
theorem vtc_eq (hu : X.A.units + 64 < cLine) (ha : PE X a (tP X.K M H0 f)) (hb : PE X b (tP X.K M H0 g)) : PT X (.Compare a [.Eq] [b] pos) (tB' X.K M H0 fun ρ => asB (bin2 eqO f g ρ)) := vt_cmp (op_eqD hu) r2_eq ha hb (nobehind _ (by decide) (by decide))
theorem j_vtc_eq (hu : X.A.units + 64 < cLine) (ha : JE X a (tP X.K M H0 f)) (hb : JE X b (tP X.K M H0 g)) : JT X (.Compare a [.Eq] [b] pos) (tB' X.K M H0 fun ρ => asB (bin2 eqO f g ρ)) := ⟨vtc_eq hu ha.h hb.h⟩
theorem vtc_ne (hu : X.A.units + 64 < cLine) (ha : PE X a (tP X.K M H0 f)) (hb : PE X b (tP X.K M H0 g)) : PT X (.Compare a [.NotEq] [b] pos) (tB' X.K M H0 fun ρ => asB (bin2 neO f g ρ)) := vt_cmp (op_neD hu) r2_ne ha hb (nobehind _ (by decide) (by decide))
theorem j_vtc_ne (hu : X.A.units + 64 < cLine) (ha : JE X a (tP X.K M H0 f)) (hb : JE X b (tP X.K M H0 g)) : JT X (.Compare a [.NotEq] [b] pos) (tB' X.K M H0 fun ρ => asB (bin2 neO f g ρ)) := ⟨vtc_ne hu ha.h hb.h⟩
theorem vtc_lt (hu : X.A.units + 64 < cLine) (ha : PE X a (tP X.K M H0 f)) (hb : PE X b (tP X.K M H0 g)) : PT X (.Compare a [.Lt] [b] pos) (tB' X.K M H0 fun ρ => asB (bin2 ltO f g ρ)) := vt_cmp (op_ltD hu) r2_lt ha hb (nobehind _ (by decide) (by decide))
theorem j_vtc_lt (hu : X.A.units + 64 < cLine) (ha : JE X a (tP X.K M H0 f)) (hb : JE X b (tP X.K M H0 g)) : JT X (.Compare a [.Lt] [b] pos) (tB' X.K M H0 fun ρ => asB (bin2 ltO f g ρ)) := ⟨vtc_lt hu ha.h hb.h⟩
theorem vtc_gt (hu : X.A.units + 64 < cLine) (ha : PE X a (tP X.K M H0 f)) (hb : PE X b (tP X.K M H0 g)) : PT X (.Compare a [.Gt] [b] pos) (tB' X.K M H0 fun ρ => asB (bin2 gtD f g ρ)) := vt_cmp op_gt (r2_b0 _) ha hb (nobehind _ (by decide) (by decide))
theorem j_vtc_gt (hu : X.A.units + 64 < cLine) (ha : JE X a (tP X.K M H0 f)) (hb : JE X b (tP X.K M H0 g)) : JT X (.Compare a [.Gt] [b] pos) (tB' X.K M H0 fun ρ => asB (bin2 gtD f g ρ)) := ⟨vtc_gt hu ha.h hb.h⟩
theorem vtc_ge (hu : X.A.units + 64 < cLine) (ha : PE X a (tP X.K M H0 f)) (hb : PE X b (tP X.K M H0 g)) : PT X (.Compare a [.GtE] [b] pos) (tB' X.K M H0 fun ρ => asB (bin2 geD f g ρ)) := vt_cmp op_ge (r2_b0 _) ha hb (nobehind _ (by decide) (by decide))
theorem j_vtc_ge (hu : X.A.units + 64 < cLine) (ha : JE X a (tP X.K M H0 f)) (hb : JE X b (tP X.K M H0 g)) : JT X (.Compare a [.GtE] [b] pos) (tB' X.K M H0 fun ρ => asB (bin2 geD f g ρ)) := ⟨vtc_ge hu ha.h hb.h⟩
@[simp] def chainO (F F' : D → D → Option D) (f g h : VE → Option D) : VE → Option D := fun ρ => (f ρ).bind fun x => (g ρ).bind fun y => match F x y with
  | some (.bl true) => (h ρ).bind fun z => F' y z
  | some (.bl false) => some (.bl false)
  | _ => none
@[simp] def truD : Option D → Option Bool
  | some .non => some false
  | some (.bl b) => some b
  | some (.int i) => some (i != 0)
  | some (.str y) => if y.length ≤ sizeLine then some ((y.length : Int) != 0) else none
  | some (.lst xs) => some (!xs.isEmpty)
  | some (.tup xs) => some (!xs.isEmpty)
  | _ => none
theorem DenL.isEmpty {N : Fb} {H : Hp} {xs : List D} {vs : List V} (h : DenL K N H xs vs) : vs.isEmpty = xs.isEmpty := by
  cases xs with
  | nil => simp only [DenL] at h; subst h; rfl
  | cons x xs => simp only [DenL] at h; obtain ⟨_, _, e, _⟩ := h; subst e; rfl
theorem vt_tru (ha : PE X a (tP X.K M H0 f)) (he : ∀ whole, isTrue a X.env whole = (do let v ← whole; standAt a.pos; holding [v] (truthy v)) := by intro _; rfl) : PT X a (tB' X.K M H0 fun ρ => truD (f ρ)) :=
  (pt_truth ha he).mono fun σ H Q ⟨ρ, k, R, e, q⟩ => by
    try dsimp only at e q
    unfold truD at e
    split at e
    · next hf => cases e; exact ⟨ρ, _, R, hf, fun v H' s hv => ⟨_, by rw [hv.non]; rfl, q H' s⟩⟩
    · next hf => cases e; exact ⟨ρ, _, R, hf, fun v H' s hv => ⟨_, by rw [hv.bl]; rfl, q H' s⟩⟩
    · next hf => cases e; exact ⟨ρ, _, R, hf, fun v H' s hv => ⟨_, by rw [hv.int]; rfl, q H' s⟩⟩
    · next hf =>
      split at e
      · next hz => cases e; exact ⟨ρ, _, R, hf, fun v H' s hv => ⟨_, by rw [hv.str]; exact ⟨hz, rfl⟩, q H' s⟩⟩
      · cases e
    · next hf =>
      cases e
      refine ⟨ρ, _, R, hf, fun v H' s hv => ⟨_, ?_, q H' s⟩⟩
      obtain ⟨p, vs, e1, q1, r1⟩ := hv
      subst e1
      exact .inl ⟨vs, q1, by rw [r1.isEmpty]⟩
    · next hf =>
      cases e
      refine ⟨ρ, _, R, hf, fun v H' s hv => ⟨_, ?_, q H' s⟩⟩
      obtain ⟨p, vs, e1, q1, r1⟩ := hv.tup
      subst e1
      exact .inr (.inl ⟨vs, q1, by rw [r1.isEmpty]⟩)
    · cases e
theorem j_vt_tru (ha : JE X a (tP X.K M H0 f)) (he : ∀ whole, isTrue a X.env whole = (do let v ← whole; standAt a.pos; holding [v] (truthy v)) := by intro _; rfl) : JT X a (tB' X.K M H0 fun ρ => truD (f ρ)) := ⟨vt_tru ha.h he⟩
@[simp] def seqItems : D → Option (List D)
  | .lst xs => some xs
  | .tup xs => some xs
  | .str x => some (x.cps.toList.map fun c => D.str ⟨#[c]⟩)
  | _ => none
theorem vi_seq {l : Expr} (hl : PE X l (tQ X.K M H0 f)) : PI X tg l (tI X.K M H0 fun ρ => (f ρ).bind seqItems) := fun pins s σ H R' I ⟨ρ, ds, R, e, q⟩ => by
  try dsimp only at e
  cases hf : f ρ with
  | none => rw [hf] at e; cases e
  | some d =>
    rw [hf] at e
    cases d with
    | lst xs fl =>
      cases fl with
      | true => cases e
      | false => exact vi_list hl pins s σ H R' I ⟨ρ, ds, R, by dsimp only; rw [hf]; exact e, q⟩
    | tup xs => exact vi_tup hl pins s σ H R' I ⟨ρ, ds, R, by dsimp only; rw [hf]; exact e, q⟩
    | str x => exact vi_str hl pins s σ H R' I ⟨ρ, ds, R, by dsimp only; rw [hf]; exact e, q⟩
    | _ => cases e
theorem j_vi_seq {l : Expr} (hl : JE X l (tQ X.K M H0 f)) : JI X tg l (tI X.K M H0 fun ρ => (f ρ).bind seqItems) := ⟨vi_seq hl.h⟩
@[simp] def extR (i : Nat) (o : Option (List D)) (ρ : VE) : Res := match rdO ρ i, o with
  | some xs, some ys => if xs.length + ys.length ≤ sizeLine then .next (ρ.set i (.own (xs ++ ys))) else .fail
  | _, _ => .fail
@[simp] def revR (i : Nat) (ρ : VE) : Res := match rdO ρ i with
  | some xs => .next (ρ.set i (.own xs.reverse))
  | _ => .fail
@[simp] def movR (i j : Nat) (ρ : VE) : Res := match rdO ρ j with
  | some xs => .next ((ρ.set j .no).set i (.own xs))
  | _ => .fail
@[simp] def movG (i j : Nat) (ρ : VE) : Res := match rdG ρ j with
  | some xs => .next ((ρ.set j .no).set i (.own xs true))
  | _ => .fail
end
end L2
namespace L2
theorem PSs.conv {X : Cx} {K : PySem.W.Frag} {M : Fb} {H0 : Hp} {b : List PySem.Stmt} {g g' : VE → Res} (h : PSs X b (tS K M H0 g)) (e : g = g') : PSs X b (tS K M H0 g') := e ▸ h
theorem j_conv {X : Cx} {K : PySem.W.Frag} {M : Fb} {H0 : Hp} {b : List PySem.Stmt} {g g' : VE → Res} (h : JB X b (tS K M H0 g)) (e : g = g') : JB X b (tS K M H0 g') := ⟨PSs.conv h.h e⟩
end L2
namespace L2
theorem j_pt {X : Cx} {e : PySem.Expr} {t : TT} (h : JW X e t) : JT X e t := ⟨h.h.pt⟩
end L2
set_option Elab.async false
set_option linter.all false
set_option maxRecDepth 100000
namespace L2
open PySem PySem.Spec PyProof.Rows
def isrt (ns : List Int) : List Int := ns.mergeSort fun a b => decide (a ≤ b)
section
variable {X : Cx} {K : PySem.W.Frag}
def sortD : List D → Option (List D)
  | [.lst xs] => (asIs xs).bind fun ns => if ns.length < 64 then some ((isrt ns).map D.int) else none
  | _ => none
def RmD (K : PySem.W.Frag) (r : V → List V → Hp → VK → Prop) (F : Str → List D → Option D) : Prop := ∀ (N : Fb) (H : Hp) (z : Str) (vs : List V) (ds : List D) (d : D) (Q : VK), (∀ a, N a → H a ≠ none) → Paired (DenP K N H) ds vs → F z ds = some d →
  (∀ v H', Same H H' → Den K N H' d v → Q v H') → r (.str z) vs H Q
@[simp] def mtO (F : Str → List D → Option D) (f : VE → Option D) (fa : VE → Option (List Sl)) : VE → Option D := fun ρ => match f ρ with
  | some (.str z) => ((fa ρ).bind pks).bind (F z)
  | _ => none
@[simp] def mtO0 (F : Str → List D → Option D) (f : VE → Option D) : VE → Option D := fun ρ => match f ρ with
  | some (.str z) => F z []
  | _ => none
section
variable {M : Fb} {H0 : Hp} {o e : Expr} {es : List Expr} {f : VE → Option D} {fa : VE → Option (List Sl)} {name : Str} {apos cpos : Pos} {id : String} {r : V → List V → Hp → VK → Prop} {F : Str → List D → Option D}
theorem ve_bm (pa : PlainAttrs "str") (slot : Slot "str" name id) (hty : typeOf (.builtin id) = pure (.type "method_descriptor")) (hm : MtR X id r) (hF : RmD X.K r F) (ho : PE X o (tP X.K M H0 f)) (ha : PA X (e :: es) (tA' X.K M H0 fa))
    (hbase : attributeBase o name X.env (eval o X.env) = eval o X.env := by rfl)
    (hfew : ((backTo cpos (starEach (e :: es) X.env)).all (fun x => !x.1) && (backToKw cpos (keywordEach [] X.env)).all (fun x => x.1.isSome)
      && decide ((e :: es).length + ([] : List Keyword).length + (if ([] : List Keyword).isEmpty then 0 else 1) < 30)) = true := by rfl)
    (hline : (apos.endLine == cpos.line) = true := by rfl) (hs : starEach (e :: es) X.env = (false, eval e X.env) :: starEach es X.env := by exact star_c (fun _ _ z => nomatch z)) (hplain : (backTo cpos (starEach es X.env)).any (·.1) = false := by rfl) :
    PE X (.Call (.Attribute o name apos) (e :: es) [] cpos) (tD X.K M H0 (mtO F f fa)) := (pe_bm pa slot hty hm ho ha hbase hfew hline hs hplain).mono fun σ H Q ⟨ρ, d, R, ex, q⟩ => by
  unfold mtO at ex
  split at ex
  · next z hz =>
    cases hf : fa ρ with
    | none => rw [hf] at ex; cases ex
    | some ss =>
      rw [hf] at ex
      cases hp : pks ss with
      | none => simp only [Option.bind, hp] at ex; cases ex
      | some ds =>
        simp only [Option.bind, hp] at ex
        refine ⟨ρ, .str z, R, hz, fun v H1 s1 hv => ?_⟩
        rw [hv.str]
        refine ⟨rfl, ρ, ss, R.st s1, hf, fun vs H2 s2 h2 => ?_⟩
        exact hF _ H2 z vs ds d Q ((R.st s1).st s2).nh (pks_den h2 hp) ex fun w H3 s3 hw => q w H3 ((s1.trans s2).trans s3) hw
  · cases ex
theorem j_ve_bm (pa : PlainAttrs "str") (slot : Slot "str" name id) (hty : typeOf (.builtin id) = pure (.type "method_descriptor")) (hm : MtR X id r) (hF : RmD X.K r F) (ho : JE X o (tP X.K M H0 f)) (ha : JA X (e :: es) (tA' X.K M H0 fa)) (hbase : attributeBase o name X.env (eval o X.env) = eval o X.env := by rfl) (hfew : ((backTo cpos (starEach (e :: es) X.env)).all (fun x => !x.1) && (backToKw cpos (keywordEach [] X.env)).all (fun x => x.1.isSome)
      && decide ((e :: es).length + ([] : List Keyword).length + (if ([] : List Keyword).isEmpty then 0 else 1) < 30)) = true := by rfl) (hline : (apos.endLine == cpos.line) = true := by rfl) (hs : starEach (e :: es) X.env = (false, eval e X.env) :: starEach es X.env := by exact star_c (fun _ _ z => nomatch z)) (hplain : (backTo cpos (starEach es X.env)).any (·.1) = false := by rfl) : JE X (.Call (.Attribute o name apos) (e :: es) [] cpos) (tD X.K M H0 (mtO F f fa)) := ⟨ve_bm pa slot hty hm hF ho.h ha.h hbase hfew hline hs hplain⟩
end
def asSs : List D → Option (List Str)
  | [] => some []
  | .str b :: r => (asSs r).map (b :: ·)
  | _ => none
theorem asSs_map : ∀ {xs : List D} {bs : List Str}, asSs xs = some bs → xs = bs.map D.str
  | [], _, e => by cases e; rfl
  | .str b :: r, _, e => by
    simp only [asSs] at e
    cases h : asSs r with
    | none => rw [h] at e; cases e
    | some bs => rw [h] at e; cases e; rw [asSs_map h]; rfl
  | .non :: _, _, e => nomatch e
  | .bl _ :: _, _, e => nomatch e
  | .int _ :: _, _, e => nomatch e
  | .ty _ :: _, _, e => nomatch e
  | .tup _ :: _, _, e => nomatch e
  | .lst _ _ :: _, _, e => nomatch e
@[simp] theorem asSs_eq : ∀ (ns : List Str), asSs (ns.map D.str) = some ns
  | [] => rfl
  | n :: ns => by simp only [List.map_cons, asSs, asSs_eq ns]; rfl
theorem denL_strs {N : Fb} {H : Hp} : ∀ {bs : List Str} {vs : List V}, DenL K N H (bs.map D.str) vs → vs = bs.map V.str
  | [], _, h => by simpa only [List.map_nil, DenL] using h
  | b :: bs, _, h => by
    simp only [List.map_cons, DenL, Den] at h
    obtain ⟨v, r, e, hv, t⟩ := h
    subst e hv
    rw [denL_strs t]; rfl
@[simp] def joinD (z : Str) : List D → Option D
  | [.lst xs] => (asSs xs).bind fun zs => if (zs.map (·.length)).sum + zs.length * z.length ≤ 16777216 then some (.str (Txt.join z zs)) else none
  | _ => none
theorem rm_join : RmD K (rJoin K) joinD := by
  intro N H z vs ds d Q nh h e q
  unfold joinD at e
  split at e
  · next xs =>
    cases hb : asSs xs with
    | none => rw [hb] at e; cases e
    | some zs =>
      rw [hb] at e
      simp only [Option.bind] at e
      split at e
      · next hz =>
        cases e
        obtain ⟨v, rfl, hv⟩ := Paired.one' h
        obtain ⟨a, ws, e1, q1, r1⟩ := hv
        subst e1
        rw [asSs_map hb] at r1
        rw [denL_strs r1] at q1
        exact ⟨z, a, zs, rfl, rfl, q1, hz, q _ H (Same.refl H) den_str⟩
      · cases e
  · cases e
@[simp] def findD (z : Str) : List D → Option D
  | [.str y] => some (.int (Txt.find z y))
  | _ => none
@[simp] def upperD (z : Str) : List D → Option D
  | [] => if Builtin.Str.tooLong (Txt.upper z).length = false then some (.str (Txt.upper z)) else none
  | _ => none
end
end L2
set_option Elab.async false
set_option linter.all false
set_option maxRecDepth 100000
namespace L2
open PySem PySem.Spec PyProof.Rows
section
variable {prog : Program} {w : World} {A : Around} {E : Value → Shared → Prop} {s : Shared}
section
variable {z tin tout ia ib : Addr} {fa fb : List Addr} {n m k : Nat} {isA isB : Nat → Value → Prop} {sa sb : Nat → Heap → Prop} {a b : Value}
end
end
end L2
set_option Elab.async false
set_option linter.all false
set_option maxRecDepth 100000
namespace L2
open PySem PySem.Spec PyProof.Rows
section
variable {X : Cx} {pins : List (Addr × Obj)} {σ : St} {H : Hp} {s : Shared} {h' : Heap}
end
inductive Src where
  | l (a : Addr)
  | t (a : Addr)
@[reducible] def Src.ad : Src → Addr
  | .l a => a
  | .t a => a
def Src.sq (K : PySem.W.Frag) (H : Hp) : Src → List V → Prop
  | .l a => SqL K H a
  | .t a => SqT K H a
def Src.nm : Src → String
  | .l _ => "list_iterator"
  | .t _ => "tuple_iterator"
def Src.ok (h : Heap) (its : Array Value) : Src → Prop
  | .l a => h.IsList a its
  | .t a => h.IsTuple a its
def Src.it (h : Heap) (i : Addr) (k : Nat) : Src → Prop
  | .l a => h.IsListIter i a k
  | .t a => h.IsTupleIter i a k
theorem Src.of (S : Src) {X : Cx} {pins : List (Addr × Obj)} {σ : St} {H : Hp} {s : Shared} {xs : List V} (I : Inv X pins σ H s) (h : S.sq X.K H xs) : ∃ its : List Value, Vals xs its ∧ S.ok s.heap its.toArray ∧ xs.length ≤ sizeLine := by
  cases S with
  | l a => obtain ⟨its, r, p, z⟩ := I.list h; exact ⟨its, r, p.isList, z⟩
  | t a => obtain ⟨its, r, p, z⟩ := I.tuple h; exact ⟨its, r, (show s.heap.IsTuple a its.toArray from p), z⟩
theorem Src.inj (S : Src) {X : Cx} {pins : List (Addr × Obj)} {σ : St} {H : Hp} {s : Shared} {xs ys : List V} (I : Inv X pins σ H s) (h : S.sq X.K H xs) (h' : S.sq X.K H ys) : xs = ys := by
  cases S with
  | l a => exact I.list_inj h h'
  | t a => exact I.tuple_inj h h'
theorem Src.lt (S : Src) {h : Heap} {its : Array Value} (p : S.ok h its) : S.ad < h.objs.size := by
  cases S with
  | l a => obtain ⟨o, e, _⟩ := p; exact Heap.lt_size e
  | t a => obtain ⟨o, e, _⟩ := p; exact Heap.lt_size e
def Src.obj (S : Src) : Obj := { cls := .type S.nm, data := .fields #[.ref S.ad, .int 0 0] }
theorem Src.pyIter (S : Src) {prog : Program} {w : World} {A : Around} {E : Value → Shared → Prop} {s : Shared} {its : Array Value} {Q : Value → Shared → Prop} (p : S.ok s.heap its)
    (q : Q (.ref s.heap.objs.size) { s with heap := s.heap.push S.obj }) : wpAny (model prog w) A (pyIter (.ref S.ad)) Q E s := by
  cases S with
  | l a => exact wpAny_pyIter_list p q
  | t a => exact wpAny_pyIter_tuple p q
theorem Src.new (S : Src) {h : Heap} : S.it (h.push S.obj) h.objs.size 0 := by
  cases S with
  | l a => exact ⟨_, Heap.get?_push_size _ rfl, rfl, rfl⟩
  | t a => exact ⟨_, Heap.get?_push_size _ rfl, rfl, rfl⟩
end L2
set_option Elab.async false
set_option linter.all false
set_option maxRecDepth 100000
namespace L2
open PySem PySem.Spec PyProof.Rows
section
variable {prog : Program} {w : World} {A : Around} {E : Value → Shared → Prop} {s : Shared}
end
@[simp] def zsItems : D → Option (List D)
  | .lst xs => some xs
  | .tup xs => some xs
  | _ => none
@[simp] def zipO (f g : VE → Option D) : VE → Option (List D) := fun ρ => match (f ρ).bind zsItems, (g ρ).bind zsItems with
  | some xs, some ys => some (List.zipWith (fun x y => D.tup [x, y]) xs ys)
  | _, _ => none
section
variable {X : Cx} {M : Fb} {H0 : Hp} {f g : VE → Option D} {a b : Expr} {elts : List Expr} {p pos tpos : Pos}
end
end L2
set_option Elab.async false
set_option linter.all false
set_option maxRecDepth 100000
namespace L2
open PySem PySem.Spec PyProof.Rows
section
variable {prog : Program} {w : World} {A : Around} {E : Value → Shared → Prop} {s : Shared}
section
variable {e it : Addr} {fa : List Addr} {n k : Nat} {isA : Nat → Value → Prop} {sa : Nat → Heap → Prop} {old : Value}
end
end
def enumL : Nat → List D → List D
  | _, [] => []
  | k, d :: ds => .tup [.int k, d] :: enumL (k + 1) ds
@[simp] def enumO (f : VE → Option D) : VE → Option (List D) := fun ρ => match (f ρ).bind zsItems with
  | some xs => some (enumL 0 xs)
  | none => none
section
variable {X : Cx} {M : Fb} {H0 : Hp} {f : VE → Option D} {a : Expr} {elts : List Expr} {p pos tpos : Pos}
end
end L2
set_option Elab.async false
set_option linter.all false
set_option maxRecDepth 100000
namespace L2
open PySem PySem.Spec PyProof.Rows
abbrev T3 := KT × V × V
def flat3 : List T3 → List V
  | [] => []
  | t :: r => t.2.1 :: t.2.2 :: flat3 r
def val3 : List T3 → KT → Option V
  | [], _ => none
  | t :: r, k => if t.1 = k then some t.2.2 else val3 r k
def rep3 : List T3 → KT → V → List T3
  | [], _, _ => []
  | t :: r, k, v => (if t.1 = k then (t.1, t.2.1, v) else t) :: rep3 r k v
def put3 (tr : List T3) (k : KT) (kv v : V) : List T3 := if (val3 tr k).isSome = true then rep3 tr k v else tr ++ [(k, kv, v)]
abbrev RA : List T3 → List (At × Value) → Prop := Paired fun t u => t.1 = .at u.1 ∧ t.2.1 = atV u.1 ∧ RelV t.2.2 u.2
theorem RA.val : ∀ {tr : List T3} {us : List (At × Value)}, RA tr us → ∀ a, RelO (val3 tr (.at a)) (valueAt us a)
  | _, _, .nil, _ => True.intro
  | t :: r, u :: us, .cons ⟨h1, h2, h3⟩ hr, a => by
    have ih := RA.val hr a
    unfold val3 valueAt
    rw [h1, List.find?_cons]
    by_cases e : u.1 = a
    · rw [if_pos (by rw [e])]; simp only [e, decide_true]; exact h3
    · rw [if_neg (fun z => e (KT.at.inj z))]; simp only [e, decide_false]; exact ih
theorem RelO.isS : ∀ {o : Option V} {u : Option Value}, RelO o u → o.isSome = u.isSome
  | some _, some _, _ => rfl
  | none, none, _ => rfl
  | some _, none, h => h.elim
  | none, some _, h => h.elim
theorem RA.rep {a : At} {v : V} {u : Value} (rv : RelV v u) : ∀ {tr : List T3} {us : List (At × Value)}, RA tr us → RA (rep3 tr (.at a) v) (us.map fun kv => if kv.1 = a then (kv.1, u) else kv)
  | _, _, .nil => .nil
  | t :: r, w :: us, .cons ⟨h1, h2, h3⟩ hr => by
    have ih := RA.rep (a := a) rv hr
    unfold rep3
    rw [List.map_cons]
    refine .cons ?_ ih
    by_cases e : w.1 = a
    · rw [if_pos (by rw [h1, e]), if_pos e]; exact ⟨h1, h2, rv⟩
    · rw [if_neg (fun z => e (KT.at.inj (h1.symm.trans z))), if_neg e]; exact ⟨h1, h2, h3⟩
theorem Paired.snoc' {α β : Type} {F : α → β → Prop} {x : α} {y : β} (h : F x y) : ∀ {l : List α} {m : List β}, Paired F l m → Paired F (l ++ [x]) (m ++ [y])
  | _, _, .nil => .cons h .nil
  | _, _, .cons r t => .cons r (Paired.snoc' h t)
theorem any_val {us : List (At × Value)} {a : At} : (us.any fun kv => decide (kv.1 = a)) = (valueAt us a).isSome := by
  unfold valueAt
  rw [Option.isSome_map]
  induction us with
  | nil => rfl
  | cons x r ih =>
    rw [List.any_cons, List.find?_cons]
    cases decide (x.1 = a) with
    | true => rfl
    | false => simpa using ih
theorem RA.put {tr : List T3} {us : List (At × Value)} {a : At} {v : V} {u : Value} (h : RA tr us) (rv : RelV v u) : RA (put3 tr (.at a) (atV a) v) (stored us a u) := by
  unfold put3 stored
  rw [any_val, (h.val a).isS]
  by_cases e : (valueAt us a).isSome = true
  · rw [if_pos e, if_pos e]; exact h.rep rv
  · rw [if_neg e, if_neg e]; exact Paired.snoc' ⟨rfl, rfl, rv⟩ h
theorem RA.fst : ∀ {tr : List T3} {us : List (At × Value)}, RA tr us → tr.map (·.1) = (us.map (·.1)).map KT.at
  | _, _, .nil => rfl
  | t :: r, u :: us, .cons ⟨h1, _, _⟩ hr => by rw [List.map_cons, List.map_cons, List.map_cons, h1, RA.fst hr]
abbrev RT : List T3 → List (List At × Addr × Value) → Prop := Paired fun t u => t.1 = .tup u.1 ∧ t.2.1 = .ref u.2.1 ∧ RelV t.2.2 u.2.2
theorem RT.val : ∀ {tr : List T3} {us : List (List At × Addr × Value)}, RT tr us → ∀ l, RelO (val3 tr (.tup l)) ((atKey us l).map (·.2))
  | _, _, .nil, _ => True.intro
  | t :: r, u :: us, .cons ⟨h1, h2, h3⟩ hr, l => by
    have ih := RT.val hr l
    unfold val3 atKey
    rw [h1, List.find?_cons]
    by_cases e : u.1 = l
    · rw [if_pos (by rw [e])]; simp only [e, decide_true]; exact h3
    · rw [if_neg (fun z => e (KT.tup.inj z))]; simp only [e, decide_false]; exact ih
theorem RT.rep {l : List At} {v : V} {u : Value} (rv : RelV v u) : ∀ {tr : List T3} {us : List (List At × Addr × Value)}, RT tr us → RT (rep3 tr (.tup l) v) (us.map (putAt l u))
  | _, _, .nil => .nil
  | t :: r, w :: us, .cons ⟨h1, h2, h3⟩ hr => by
    have ih := RT.rep (l := l) rv hr
    unfold rep3
    rw [List.map_cons]
    refine .cons ?_ ih
    unfold putAt
    by_cases e : w.1 = l
    · rw [if_pos (by rw [h1, e]), if_pos e]; exact ⟨h1, h2, rv⟩
    · rw [if_neg (fun z => e (KT.tup.inj (h1.symm.trans z))), if_neg e]; exact ⟨h1, h2, h3⟩
theorem RT.put {tr : List T3} {us : List (List At × Addr × Value)} {l : List At} {p : Addr} {v : V} {u : Value} (h : RT tr us) (rv : RelV v u) : RT (put3 tr (.tup l) (.ref p) v) (storedH us l p u) := by
  unfold put3 storedH
  have e0 := (h.val l).isS
  rw [Option.isSome_map] at e0
  rw [e0]
  by_cases e : (atKey us l).isSome = true
  · rw [if_pos e, if_pos e]; exact h.rep rv
  · rw [if_neg e, if_neg e]; exact Paired.snoc' ⟨rfl, rfl, rv⟩ h
theorem RT.fst : ∀ {tr : List T3} {us : List (List At × Addr × Value)}, RT tr us → tr.map (·.1) = (us.map (·.1)).map KT.tup
  | _, _, .nil => rfl
  | t :: r, u :: us, .cons ⟨h1, _, _⟩ hr => by rw [List.map_cons, List.map_cons, List.map_cons, h1, RT.fst hr]
def KeyV (K : PySem.W.Frag) (H : Hp) : KT → V → Prop
  | .at a, v => v = atV a
  | .tup l, v => ∃ p, v = .ref p ∧ SqT K H p (l.map atV)
def IsDc (K : PySem.W.Frag) (H : Hp) (a : Addr) (tr : List T3) : Prop := Rd H a (.dct (tr.map (·.1)) (flat3 tr)) ∧ ∀ t ∈ tr, KeyV K H t.1 t.2.1
section
variable {X : Cx} {pins : List (Addr × Obj)} {σ : St} {H : Hp} {s : Shared} {a p : Addr} {y v : V} {u r : Value} {o : Option V} {A : Around} {E : Value → Shared → Prop} {tr : List T3} {k : KT}
theorem RelO.to : ∀ {v : V} {o : Option Value}, RelO (some v) o → ∃ w, o = some w ∧ RelV v w
  | _, some w, h => ⟨w, rfl, h⟩
  | _, none, h => h.elim
end
end L2
set_option Elab.async false
set_option linter.all false
set_option maxRecDepth 100000
namespace PySem
section
variable {prog : Program} {w : World} {K : Type} [DecidableEq K] {knd : HeapKind prog w K} {A : Around} {E : Value → Shared → Prop} {s : Shared}
end
end PySem
namespace L2
open PySem PySem.Spec PyProof.Rows
theorem IsDc.typeIs {X : Cx} {pins : List (Addr × Obj)} {σ : St} {H : Hp} {s : Shared} {a : Addr} {tr : List T3} (I : Inv X pins σ H s) (h : IsDc X.K H a tr) : s.TypeIs (.ref a) "dict" := by
  obtain ⟨_, _, _, o, _, _, e, c, _⟩ := h.1.ok I.hok
  exact ⟨o, e, c.1⟩
section
variable {X : Cx}
end
def okA : D → Option At
  | .non => some .non
  | .int i => some (.int i)
  | .str x => some (.str x)
  | _ => none
def okAs : List D → Option (List At)
  | [] => some []
  | d :: r => (okA d).bind fun a => (okAs r).map (a :: ·)
def okK : D → Option KT
  | .tup l => (okAs l).map KT.tup
  | d => (okA d).map KT.at
def aD : At → D
  | .non => .non
  | .int i => .int i
  | .str x => .str x
def kD : KT → D
  | .at a => aD a
  | .tup l => .tup (l.map aD)
theorem okA_aD (a : At) : okA (aD a) = some a := by cases a <;> rfl
theorem okAs_map : ∀ (l : List At), okAs (l.map aD) = some l
  | [] => rfl
  | a :: l => by rw [List.map_cons]; unfold okAs; rw [okA_aD, okAs_map l]; rfl
@[simp] theorem okK_kD (k : KT) : okK (kD k) = some k := by
  cases k with
  | «at» a => cases a <;> rfl
  | tup l => show (okAs (l.map aD)).map KT.tup = _; rw [okAs_map]; rfl
@[simp] theorem okK_non : okK .non = some (.at .non) := rfl
@[simp] theorem okK_int (i : Int) : okK (.int i) = some (.at (.int i)) := rfl
@[simp] theorem okK_str (x : Str) : okK (.str x) = some (.at (.str x)) := rfl
abbrev KDs := List (KT × D)
def flatD : KDs → List D
  | [] => []
  | p :: r => kD p.1 :: p.2 :: flatD r
def unf : List D → Option KDs
  | [] => some []
  | k :: v :: r => (okK k).bind fun kt => (unf r).map ((kt, v) :: ·)
  | _ => none
@[simp] theorem unf_flat : ∀ kvs : KDs, unf (flatD kvs) = some kvs
  | [] => rfl
  | p :: r => by unfold flatD unf; rw [okK_kD, unf_flat r]; rfl
@[simp] theorem unf_nil : unf [] = some [] := rfl
def valL : KDs → KT → Option D
  | [], _ => none
  | t :: r, k => if t.1 = k then some t.2 else valL r k
def repL : KDs → KT → D → KDs
  | [], _, _ => []
  | t :: r, k, v => (if t.1 = k then (t.1, v) else t) :: repL r k v
def putL (kvs : KDs) (k : KT) (v : D) : KDs := if (valL kvs k).isSome = true then repL kvs k v else kvs ++ [(k, v)]
def isAt : KT → Bool
  | .at _ => true
  | _ => false
def homL (k : KT) (kvs : KDs) : Bool := kvs.all fun p => isAt p.1 == isAt k
section
variable {K : PySem.W.Frag} {N : Fb} {H : Hp}
abbrev PD (K : PySem.W.Frag) (N : Fb) (H : Hp) : KDs → List T3 → Prop := Paired fun p t => p.1 = t.1 ∧ Den K N H (kD p.1) t.2.1 ∧ Den K N H p.2 t.2.2
theorem PD.fst : ∀ {kvs : KDs} {tr : List T3}, PD K N H kvs tr → kvs.map (·.1) = tr.map (·.1)
  | _, _, .nil => rfl
  | _, _, .cons ⟨h1, _, _⟩ t => by rw [List.map_cons, List.map_cons, h1, PD.fst t]
def RelD (K : PySem.W.Frag) (N : Fb) (H : Hp) : Option D → Option V → Prop
  | some d, some v => Den K N H d v
  | none, none => True
  | _, _ => False
theorem PD.val : ∀ {kvs : KDs} {tr : List T3}, PD K N H kvs tr → ∀ k, RelD K N H (valL kvs k) (val3 tr k)
  | _, _, .nil, _ => True.intro
  | p :: kvs, t :: tr, .cons ⟨h1, _, h2⟩ r, k => by
    have ih := PD.val r k
    unfold valL val3
    rw [h1]
    split
    · exact h2
    · exact ih
theorem RelD.isS : ∀ {o : Option D} {u : Option V}, RelD K N H o u → o.isSome = u.isSome
  | some _, some _, _ => rfl
  | none, none, _ => rfl
  | some _, none, h => h.elim
  | none, some _, h => h.elim
theorem PD.rep {k : KT} {d : D} {v : V} (hd : Den K N H d v) : ∀ {kvs : KDs} {tr : List T3}, PD K N H kvs tr → PD K N H (repL kvs k d) (rep3 tr k v)
  | _, _, .nil => .nil
  | p :: kvs, t :: tr, .cons ⟨h1, h2, h3⟩ r => by
    have ih := PD.rep (k := k) hd r
    unfold repL rep3
    rw [h1]
    refine .cons ?_ ih
    split
    · exact ⟨rfl, h1 ▸ h2, hd⟩
    · exact ⟨h1, h2, h3⟩
theorem PD.put {kvs : KDs} {tr : List T3} {k : KT} {d : D} {kv v : V} (h : PD K N H kvs tr) (hk : Den K N H (kD k) kv) (hd : Den K N H d v) : PD K N H (putL kvs k d) (put3 tr k kv v) := by
  unfold putL put3
  rw [(h.val k).isS]
  split
  · exact h.rep hd
  · exact Paired.snoc' ⟨rfl, hk, hd⟩ h
end
def dgetD : D → D → Option D
  | .lst xs true, y => (unf xs).bind fun kvs => (okK y).bind fun k => if homL k kvs then valL kvs k else none
  | _, _ => none
@[simp] theorem dgetD_flat (kvs : KDs) (y : D) : dgetD (.lst (flatD kvs) true) y = (okK y).bind fun k => if homL k kvs then valL kvs k else none := by simp [dgetD]
@[simp] theorem dgetD_nil (y : D) : dgetD (.lst [] true) y = (okK y).bind fun k => none := by simp [dgetD, valL]
def dinD (neg : Bool) : D → D → Option D
  | y, .lst xs true => (unf xs).bind fun kvs => (okK y).bind fun k => if homL k kvs then some (.bl (neg != (valL kvs k).isSome)) else none
  | _, _ => none
@[simp] theorem dinD_flat (neg : Bool) (kvs : KDs) (y : D) : dinD neg y (.lst (flatD kvs) true) = (okK y).bind fun k => if homL k kvs then some (.bl (neg != (valL kvs k).isSome)) else none := by simp [dinD]
@[simp] theorem dinD_nil (neg : Bool) (y : D) : dinD neg y (.lst [] true) = (okK y).bind fun k => some (.bl neg) := by simp [dinD, valL, homL]
section
variable {X : Cx} {K : PySem.W.Frag} {M : Fb} {H0 : Hp} {e a b : Expr} {f g : VE → Option D} {pos : Pos}
def dlenD : List D → Option D
  | [.lst xs true] => (unf xs).bind fun kvs => if kvs.all (fun p => isAt p.1) then some (.int kvs.length) else none
  | _ => none
@[simp] theorem dlenD_flat (kvs : KDs) : dlenD [.lst (flatD kvs) true] = if kvs.all (fun p => isAt p.1) then some (.int kvs.length) else none := by simp [dlenD]
end
end L2
set_option Elab.async false
set_option linter.all false
set_option maxRecDepth 100000
namespace L2
open PySem PySem.Spec PyProof.Rows
end L2
set_option Elab.async false
set_option linter.all false
set_option maxRecDepth 100000
namespace L2
open PySem PySem.Spec PyProof.Rows
section
variable {X : Cx} {K : PySem.W.Frag} {M : Fb} {H0 : Hp} {e a b ek ev : Expr} {f g fk fv : VE → Option D} {fx : VE → Option (D × VE)} {pos : Pos}
def isBD : D → D → Option D
  | .bl i, .bl j => some (.bl (decide (i = j)))
  | _, _ => none
@[simp] theorem isBD_b (i j : Bool) : isBD (.bl i) (.bl j) = some (.bl (decide (i = j))) := rfl
end
end L2
set_option Elab.async false
set_option linter.all false
set_option maxRecDepth 100000
namespace L2
open PySem PySem.Spec PyProof.Rows
section
variable {X : Cx} {K : PySem.W.Frag}
noncomputable def zfillD (z : Str) : List D → Option D
  | [.int i] => gd (0 ≤ i ∧ i < 1000000) (some (.str (Txt.zfill z i)))
  | _ => none
@[simp] theorem zfillD_eq (z : Str) (i : Int) (h0 : 0 ≤ i) (h1 : i < 1000000) : zfillD z [.int i] = some (.str (Txt.zfill z i)) := by
  unfold zfillD
  exact gd_pos ⟨h0, h1⟩
def rStarts : V → List V → Hp → VK → Prop := fun x vs H Q => ∃ z y, x = .str z ∧ vs = [.str y] ∧ Q (.bl (Txt.startswith z y)) H
theorem mt_startswith : MtR X "str.startswith" rStarts := by
  intro pins s σ H x vs v us Q I rx rv h
  obtain ⟨z, y, rfl, rfl, q⟩ := h
  obtain ⟨t, rfl⟩ := rx
  obtain ⟨u, rfl, t', rfl⟩ := vals1 rv
  exact SC.startswith ⟨.bl _, H, I, rfl, q⟩
@[simp] def startswithD (z : Str) : List D → Option D
  | [.str y] => some (.bl (Txt.startswith z y))
  | _ => none
theorem rm_startswith : RmD K rStarts startswithD := by
  intro N H z vs ds d Q nh h e q
  unfold startswithD at e
  split at e
  · next y =>
    cases e
    obtain ⟨v, rfl, hv⟩ := Paired.one' h
    exact ⟨z, y, rfl, by rw [hv.str], q _ H (Same.refl H) den_bl⟩
  · cases e
end
end L2
set_option Elab.async false
set_option linter.all false
set_option maxRecDepth 100000
namespace L2
open PySem PySem.Spec PyProof.Rows
@[simp] def asgR (b : D → VE → Option VE) (o : Option D) (ρ : VE) : Res := match o with
  | some d => (match b d ρ with
    | some ρ' => .next ρ'
    | none => .fail)
  | none => .fail
section
variable {X : Cx} {K : PySem.W.Frag} {M : Fb} {H0 : Hp} {e tg : Expr} {f : VE → Option D} {b : D → VE → Option VE} {pos : Pos}
theorem vs_asg {ws : List Nat} (he : PE X e (tD K M H0 f)) (hg : PG X tg (tG K M H0 ws b)) (hs : swapsWithSole [tg] e pos.line X.env = pure false := by rfl) (hw : swappedStores [tg] e X.env = pure none := by rfl)
    (h1 : (assignEach [tg] X.env).map (·.2) = [assign tg X.env] := by rfl) : PS X (.Assign [tg] e pos) (tS K M H0 fun ρ => asgR b (f ρ) ρ) := (ps_asg he hg hs hw h1).mono fun D' σ H ⟨ρ, R, q⟩ => by
  try dsimp only at q
  cases hf : f ρ with
  | none => rw [hf] at q; exact False.elim q
  | some d =>
    rw [hf] at q
    cases hb : b d ρ with
    | none => simp only [asgR, hb] at q; exact False.elim q
    | some ρ' =>
      simp only [asgR, hb] at q
      exact ⟨ρ, d, R, hf, fun v H1 s hv => ⟨ρ, d, ρ', R.st s, hv, hb, fun σ1 R1 S1 _ => q σ1 H1 R1 ((Step.of_same s).trans S1)⟩⟩
theorem j_vs_asg {ws : List Nat} (he : JE X e (tD K M H0 f)) (hg : JG X tg (tG K M H0 ws b)) (hs : swapsWithSole [tg] e pos.line X.env = pure false := by rfl) (hw : swappedStores [tg] e X.env = pure none := by rfl)
    (h1 : (assignEach [tg] X.env).map (·.2) = [assign tg X.env] := by rfl) : JS X (.Assign [tg] e pos) (tS K M H0 fun ρ => asgR b (f ρ) ρ) := ⟨vs_asg he.h hg.h hs hw h1⟩
end
end L2
set_option Elab.async false
set_option linter.all false
set_option maxRecDepth 100000
namespace L2
open PySem PySem.Spec PyProof.Rows PySem.W
section
variable (lt : Nat → Nat → Bool)
structure WO (n : Nat) : Prop where
  asym : ∀ a b, a < n → b < n → lt a b = true → lt b a = false
  neg : ∀ a b c, a < n → b < n → c < n → lt a c = true → lt a b = true ∨ lt b c = true
def le' (a b : Nat) : Prop := lt b a = false
end
section
variable {lt : Nat → Nat → Bool} {n : Nat} (W : WO lt n)
include W
theorem WO.refl {a : Nat} (ha : a < n) : le' lt a a := by
  unfold le'
  cases h : lt a a with
  | false => rfl
  | true => have := W.asym a a ha ha h; rw [h] at this; cases this
theorem WO.trans {a b c : Nat} (ha : a < n) (hb : b < n) (hc : c < n) (h1 : le' lt a b) (h2 : le' lt b c) : le' lt a c := by
  unfold le' at *
  cases h : lt c a with
  | false => rfl
  | true =>
    rcases W.neg c b a hc hb ha h with z | z
    · rw [z] at h2; cases h2
    · rw [z] at h1; cases h1
end
abbrev pvA (p : Array Nat) (i : Nat) : Nat := p.getD i 0
def Bs (n : Nat) (p : Array Nat) : Prop := p.Perm (List.range n).toArray
theorem Bs.size {n : Nat} {p : Array Nat} (h : Bs n p) : p.size = n := by have := h.size_eq; simpa using this
theorem Bs.lt {n : Nat} {p : Array Nat} (h : Bs n p) {i : Nat} (hi : i < n) : pvA p i < n := by
  have hs := h.size
  have hi' : i < p.size := by omega
  have hm : p[i] ∈ p := Array.getElem_mem hi'
  have := (h.mem_iff (a := p[i])).mp hm
  simp at this
  unfold pvA
  rw [Array.getD_eq_getD_getElem?, Array.getElem?_eq_getElem hi']
  exact this
section
variable {lt : Nat → Nat → Bool} {n : Nat} (W : WO lt n) {cmp : Nat → Nat → (Bool → Shared → Prop) → Shared → Prop} {s : Shared} (hc : ∀ i j C, i < n → j < n → C (lt i j) s → cmp i j C s)
include W hc
end
end L2
set_option Elab.async false
set_option linter.all false
set_option maxRecDepth 100000
namespace L2
open PySem PySem.Spec PyProof.Rows PySem.W
section
variable {X : Cx} {pins : List (Addr × Obj)} {σ : St} {H : Hp} {s : Shared} {N : Fb}
def KMode (b : Bool) (k : D) : Prop := match b with
  | true => ∃ i r, k = .tup (.int i :: r)
  | false => ∃ f r, k = .tup (.tup f :: r)
theorem KMode.tup {b : Bool} {k : D} (h : KMode b k) : ∃ f r, k = .tup (f :: r) := by
  cases b with
  | true => obtain ⟨i, r, e⟩ := h; exact ⟨_, _, e⟩
  | false => obtain ⟨i, r, e⟩ := h; exact ⟨_, _, e⟩
structure Off (X : Cx) (pins : List (Addr × Obj)) (a : Addr) : Prop where
  nL : a ≠ X.env.locals
  s0 : X.s₀.heap.objs.size ≤ a
  cl : ∀ x c, X.env.cells.lookup x = some c → c ≠ a
  pn : ∀ p ∈ X.pn ++ pins, p.1 ≠ a
  nf : a ∉ X.fs
end
end L2
set_option Elab.async false
set_option linter.all false
set_option maxRecDepth 100000
namespace L2
open PySem PySem.Spec PyProof.Rows PySem.W
def kfOf (F : List Sl → Option Rv) (x : D) : D := ((F [.val x]).map rvD).getD .non
def ltF (F : List Sl → Option Rv) (x y : D) : Bool := match ltN 6 (kfOf F x) (kfOf F y) with
  | some true => true
  | _ => false
structure SortOk (F : List Sl → Option Rv) (xs : List D) : Prop where
  few : xs.length < 64
  tells : ∀ x ∈ xs, ∃ r, F [.val x] = some r
  mode : ∃ b, ∀ x ∈ xs, KMode b (kfOf F x)
  cmp : ∀ x ∈ xs, ∀ y ∈ xs, ∃ r, ltN 6 (kfOf F x) (kfOf F y) = some r
  asym : ∀ x ∈ xs, ∀ y ∈ xs, ltF F x y = true → ltF F y x = false
  neg : ∀ x ∈ xs, ∀ y ∈ xs, ∀ z ∈ xs, ltF F x z = true → ltF F x y = true ∨ ltF F y z = true
  anti : ∀ x ∈ xs, ∀ y ∈ xs, ltF F x y = false → ltF F y x = false → x = y
def insK (lt : D → D → Bool) (x : D) : List D → List D
  | [] => [x]
  | y :: r => if lt x y then x :: y :: r else y :: insK lt x r
def srtK (lt : D → D → Bool) : List D → List D
  | [] => []
  | x :: r => insK lt x (srtK lt r)
theorem insK_perm (lt : D → D → Bool) (x : D) : ∀ l, (insK lt x l).Perm (x :: l)
  | [] => .refl _
  | y :: r => by
    unfold insK
    split
    · exact .refl _
    · exact ((insK_perm lt x r).cons y).trans (.swap x y r)
theorem srtK_perm (lt : D → D → Bool) : ∀ l, (srtK lt l).Perm l
  | [] => .refl _
  | x :: r => (insK_perm lt x _).trans ((srtK_perm lt r).cons x)
theorem insK_pair {F : List Sl → Option Rv} {xs : List D} (h : SortOk F xs) {x : D} (hx : x ∈ xs) : ∀ l : List D, (∀ y ∈ l, y ∈ xs) → l.Pairwise (fun a b => ltF F b a = false) → (insK (ltF F) x l).Pairwise fun a b => ltF F b a = false
  | [], _, _ => by simp [insK]
  | y :: r, hm, hp => by
    obtain ⟨h1, h2⟩ := List.pairwise_cons.mp hp
    have hy := hm y List.mem_cons_self
    unfold insK
    split
    · next hl =>
      refine List.pairwise_cons.mpr ⟨fun z hz => ?_, hp⟩
      rcases List.mem_cons.mp hz with e | hz
      · subst e; exact h.asym x hx z hy hl
      · cases hc : ltF F z x with
        | false => rfl
        | true =>
          rcases h.neg z (hm z (List.mem_cons_of_mem _ hz)) y hy x hx hc with q | q
          · rw [h1 z hz] at q; cases q
          · rw [h.asym x hx y hy hl] at q; cases q
    · next hl =>
      rw [Bool.not_eq_true] at hl
      refine List.pairwise_cons.mpr ⟨fun z hz => ?_, insK_pair h hx r (fun z hz => hm z (List.mem_cons_of_mem _ hz)) h2⟩
      rcases List.mem_cons.mp ((insK_perm (ltF F) x r).subset hz) with e | hz
      · subst e; exact hl
      · exact h1 z hz
theorem srtK_pair {F : List Sl → Option Rv} {xs : List D} (h : SortOk F xs) : ∀ l : List D, (∀ y ∈ l, y ∈ xs) → (srtK (ltF F) l).Pairwise fun a b => ltF F b a = false
  | [], _ => .nil
  | x :: r, hm => insK_pair h (hm x List.mem_cons_self) _ (fun y hy => hm y (List.mem_cons_of_mem _ ((srtK_perm _ r).subset hy))) (srtK_pair h r fun y hy => hm y (List.mem_cons_of_mem _ hy))
theorem SortOk.same {F : List Sl → Option Rv} {xs ys : List D} (h : SortOk F xs) (hp : ys.Perm xs) (hs : ys.Pairwise fun a b => ltF F b a = false) : ys = srtK (ltF F) xs :=
  List.Perm.eq_of_pairwise (le := fun a b => ltF F b a = false) (fun a b ha hb h1 h2 => h.anti a (hp.subset ha) b ((srtK_perm _ xs).subset hb) h2 h1) hs (srtK_pair h xs fun _ hy => hy) (hp.trans (srtK_perm _ xs).symm)
section
variable {X : Cx} {pins : List (Addr × Obj)} {σ : St} {H : Hp} {s : Shared} {N : Fb}
end
end L2
set_option Elab.async false
set_option linter.all false
set_option maxRecDepth 100000
namespace L2
open PySem PySem.Spec PyProof.Rows PySem.W
section
variable {X : Cx} {pins : List (Addr × Obj)} {σ : St} {H : Hp} {s : Shared} {N : Fb}
theorem Off.more {a b : Addr} {o : Obj} (f : Off X pins a) (h : b ≠ a) : Off X (pins ++ [(b, o)]) a :=
  ⟨f.nL, f.s0, f.cl, fun p hp => by
    rw [← List.append_assoc] at hp
    rcases List.mem_append.mp hp with hp | hp
    · exact f.pn p hp
    · simp only [List.mem_singleton] at hp; subst hp; exact h, f.nf⟩
variable {k : Nat} {fn : Addr} {fd : FuncData} {ps : List Str} {F : List Sl → Option Rv}
theorem key_run (Fo : FnOk X.prog X.w X.K X.mg X.base CX0 k fn fd ps (spD X.K F)) (hb : Binds X.K fd ps []) (I : Inv X pins σ H s) (A : Around) (hr : Room k A) (e0 : Env0 X.prog X.w X.K X.mg X.base A X.stack s H) (nh : ∀ a, N a → H a ≠ none) {x : D} {v : V} {u : Value} (d : Den X.K N H x v) (rv : RelV v u) {r : Rv} (hF : F [.val x] = some r)
    {E : Value → Shared → Prop} {Q : Value → Shared → Prop} (q : ∀ u' s' v' H', Inv X pins σ H' s' → Same H H' → Den X.K N H' (kfOf F x) v' → RelV v' u' → Q u' s') : wpAny (model X.prog X.w) A (call (.ref fn) [u]) Q E s := by
  have hsp : spD X.K F [v] H (fun v' H' => Same H H' ∧ Den X.K N H' (kfOf F x) v') E0 := by
    refine ⟨N, [.val x], r, nh, ?_, hF, fun v' H' hs ho => ⟨hs, ?_⟩⟩
    · exact ⟨v, [], rfl, d, rfl⟩
    · have e : kfOf F x = rvD r := by unfold kfOf; rw [hF]; rfl
      rw [e]
      cases r with
      | val y => exact ho
      | own ys fl =>
        obtain ⟨a, ws, e1, z1, z2, z3⟩ := ho
        simp only [rvD, Den]
        exact ⟨a, ws, e1, .of (fun z => nh a z z1) z2, z3.nw fun b hb => .inl (.inl hb)⟩
  have hl : ([u] : List Value).length = ps.length := by
    have := Fo.len _ _ _ _ hsp
    simpa using this
  refine wpAny_call (codeAny_mono (Fo.run A X.stack s H ⟨[u], []⟩ [u] [v] _ E0 hr e0 (by simpa using hb s [u] I.kIn (by simpa using hl)) (.cons rv .nil) hsp) fun r s' hq => ?_)
  cases r with
  | error e => exact False.elim hq
  | ok fl =>
    cases fl with
    | ret u' =>
      obtain ⟨v', H', I', rv', hs, hd⟩ := I.after hq
      exact q u' s' v' H' I' hs hd rv'
    | next => exact False.elim hq
    | brk => exact False.elim hq
    | cont => exact False.elim hq
theorem Same.none {H H' : Hp} (h : Same H H') {a : Addr} (e : H' a = none) : H a = none := by
  cases q : H a with
  | none => rfl
  | some o => rw [h a o q] at e; cases e
end
end L2
set_option Elab.async false
set_option linter.all false
set_option maxRecDepth 100000
namespace L2
open PySem PySem.Spec PyProof.Rows PySem.W
section
variable {X : Cx} {M : Fb} {H0 : Hp} {k : Nat} {fn : Addr} {fd : FuncData} {ps : List Str} {F : List Sl → Option Rv} {e : Expr} {f : VE → Option D} {x y : Str} {p p2 kpos pos : Pos}
end
end L2
set_option Elab.async false
set_option linter.all false
set_option maxRecDepth 100000
namespace L2
open PySem PySem.Spec PyProof.Rows
section
variable {X : Cx} {K : PySem.W.Frag} {M : Fb} {H0 : Hp} {pos : Pos} {tg elt iter : Expr} {ifs : List Expr} {scope : Scope} {ws : List Nat} {f : VE → Option (List D)} {b : D → VE → Option VE} {t : VE → Option Bool} {e : VE → Option D} {k : Nat} {oix : List Nat}
@[simp] theorem lstItems_lst (xs : List D) : lstItems (.lst xs) = some xs := rfl
end
end L2
set_option Elab.async false
set_option linter.all false
set_option maxRecDepth 100000
namespace L2
open PySem PySem.Spec PyProof.Rows PySem.W
section
variable {X : Cx} {pins : List (Addr × Obj)} {σ : St} {H : Hp} {s : Shared} {A : Around} {E : Value → Shared → Prop} {tr : List T3} {a : Addr} {k : KT} {y v : V} {u r : Value}
end
section
variable {X : Cx} {pins : List (Addr × Obj)} {σ : St} {H : Hp} {A : Around} {a it l : Addr} {N : Fb} {us : List Value} {R : Result → Shared → Prop}
end
section
variable {X : Cx} {M : Fb} {H0 : Hp} {e : Expr} {f : VE → Option D} {p pos : Pos}
end
end L2
set_option Elab.async false
set_option linter.all false
set_option maxRecDepth 100000
namespace L2
open PySem PySem.Spec PyProof.Rows PySem.W
section
variable {X : Cx} {K : PySem.W.Frag} {M : Fb} {H0 : Hp}
theorem vs_never {st : Stmt} : PS X st (tS K M H0 fun _ => .fail) := fun pins s σ H D I ⟨ρ, R, q⟩ => False.elim q
theorem j_vs_never {st : Stmt} : JS X st (tS K M H0 fun _ => .fail) := ⟨vs_never⟩
theorem call_strA : CallR X (.type "str") (fun xs H Q => (∃ i, xs = [.int i] ∧ i.natAbs.log2 < 1920 ∧ Q (.str (toString i)) H) ∨ ∃ z, xs = [.str z] ∧ Q (.str z) H) := by
  intro pins s σ H xs us Q I r h
  rcases h with h | ⟨z, rfl, q⟩
  · exact call_str_int pins s σ H xs us Q I r h
  · obtain ⟨u, rfl, t, rfl⟩ := vals1 r
    exact PySem.P.str_of_str ⟨.str z, H, I, ⟨_, rfl⟩, q⟩
@[simp] def strA : List D → Option D
  | [.int i] => if i.natAbs.log2 < 1920 then some (.str (toString i)) else none
  | [.str z] => some (.str z)
  | _ => none
theorem rc_strA : RcD K (fun xs H Q => (∃ i, xs = [.int i] ∧ i.natAbs.log2 < 1920 ∧ Q (.str (toString i)) H) ∨ ∃ z, xs = [.str z] ∧ Q (.str z) H) strA := by
  intro N H vs ds d Q nh h e q
  unfold strA at e
  split at e
  · split at e
    · next hz =>
      cases e
      obtain ⟨v, rfl, hv⟩ := Paired.one' h
      exact .inl ⟨_, by rw [hv.int], hz, q _ H (Same.refl H) den_str⟩
    · cases e
  · cases e
    obtain ⟨v, rfl, hv⟩ := Paired.one' h
    exact .inr ⟨_, by rw [hv.str], q _ H (Same.refl H) den_str⟩
  · cases e
theorem call_intT : CallR X (.type "int") (fun xs H Q => ∃ z n, xs = [.str z] ∧ z.length ≤ 640 ∧ PySem.intText? z = some n ∧ Q (.int n) H) := by
  intro pins s σ H xs us Q I r h
  obtain ⟨z, n, rfl, hl, hn, q⟩ := h
  obtain ⟨u, rfl, t, rfl⟩ := vals1 r
  exact KIN.call_text hn hl ⟨.int n, H, I.tok _, ⟨_, rfl⟩, q⟩
@[simp] def intT : List D → Option D
  | [.str z] => if z.length ≤ 640 then (PySem.intText? z).map D.int else none
  | _ => none
theorem rc_intT : RcD K (fun xs H Q => ∃ z n, xs = [.str z] ∧ z.length ≤ 640 ∧ PySem.intText? z = some n ∧ Q (.int n) H) intT := by
  intro N H vs ds d Q nh h e q
  unfold intT at e
  split at e
  · next z =>
    split at e
    · next hz =>
      cases hn : PySem.intText? z with
      | none => rw [hn] at e; cases e
      | some n =>
        rw [hn] at e
        cases e
        obtain ⟨v, rfl, hv⟩ := Paired.one' h
        exact ⟨z, n, by rw [hv.str], hz, hn, q _ H (Same.refl H) den_int⟩
    · cases e
  · cases e
def rSplit : V → List V → Hp → VK → Prop := fun x vs H Q => ∃ z y, x = .str z ∧ vs = [.str y] ∧ (y.length == 0) = false ∧ z.length ≤ sizeLine ∧ (Txt.split z y).length ≤ sizeLine ∧ ∀ p, H p = none → Q (.ref p) (upd H p (.lst ((Txt.split z y).map V.str)))
theorem vals_strs : ∀ (l : List (Str × Tok)), Vals ((l.map (·.1)).map V.str) (strValues l)
  | [] => .nil
  | p :: l => .cons ⟨p.2, rfl⟩ (vals_strs l)
theorem mt_split : MtR X "str.split" rSplit := by
  intro pins s σ H x vs v us Q I rx rv h
  obtain ⟨z, y, rfl, rfl, hy, hz, hl, q⟩ := h
  obtain ⟨t, rfl⟩ := rx
  obtain ⟨u, rfl, t', rfl⟩ := vals1 rv
  have hfr : H s.heap.objs.size = none := I.hok.fresh (Nat.le_refl _)
  unfold Txt.split at hl q
  cases h1 : (decide (z.length < y.length) || decide (Builtin.Str.strKind z < Builtin.Str.strKind y))
  · rw [h1] at hl q
    simp only [Bool.false_eq_true, if_false] at hl q
    cases hf : (Builtin.Str.occurrences z y 0 z.length (z.length + 1)).isEmpty
    · rw [hf] at hl q
      simp only [Bool.false_eq_true, if_false] at hl q
      refine call_meets F.slot_str_split (typeIs_str _ _ _) F.entry_str_split (F.args_str_split_2 _ _) (meets_str_split_sep z y t t' h1 hy hf hz hl) ?_
      have hv := vals_strs (numbered s.toks (Builtin.Str.partsBetween z (Builtin.Str.occurrences z y 0 z.length (z.length + 1)) y.length))
      rw [numbered_texts, ← strsFrom_eq] at hv
      exact ⟨.ref s.heap.objs.size, _, I.lnew hv (by simpa using hl), rfl, q _ hfr⟩
    · rw [hf] at hl q
      simp only [if_true] at hl q
      refine call_meets F.slot_str_split (typeIs_str _ _ _) F.entry_str_split (F.args_str_split_2 _ _) (meets_str_split_not_found z y t t' h1 hy hf) ?_
      exact ⟨.ref s.heap.objs.size, _, I.lnew (t' := s.toks) (vals_strs [(z, t)]) (by simpa using hl), rfl, q _ hfr⟩
  · rw [h1] at hl q
    simp only [if_true] at hl q
    refine call_meets F.slot_str_split (typeIs_str _ _ _) F.entry_str_split (F.args_str_split_2 _ _) (meets_str_split_cannot_occur z y t t' h1) ?_
    exact ⟨.ref s.heap.objs.size, _, I.lnew (t' := s.toks) (vals_strs [(z, t)]) (by simpa using hl), rfl, q _ hfr⟩
@[simp] def splitD (z : Str) : List D → Option D
  | [.str y] => if (y.length == 0) = false ∧ z.length ≤ sizeLine ∧ (Txt.split z y).length ≤ sizeLine then some (.lst ((Txt.split z y).map D.str)) else none
  | _ => none
theorem denL_strs' {N : Fb} {H : Hp} : ∀ (bs : List Str), DenL K N H (bs.map D.str) (bs.map V.str)
  | [] => DenL.nil
  | b :: bs => DenL.cons den_str (denL_strs' bs)
theorem rm_split : RmD K rSplit splitD := by
  intro N H z vs ds d Q nh h e q
  unfold splitD at e
  split at e
  · next y =>
    split at e
    · next hz =>
      cases e
      obtain ⟨v, rfl, hv⟩ := Paired.one' h
      refine ⟨z, y, rfl, by rw [hv.str], hz.1, hz.2.1, hz.2.2, fun p hp => q _ _ (same_new hp) ?_⟩
      simp only [Den]
      exact ⟨p, _, rfl, .of (fun w => nh p w hp) upd_same, denL_strs' _⟩
    · cases e
  · cases e
end
end L2
set_option Elab.async false
set_option linter.all false
set_option maxRecDepth 100000
namespace L2
open PySem PySem.Spec PyProof.Rows
def cN (c : Nat) (z : Str) : Nat := z.cps.toList.count c
theorem occ_all (x : Str) (c limit : Nat) : ∀ (l : List Nat) (st : Array Nat × Nat), l.Pairwise (· < ·) → (∀ i ∈ l, st.2 ≤ i) → st.1.size + l.length ≤ limit →
    (forIn l st (StrLaws.occBody x ⟨#[c]⟩ x.length limit)).run.fst.toList = st.1.toList ++ l.filter (fun i => decide (x.cps.toList[i]? = some c))
  | [], st, _, _, _ => by simp
  | a :: l, st, hp, hf, hl => by
    obtain ⟨h1, h2⟩ := List.pairwise_cons.mp hp
    simp only [List.length_cons] at hl
    have ha := hf a List.mem_cons_self
    rw [List.forIn_cons]
    unfold StrLaws.occBody
    by_cases hc : x.cps.toList[a]? = some c
    · have hs := (StrLaws.subAt_one x c a).mpr hc
      rw [if_pos ⟨⟨⟨by omega, ha⟩, hs.1⟩, hs.2⟩]
      have ih := occ_all x c limit l (st.1.push a, a + (⟨#[c]⟩ : Str).length) h2 (fun i hi => by have := h1 i hi; show a + 1 ≤ i; omega) (by simp; omega)
      rw [List.filter_cons_of_pos (by simpa using hc)]
      rw [Array.toList_push, List.append_assoc] at ih
      exact ih
    · rw [if_neg (fun h => hc ((StrLaws.subAt_one x c a).mp ⟨h.1.2, h.2⟩))]
      rw [List.filter_cons_of_neg (by simpa using hc)]
      exact occ_all x c limit l st h2 (fun i hi => hf i (List.mem_cons_of_mem _ hi)) (by omega)
theorem filter_count (c : Nat) : ∀ (l : List Nat) (k : Nat), ((List.range' k (l.length + 1)).filter fun i => decide (l[i - k]? = some c)).length = l.count c
  | [], k => by simp [List.range'_succ]
  | a :: l, k => by
    have ih := filter_count c l (k + 1)
    rw [List.length_cons, List.range'_succ, List.filter_cons]
    have e : (List.range' (k + 1) (l.length + 1)).filter (fun i => decide ((a :: l)[i - k]? = some c)) = (List.range' (k + 1) (l.length + 1)).filter (fun i => decide (l[i - (k + 1)]? = some c)) := by
      refine List.filter_congr fun i hi => ?_
      obtain ⟨h1, _⟩ := List.mem_range'_1.mp hi
      rw [show i - k = (i - (k + 1)) + 1 by omega, List.getElem?_cons_succ]
    rw [e, Nat.sub_self, List.getElem?_cons_zero, List.count_cons]
    by_cases h : a = c
    · subst h; simp [ih]
    · have h' : ¬ (some a = some c) := fun z => h (Option.some.inj z)
      rw [decide_eq_false h']
      simp [h, ih]
theorem occ_count (x : Str) (c : Nat) : (Builtin.Str.occurrences x ⟨#[c]⟩ 0 x.length (x.length + 1)).length = cN c x := by
  have hl : x.length = x.cps.toList.length := by simp [Str.length]
  rw [StrLaws.occ_eq, occ_all x c (x.length + 1) _ _ List.pairwise_lt_range' (fun _ _ => Nat.zero_le _) (by simp)]
  have := filter_count c x.cps.toList 0
  rw [← hl] at this
  simpa [cN] using this
theorem strKind_pos (x : Str) : 1 ≤ Builtin.Str.strKind x := by
  unfold Builtin.Str.strKind
  split
  · omega
  · split <;> omega
theorem split_len (x : Str) (c : Nat) (hc : c < 256) : (Txt.split x ⟨#[c]⟩).length = cN c x + 1 := by
  have ho := occ_count x c
  have hk : Builtin.Str.strKind ⟨#[c]⟩ = 1 := by
    unfold Builtin.Str.strKind
    rw [if_pos (by simp [hc])]
  have h1 := strKind_pos x
  unfold Txt.split
  rw [hk]
  split
  · next h =>
    have hx : x.length < 1 := by
      simp only [Bool.or_eq_true, decide_eq_true_eq] at h
      rcases h with h | h
      · exact h
      · omega
    have : x.cps.toList = [] := by
      have : x.cps.toList.length = 0 := by have e : x.length = x.cps.toList.length := by simp [Str.length]
                                           omega
      exact List.length_eq_zero_iff.mp this
    simp [cN, this]
  · split
    · next h =>
      rw [List.isEmpty_iff.mp h] at ho
      rw [← ho]; rfl
    · rw [StrLaws.partsBetween_eq]
      have : ∀ (cuts : List Nat) (a : Nat), (StrLaws.partsFrom x (⟨#[c]⟩ : Str).length a cuts).length = cuts.length + 1 := by
        intro cuts
        induction cuts with
        | nil => intro a; rfl
        | cons d r ih => intro a; show (StrLaws.partsFrom x _ _ r).length + 1 = _; rw [ih]; rfl
      rw [this, ho]
theorem cN_app (c : Nat) (x y : Str) : cN c (x ++ y) = cN c x + cN c y := by
  show ((x.cps ++ y.cps).toList).count c = _
  rw [Array.toList_append, List.count_append]; rfl
theorem join_count (c : Nat) : ∀ (a : Str) (zs : List Str), cN c (Str.join ⟨#[c]⟩ (a :: zs)) = ((a :: zs).map (cN c)).sum + zs.length
  | a, [] => by simp [Str.join]
  | a, b :: r => by
    have ih := join_count c b r
    show cN c (a ++ ⟨#[c]⟩ ++ Str.join ⟨#[c]⟩ (b :: r)) = _
    rw [cN_app, cN_app, ih]
    have e : cN c ⟨#[c]⟩ = 1 := by simp [cN]
    rw [e]
    simp only [List.map_cons, List.sum_cons, List.length_cons]
    omega
theorem cut_first {c : Nat} : ∀ {a b r s : List Nat}, c ∉ a → c ∉ b → a ++ c :: r = b ++ c :: s → a = b ∧ r = s
  | [], [], r, s, _, _, h => by simp at h; exact ⟨rfl, h⟩
  | [], b :: bs, r, s, _, hb, h => by simp at h; exact absurd (by simp [h.1]) hb
  | a :: as, [], r, s, ha, _, h => by simp at h; exact absurd (by simp [h.1]) ha
  | a :: as, b :: bs, r, s, ha, hb, h => by
    simp only [List.cons_append, List.cons.injEq] at h
    obtain ⟨e1, e2⟩ := cut_first (fun z => ha (List.mem_cons_of_mem _ z)) (fun z => hb (List.mem_cons_of_mem _ z)) h.2
    exact ⟨by rw [h.1, e1], e2⟩
theorem str_eq {x y : Str} (h : x.cps.toList = y.cps.toList) : x = y := by
  obtain ⟨⟨a⟩⟩ := x
  obtain ⟨⟨b⟩⟩ := y
  simp at h
  rw [h]
theorem cps_ap (x y : Str) : (x ++ y).cps.toList = x.cps.toList ++ y.cps.toList := by
  show (x.cps ++ y.cps).toList = _
  simp
theorem join_inj {c : Nat} : ∀ (a : Str) (as : List Str) (b : Str) (bs : List Str), (∀ z ∈ a :: as, c ∉ z.cps.toList) → (∀ z ∈ b :: bs, c ∉ z.cps.toList) → Str.join ⟨#[c]⟩ (a :: as) = Str.join ⟨#[c]⟩ (b :: bs) → a :: as = b :: bs
  | a, [], b, [], _, _, h => by rw [show a = b from h]
  | a, a' :: as, b, [], ha, hb, h => by
    have e := congrArg (cN c) h
    rw [join_count, join_count] at e
    have : cN c b = 0 := List.count_eq_zero.mpr (hb b List.mem_cons_self)
    simp only [List.map_cons, List.sum_cons, List.map_nil, List.sum_nil, List.length_cons, List.length_nil, this] at e
    omega
  | a, [], b, b' :: bs, ha, hb, h => by
    have e := congrArg (cN c) h
    rw [join_count, join_count] at e
    have : cN c a = 0 := List.count_eq_zero.mpr (ha a List.mem_cons_self)
    simp only [List.map_cons, List.sum_cons, List.map_nil, List.sum_nil, List.length_cons, List.length_nil, this] at e
    omega
  | a, a' :: as, b, b' :: bs, ha, hb, h => by
    have h : a ++ ⟨#[c]⟩ ++ Str.join ⟨#[c]⟩ (a' :: as) = b ++ ⟨#[c]⟩ ++ Str.join ⟨#[c]⟩ (b' :: bs) := h
    have e := congrArg (fun s : Str => s.cps.toList) h
    simp only [cps_ap] at e
    rw [List.append_assoc, List.append_assoc] at e
    obtain ⟨e1, e2⟩ := cut_first (ha a List.mem_cons_self) (hb b List.mem_cons_self) e
    rw [str_eq e1, join_inj a' as b' bs (fun z hz => ha z (List.mem_cons_of_mem _ hz)) (fun z hz => hb z (List.mem_cons_of_mem _ hz)) (str_eq e2)]
theorem split_join {c : Nat} (hc : c < 256) (zs : List Str) (h0 : zs ≠ []) (hz : ∀ z ∈ zs, c ∉ z.cps.toList) : Txt.split (Str.join ⟨#[c]⟩ zs) ⟨#[c]⟩ = zs := by
  have h1 := StrLaws.join_split (Str.join ⟨#[c]⟩ zs) ⟨#[c]⟩
  have h2 := split_len (Str.join ⟨#[c]⟩ zs) c hc
  cases zs with
  | nil => exact absurd rfl h0
  | cons a zs =>
    rw [join_count] at h2
    have hs : ((a :: zs).map (cN c)).sum = 0 := by
      refine Nat.eq_zero_of_not_pos fun hp => ?_
      have : ∀ l : List Str, (∀ z ∈ l, c ∉ z.cps.toList) → (l.map (cN c)).sum = 0 := by
        intro l
        induction l with
        | nil => intro _; rfl
        | cons z l ih =>
          intro h
          rw [List.map_cons, List.sum_cons, ih fun y hy => h y (List.mem_cons_of_mem _ hy)]
          have : cN c z = 0 := List.count_eq_zero.mpr (h z List.mem_cons_self)
          omega
      have := this (a :: zs) hz
      omega
    rw [hs] at h2
    cases hP : Txt.split (Str.join ⟨#[c]⟩ (a :: zs)) ⟨#[c]⟩ with
    | nil => rw [hP] at h2; simp at h2
    | cons p ps =>
      rw [hP] at h1 h2
      have hcnt := congrArg (cN c) h1
      rw [join_count, join_count, hs] at hcnt
      simp only [List.length_cons] at h2
      have hps : ((p :: ps).map (cN c)).sum = 0 := by omega
      have hfree : ∀ z ∈ p :: ps, c ∉ z.cps.toList := by
        have : ∀ l : List Str, (l.map (cN c)).sum = 0 → ∀ z ∈ l, c ∉ z.cps.toList := by
          intro l
          induction l with
          | nil => intro _ z h; cases h
          | cons y l ih =>
            intro h z hz
            rw [List.map_cons, List.sum_cons] at h
            rcases List.mem_cons.mp hz with rfl | hz
            · exact List.count_eq_zero.mp (show cN c z = 0 by omega)
            · exact ih (by omega) z hz
        exact this _ hps
      exact join_inj p ps a zs hfree hz h1
def dg (m : Nat) : List Nat := (Nat.toDigits 10 m).map Char.toNat
theorem dg_lt {m : Nat} (h : m < 10) : dg m = [48 + m] := by
  unfold dg
  rw [Nat.toDigits_of_lt_base h]
  have : ∀ m, m < 10 → [(Nat.digitChar m)].map Char.toNat = [48 + m] := by decide
  exact this m h
theorem dg_ge {m : Nat} (h : 10 ≤ m) : dg m = dg (m / 10) ++ [48 + m % 10] := by
  have hm : m % 10 < 10 := Nat.mod_lt m (by decide)
  have t : Nat.toDigits 10 (m / 10) ++ Nat.toDigits 10 (m % 10) = Nat.toDigits 10 (10 * (m / 10) + m % 10) := Nat.toDigits_append_toDigits (by decide) (by omega) hm
  rw [Nat.div_add_mod] at t
  have e := dg_lt hm
  unfold dg at e ⊢
  rw [← t, List.map_append, e]
theorem dg_dig (m : Nat) : ∀ c ∈ dg m, 48 ≤ c ∧ c ≤ 57 := by
  induction m using Nat.strongRecOn with
  | _ m ih =>
    intro c hc
    by_cases h : m < 10
    · rw [dg_lt h] at hc; simp at hc; omega
    · rw [dg_ge (by omega)] at hc
      rcases List.mem_append.mp hc with hc | hc
      · exact ih (m / 10) (by omega) c hc
      · simp at hc; omega
theorem dg_ne (m : Nat) : dg m ≠ [] := by
  by_cases h : m < 10
  · rw [dg_lt h]; simp
  · rw [dg_ge (by omega)]; simp
theorem dg_len : ∀ (k m : Nat), 1 ≤ k → m < 10 ^ k → (dg m).length ≤ k
  | k, m, hk, hm => by
    induction k generalizing m with
    | zero => omega
    | succ k ih =>
      by_cases h : m < 10
      · rw [dg_lt h]; simp
      · rw [dg_ge (by omega), List.length_append, List.length_singleton]
        cases k with
        | zero => simp at hm; omega
        | succ k =>
          have : m / 10 < 10 ^ (k + 1) := by rw [Nat.pow_succ] at hm; exact Nat.div_lt_of_lt_mul (by omega)
          have := ih (m / 10) (by omega) this
          omega
theorem dg_head {m : Nat} (h0 : 0 < m) : ∃ c r, dg m = c :: r ∧ c ≠ 48 := by
  induction m using Nat.strongRecOn with
  | _ m ih =>
    by_cases h : m < 10
    · exact ⟨48 + m, [], dg_lt h, by omega⟩
    · obtain ⟨c, r, e, hc⟩ := ih (m / 10) (by omega) (by omega)
      exact ⟨c, r ++ [48 + m % 10], by rw [dg_ge (by omega), e]; rfl, hc⟩
def iT (i : Int) : Str := Str.ofString (toString i)
theorem iT_pos (m : Nat) : (iT (m : Int)).cps.toList = dg m := PySem.W.KIN.signs_num m
theorem iT_neg {m : Nat} (h : 0 < m) : (iT (-(m : Int))).cps.toList = 45 :: dg m := by
  obtain ⟨k, rfl⟩ : ∃ k, m = k + 1 := ⟨m - 1, by omega⟩
  unfold iT
  rw [signs_ofString]
  show ("-" ++ Nat.repr (k + 1)).toList.map Char.toNat = _
  rw [String.toList_append, List.map_append]
  have e := PySem.W.KIN.signs_num (k + 1)
  rw [signs_ofString] at e
  have e2 : (toString (((k + 1 : Nat)) : Int)).toList = (Nat.repr (k + 1)).toList := rfl
  rw [e2] at e
  rw [e]
  rfl
theorem iT_reads (i : Int) (h : (iT i).length ≤ 640) : PySem.intText? (iT i) = some i := by
  by_cases h0 : 0 ≤ i
  · obtain ⟨m, rfl⟩ := Int.eq_ofNat_of_zero_le h0
    have e := iT_pos m
    have := PySem.intText_digits (x := iT (m : Int)) (by rw [e]; exact dg_dig m) (by rw [e]; exact dg_ne m) (by omega)
    rw [this, e]
    have hv := PySem.W.KIN.val_back m
    show some ((PySem.NumText.digitsVal (dg m) : Nat) : Int) = _
    unfold dg
    rw [hv]
  · obtain ⟨m, hm, rfl⟩ : ∃ m : Nat, 0 < m ∧ i = -(m : Int) := ⟨i.natAbs, by omega, by omega⟩
    have := PySem.intText_neg (iT_neg hm) (dg_dig m) (dg_ne m) (by omega)
    rw [this]
    have hv := PySem.W.KIN.val_back m
    unfold dg
    rw [hv]
end L2
set_option Elab.async false
set_option linter.all false
set_option maxRecDepth 100000
namespace L2
open PySem PySem.Spec PyProof.Rows PySem.W
section
variable {X : Cx} {M : Fb} {H0 : Hp} {e a b : Expr} {es : List Expr} {f : VE → Option D} {pos : Pos}
@[simp] def fmtD : Option D → Option D
  | some (.int i) => if i.natAbs.log2 < 1920 then some (.str (toString i)) else none
  | some (.str z) => if z.length ≤ sizeLine then some (.str z) else none
  | _ => none
theorem ve_fmt (he : PE X e (tP X.K M H0 f)) : PE X (.FormattedValue e (-1) none pos) (tD X.K M H0 fun ρ => fmtD (f ρ)) := by
  intro pins s σ H Q I h
  obtain ⟨ρ, d, R, ev, q⟩ := h
  refine FormattedValue_plain ?_
  unfold fmtD at ev
  dsimp only at ev
  split at ev
  · next i hi =>
    split at ev
    · next hz =>
      cases ev
      refine thn (he pins s σ H (fun v H1 => Same H H1 ∧ DenP X.K (Nf M ρ σ) H1 (.int i) v) I ⟨ρ, .int i, R, hi, fun v H1 s1 d1 => ⟨s1, d1⟩⟩) fun u s1 ⟨v, H1, I1, rv, sm, d1⟩ => ?_
      rw [d1.int] at rv
      obtain ⟨t, rfl⟩ := rv
      exact formatField_int_small hz ⟨.str _, H1, I1.tok _, ⟨_, rfl⟩, q _ H1 sm den_str⟩
    · cases ev
  · next z hi =>
    split at ev
    · next hz =>
      cases ev
      refine thn (he pins s σ H (fun v H1 => Same H H1 ∧ DenP X.K (Nf M ρ σ) H1 (.str z) v) I ⟨ρ, .str z, R, hi, fun v H1 s1 d1 => ⟨s1, d1⟩⟩) fun u s1 ⟨v, H1, I1, rv, sm, d1⟩ => ?_
      rw [d1.str] at rv
      obtain ⟨t, rfl⟩ := rv
      exact formatField_str (fun t' tk => ⟨.str _, H1, I1.tok _, ⟨_, rfl⟩, q _ H1 sm den_str⟩) hz
    · cases ev
  · cases ev
theorem j_ve_fmt (he : JE X e (tP X.K M H0 f)) : JE X (.FormattedValue e (-1) none pos) (tD X.K M H0 fun ρ => fmtD (f ρ)) := ⟨ve_fmt he.h⟩
def catF (acc : Str) (zs : List Str) : Str := zs.foldl (· ++ ·) acc
theorem catF_len : ∀ (zs : List Str) (acc : Str), acc.length ≤ (catF acc zs).length
  | [], acc => Nat.le_refl _
  | z :: zs, acc => by
    have := catF_len zs (acc ++ z)
    rw [strLen_append] at this
    show acc.length ≤ (catF (acc ++ z) zs).length
    omega
structure PJ (X : Cx) (M : Fb) (H0 : Hp) (es : List Expr) (g : VE → Option (List Str)) : Prop where
  h : ∀ (pins : List (Addr × Obj)) (s : Shared) (σ : St) (H : Hp) (ρ : VE) (zs : List Str) (acc : Str) (Q : Str → Shared → Prop), Inv X pins σ H s → Rel X.K M H0 ρ σ H → g ρ = some zs → (catF acc zs).length ≤ sizeLine →
    (∀ s' H', Same H H' → Inv X pins σ H' s' → Q (catF acc zs) s') → Joins (model X.prog X.w) X.A X.xe (evalEach es X.env) acc Q s
theorem pj_nil : PJ X M H0 [] (fun _ => some []) := ⟨fun pins s σ H ρ zs acc Q I R e hz q => by
  cases e
  exact q s H (Same.refl H) I⟩
@[simp] def strO (o : Option D) (p : Option (List Str)) : Option (List Str) := match o, p with
  | some (.str z), some zs => some (z :: zs)
  | _, _ => none
theorem pj_cons {g : VE → Option (List Str)} (he : PE X e (tD X.K M H0 f)) (hs : PJ X M H0 es g) : PJ X M H0 (e :: es) (fun ρ => strO (f ρ) (g ρ)) := ⟨fun pins s σ H ρ zs acc Q I R ev hz q => by
  unfold strO at ev
  split at ev
  · next z zs' h1 h2 =>
    cases ev
    show wpAny _ _ (eval e X.env) _ _ s
    refine thn (he pins s σ H (fun v H1 => Same H H1 ∧ Den X.K (Nf M ρ σ) H1 (.str z) v) I ⟨ρ, .str z, R, h1, fun v H1 s1 d1 => ⟨s1, d1⟩⟩) fun u s1 ⟨v, H1, I1, rv, sm, d1⟩ => ?_
    simp only [Den] at d1
    subst d1
    obtain ⟨t, rfl⟩ := rv
    refine ⟨z, t, rfl, Nat.le_trans (catF_len zs' (acc ++ z)) hz, ?_⟩
    exact hs.h pins s1 σ H1 ρ zs' (acc ++ z) Q I1 (R.st sm) h2 hz fun s' H' sm' I' => q s' H' (sm.trans sm') I'
  · cases ev⟩
@[simp] def catO (p : Option (List Str)) : Option D := match p with
  | some zs => if (catF Str.empty zs).length ≤ sizeLine then some (.str (catF Str.empty zs)) else none
  | none => none
theorem ve_fstr {g : VE → Option (List Str)} (h : PJ X M H0 (a :: b :: es) g) : PE X (.JoinedStr (a :: b :: es) pos) (tD X.K M H0 fun ρ => catO (g ρ)) := by
  intro pins s σ H Q I hh
  obtain ⟨ρ, d, R, ev, q⟩ := hh
  unfold catO at ev
  dsimp only at ev
  split at ev
  · next zs hg =>
    split at ev
    · next hz =>
      cases ev
      refine wpAny_JoinedStr (h.h pins s σ H ρ zs Str.empty _ I R hg hz fun s' H' sm I' => ⟨hz, ?_⟩)
      exact ⟨.str _, H', I'.tok _, ⟨_, rfl⟩, q _ H' sm den_str⟩
    · cases ev
  · cases ev
theorem j_pj_cons {g : VE → Option (List Str)} (he : JE X e (tD X.K M H0 f)) (hs : PJ X M H0 es g) : PJ X M H0 (e :: es) (fun ρ => strO (f ρ) (g ρ)) := pj_cons he.h hs
theorem j_pj_nil : PJ X M H0 [] (fun _ => some []) := pj_nil
theorem j_ve_fstr {g : VE → Option (List Str)} (h : PJ X M H0 (a :: b :: es) g) : JE X (.JoinedStr (a :: b :: es) pos) (tD X.K M H0 fun ρ => catO (g ρ)) := ⟨ve_fstr h⟩
end
end L2
set_option Elab.async false
set_option linter.all false
set_option maxRecDepth 100000
namespace L2
open PySem PySem.Spec PyProof.Rows
@[simp] theorem eqD_ii (a b : Int) : eqD (.int a) (.int b) = decide (a = b) := by simp only [eqD]; by_cases h : a = b <;> simp [h]
@[simp] theorem eqD_ss (a b : Str) : eqD (.str a) (.str b) = decide (a = b) := by simp only [eqD]; by_cases h : a = b <;> simp [h]
@[simp] theorem eqD_bb (a b : Bool) : eqD (.bl a) (.bl b) = decide (a = b) := by simp only [eqD]; by_cases h : a = b <;> simp [h]
@[simp] theorem eqD_nn : eqD .non .non = true := by simp only [eqD]
@[simp] theorem eqD_bi (a : Bool) (b : Int) : eqD (.bl a) (.int b) = decide ((if a then 1 else 0) = b) := by simp only [eqD]; by_cases h : (if a then 1 else 0) = b <;> simp [h]
@[simp] theorem eqD_ib (a : Int) (b : Bool) : eqD (.int a) (.bl b) = decide (a = (if b then 1 else 0)) := by simp only [eqD]; by_cases h : a = (if b then 1 else 0) <;> simp [h]
@[simp] theorem eqD_is (a : Int) (b : Str) : eqD (.int a) (.str b) = false := by simp only [eqD]
@[simp] theorem eqD_si (a : Str) (b : Int) : eqD (.str a) (.int b) = false := by simp only [eqD]
@[simp] theorem eqD_bs (a : Bool) (b : Str) : eqD (.bl a) (.str b) = false := by simp only [eqD]
@[simp] theorem eqD_sb (a : Str) (b : Bool) : eqD (.str a) (.bl b) = false := by simp only [eqD]
@[simp] theorem eqD_ni (b : Int) : eqD .non (.int b) = false := by simp only [eqD]
@[simp] theorem eqD_ns (b : Str) : eqD .non (.str b) = false := by simp only [eqD]
@[simp] theorem eqD_nb (b : Bool) : eqD .non (.bl b) = false := by simp only [eqD]
@[simp] theorem eqD_in (b : Int) : eqD (.int b) .non = false := by simp only [eqD]
@[simp] theorem eqD_sn (b : Str) : eqD (.str b) .non = false := by simp only [eqD]
@[simp] theorem eqD_bn (b : Bool) : eqD (.bl b) .non = false := by simp only [eqD]
@[simp] theorem eqD_tt (a b : List D) : eqD (.tup a) (.tup b) = eqDs a b := by simp only [eqD]
@[simp] theorem eqD_ll (a b : List D) : eqD (.lst a) (.lst b) = eqDs a b := by simp only [eqD]
@[simp] theorem eqD_tl (a b : List D) : eqD (.tup a) (.lst b) = false := by simp only [eqD]
@[simp] theorem eqD_lt (a b : List D) : eqD (.lst a) (.tup b) = false := by simp only [eqD]
@[simp] theorem eqD_ti (a : List D) (b : Int) : eqD (.tup a) (.int b) = false := by simp only [eqD]
@[simp] theorem eqD_ts (a : List D) (b : Str) : eqD (.tup a) (.str b) = false := by simp only [eqD]
@[simp] theorem eqD_tn (a : List D) : eqD (.tup a) .non = false := by simp only [eqD]
@[simp] theorem eqD_tb (a : List D) (b : Bool) : eqD (.tup a) (.bl b) = false := by simp only [eqD]
@[simp] theorem eqD_it (a : List D) (b : Int) : eqD (.int b) (.tup a) = false := by simp only [eqD]
@[simp] theorem eqD_st (a : List D) (b : Str) : eqD (.str b) (.tup a) = false := by simp only [eqD]
@[simp] theorem eqD_nt (a : List D) : eqD .non (.tup a) = false := by simp only [eqD]
@[simp] theorem eqD_bt (a : List D) (b : Bool) : eqD (.bl b) (.tup a) = false := by simp only [eqD]
@[simp] theorem eqD_li (a : List D) (b : Int) : eqD (.lst a) (.int b) = false := by simp only [eqD]
@[simp] theorem eqD_ls (a : List D) (b : Str) : eqD (.lst a) (.str b) = false := by simp only [eqD]
@[simp] theorem eqD_ln (a : List D) : eqD (.lst a) .non = false := by simp only [eqD]
@[simp] theorem eqD_lb (a : List D) (b : Bool) : eqD (.lst a) (.bl b) = false := by simp only [eqD]
@[simp] theorem eqD_il (a : List D) (b : Int) : eqD (.int b) (.lst a) = false := by simp only [eqD]
@[simp] theorem eqD_sl (a : List D) (b : Str) : eqD (.str b) (.lst a) = false := by simp only [eqD]
@[simp] theorem eqD_nl (a : List D) : eqD .non (.lst a) = false := by simp only [eqD]
@[simp] theorem eqD_bl' (a : List D) (b : Bool) : eqD (.bl b) (.lst a) = false := by simp only [eqD]
@[simp] theorem eqDs_nil : eqDs [] [] = true := by simp only [eqDs]
@[simp] theorem eqDs_cons (a b : D) (as bs : List D) : eqDs (a :: as) (b :: bs) = (eqD a b && eqDs as bs) := by simp only [eqDs]
@[simp] theorem eqDs_nc (b : D) (bs : List D) : eqDs [] (b :: bs) = false := by simp only [eqDs]
@[simp] theorem eqDs_cn (b : D) (bs : List D) : eqDs (b :: bs) [] = false := by simp only [eqDs]
@[simp] theorem eqDs_ints : ∀ (a b : List Int), eqDs (a.map D.int) (b.map D.int) = decide (a = b)
  | [], [] => by simp
  | [], _ :: _ => by simp
  | _ :: _, [] => by simp
  | x :: a, y :: b => by simp [eqDs_ints a b]
@[simp] theorem okD_ints (n : Nat) (a : List Int) : (a.map D.int).all (okD n) = true := by
  rw [List.all_eq_true]
  intro x hx
  obtain ⟨i, _, rfl⟩ := List.mem_map.mp hx
  cases n <;> rfl
@[simp] theorem tyLe_eq (t n : String) : tyLe t n = (t == n || (t == "bool" && n == "int")) := rfl
@[simp] theorem tyNames_eq : tyNames = ["NoneType", "bool", "int", "str", "tuple", "list"] := rfl
@[simp] theorem deep_eq : deep = 12 := rfl
@[simp] theorem tysL_nil : tysOf.tysL [] = some [] := rfl
@[simp] theorem tysL_cons (n : String) (r : List D) : tysOf.tysL (.ty n :: r) = (tysOf.tysL r).map (n :: ·) := rfl
@[simp] theorem asIs_eq (ns : List Int) : asIs (ns.map D.int) = some ns := asIs_ints ns
@[simp] theorem asBs_eq : ∀ (ns : List Bool), asBs (ns.map D.bl) = some ns
  | [] => rfl
  | n :: ns => by simp only [List.map_cons, asBs, asBs_eq ns]; rfl
theorem compL_map {α : Type} {b : D → VE → Option VE} {e : VE → Option D} {ρ : VE} (G F : α → D) : ∀ (xs : List α), (∀ x ∈ xs, ∃ ρ1, b (G x) ρ = some ρ1 ∧ e ρ1 = some (F x)) → compL b (fun _ => some true) e ρ (xs.map G) = some (xs.map F)
  | [], _ => rfl
  | x :: xs, h => by
    obtain ⟨ρ1, h1, h2⟩ := h x List.mem_cons_self
    simp only [List.map_cons, compL, h1, h2, consO, Option.bind, compL_map G F xs fun y hy => h y (List.mem_cons_of_mem _ hy)]
@[simp] theorem short_le {α : Type} (l : List α) (h : l.length ≤ 1000000) : shortO (some l) = some l := by
  have : l.length ≤ sizeLine := Nat.le_trans h (by decide)
  simp [this]
theorem cutD_map {α β : Type} (f : α → β) (xs : List α) (lo hi : Option Int) : cutD (xs.map f) lo hi = (cutD xs lo hi).map f := by
  unfold cutD
  rw [List.length_map, List.map_take, List.map_drop]
theorem cut_to {α : Type} (xs : List α) (k : Int) (h : 0 ≤ k) : cutD xs none (some k) = xs.take k.toNat := by
  have e : HT.sIx xs.length 0 none = 0 := rfl
  have e2 : HT.sIx xs.length xs.length (some k) = min k.toNat xs.length := by simp only [HT.sIx]; split <;> omega
  unfold cutD
  rw [e, e2, List.drop_zero, Nat.sub_zero]
  rcases Nat.le_total k.toNat xs.length with h1 | h1
  · rw [Nat.min_eq_left h1]
  · rw [Nat.min_eq_right h1, List.take_length, List.take_of_length_le h1]
theorem cut_from {α : Type} (xs : List α) (k : Int) (h : 0 ≤ k) : cutD xs (some k) none = xs.drop k.toNat := by
  have e : HT.sIx xs.length xs.length none = xs.length := rfl
  have e2 : HT.sIx xs.length 0 (some k) = min k.toNat xs.length := by simp only [HT.sIx]; split <;> omega
  unfold cutD
  rw [e, e2]
  rcases Nat.le_total k.toNat xs.length with h1 | h1
  · rw [Nat.min_eq_left h1, List.take_of_length_le (by rw [List.length_drop]; exact Nat.le_refl _)]
  · rw [Nat.min_eq_right h1, List.drop_length, List.drop_of_length_le h1, List.take_nil]
@[simp] theorem sortD_eq (ns : List Int) : sortD [.lst (ns.map D.int)] = if ns.length < 64 then some ((isrt ns).map D.int) else none := by simp [sortD]
theorem rng1_int (j : Int) (h0 : 0 ≤ j) (h : j < 1000000000) : rng1 [.int j] = some ((List.range j.toNat).map fun (k : Nat) => D.int (k : Int)) := by
  have e : rngItems 0 j.toNat = (List.range j.toNat).map fun (k : Nat) => D.int (k : Int) := by simp [rngItems]
  simp only [rng1]
  rw [gd_pos ⟨by omega, by omega⟩, e]
theorem rng1_nat (n : Nat) (h : n < 1000000000) : rng1 [.int (n : Int)] = some ((List.range n).map fun (k : Nat) => D.int (k : Int)) := by
  rw [rng1_int _ (by omega) (by omega), Int.toNat_natCast]
theorem addD_lst (xs ys : List D) (h : xs.length + ys.length ≤ 1000000) : addD (.lst xs) (.lst ys) = some (.lst (xs ++ ys)) := by
  simp only [addD]
  rw [if_pos (Nat.le_trans h (by decide))]
theorem addD_str (x y : Str) (h : x.length + y.length ≤ 1000000) : addD (.str x) (.str y) = some (.str (x ++ y)) := by
  simp only [addD]
  rw [if_pos (Nat.le_trans h (by decide))]
theorem inD_one (neg : Bool) (c : Nat) (z : Str) : inD neg (.str ⟨#[c]⟩) (.str z) = some (.bl (if neg then !decide (c ∈ z.cps.toList) else decide (c ∈ z.cps.toList))) := by
  have h := StrLaws.found_one z c
  simp only [inD]
  rw [h]
theorem ixN_ok {n : Nat} {i : Int} (h0 : 0 ≤ i) (h1 : i < n) : ixN n i = some i.toNat := by unfold ixN; rw [if_pos h0, if_pos h1]
theorem atI_ok {α : Type} {xs : List α} {i : Int} (h0 : 0 ≤ i) (h1 : i < xs.length) : ∃ x, atI xs i = some x ∧ x ∈ xs := by
  have h : i.toNat < xs.length := by omega
  refine ⟨xs[i.toNat], ?_, List.getElem_mem _⟩
  unfold atI
  rw [ixN_ok h0 h1]
  exact List.getElem?_eq_getElem h
theorem ixD_str {z : Str} {i : Int} (hz : z.length ≤ 1000000) (h0 : 0 ≤ i) (h1 : i < z.length) : ∃ c, ixD (.str z) (.int i) = some (.str ⟨#[c]⟩) ∧ c ∈ z.cps.toList := by
  have hl : z.cps.toList.length = z.length := by simp [Str.length]
  obtain ⟨c, e, hc⟩ := atI_ok (xs := z.cps.toList) h0 (by rw [hl]; exact h1)
  refine ⟨c, ?_, hc⟩
  simp only [ixD]
  rw [if_pos (Nat.le_trans hz (by decide)), e]
  rfl
@[simp] theorem rvD_v (d : D) : rvD (.val d) = d := rfl
@[simp] theorem rvD_o (xs : List D) (b : Bool) : rvD (.own xs b) = .lst xs b := rfl
end L2
set_option Elab.async false
set_option linter.all false
set_option maxRecDepth 100000
set_option maxHeartbeats 4000000
namespace K81
open PySem PySem.Spec PyProof.Rows L2
noncomputable def C_is_word_0 : VE → Option D := (fun ρ => blO (orB (asB ((bin2 (inD false) (fun ρ => rdP ρ 0) (fun _ => some (.str "abcdefghijklmnopqrstuvwxyz"))) ρ)) (asB ((bin2 (inD false) (fun ρ => rdP ρ 0) (fun _ => some (.str "0123456789"))) ρ))))
noncomputable def g_is_word : VE → Res := (fun ρ => seqR (iteR (notO (truD ((bltO isD (fun ρ => consO (rdA ρ 0) (consO (valO (some (.ty "str"))) (some [])))) ρ))) (seqR (retO (some (.bl false))) (fun ρ => .next ρ)) (.next ρ)) (fun ρ => seqR (iteR (orB (asB ((bin2 ltO (bltO lenD (fun ρ => consO (rdA ρ 0) (some []))) (fun _ => some (.int (1)))) ρ)) (asB ((bin2 gtD (bltO lenD (fun ρ => consO (rdA ρ 0) (some []))) (fun _ => some (.int (12)))) ρ))) (seqR (retO (some (.bl false))) (fun ρ => .next ρ)) (.next ρ)) (fun ρ => seqR (retO (blO (andO (asB ((bin2 (inD false) (bin2 ixD (fun ρ => rdP ρ 0) (fun _ => some (.int (0)))) (fun _ => some (.str "abcdefghijklmnopqrstuvwxyz"))) ρ)) (asB ((bltO allD (fun ρ => consO (valO (lstO ((compF 1 [] (fun ρ => (rdQ ρ 0).bind seqItems) (bName 0) (fun _ => some true) C_is_word_0) ρ))) (some []))) ρ))))) (fun ρ => .next ρ))))
noncomputable def F_is_word : List Sl → Option Rv := fnP 1 1 g_is_word
noncomputable def g_show_value : VE → Res := (fun ρ => seqR (retO (iteO (isNO (rdP ρ 0)) (some (.str "*")) ((bltO strA (fun ρ => consO (rdA ρ 0) (some []))) ρ))) (fun ρ => .next ρ))
noncomputable def F_show_value : List Sl → Option Rv := fnP 1 1 g_show_value
noncomputable def C_show_cell_0 : VE → Option D := (bltO strA (fun ρ => consO (rdA ρ 0) (some [])))
noncomputable def g_show_cell : VE → Res := (fun ρ => seqR (retO ((mtO joinD (fun _ => some (.str " ")) (fun ρ => consO (valO (lstO ((compF 1 [] (fun ρ => (rdQ ρ 0).bind seqItems) (bName 0) (fun _ => some true) C_show_cell_0) ρ))) (some []))) ρ)) (fun ρ => .next ρ))
noncomputable def F_show_cell : List Sl → Option Rv := fnP 1 1 g_show_cell
noncomputable def C_is_written_whole_0 : VE → Option D := (bin2 (inD false) (fun ρ => rdP ρ 0) (fun _ => some (.str "0123456789")))
noncomputable def P_is_written_whole_0 : VE → Res := (fun ρ => setR 1 (iteO (truD ((mtO startswithD (fun ρ => rdP ρ 0) (fun ρ => consO (valO (some (.str "-"))) (some []))) ρ)) ((sl3 (fun ρ => rdP ρ 0) (fun ρ => asI (some (.int (1)))) (fun _ => some none) slD) ρ) (rdV ρ 0)) ρ)
noncomputable def P_is_written_whole_1 : VE → Res := (fun ρ => iteR (orB (asB ((bin2 ltO (bltO lenD (fun ρ => consO (rdA ρ 1) (some []))) (fun _ => some (.int (1)))) ρ)) (asB ((bin2 gtD (bltO lenD (fun ρ => consO (rdA ρ 1) (some []))) (fun _ => some (.int (60)))) ρ))) (seqR (retO (some (.bl false))) (fun ρ => .next ρ)) (.next ρ))
noncomputable def P_is_written_whole_2 : VE → Res := (fun ρ => iteR (andO (truD ((mtO startswithD (fun ρ => rdP ρ 1) (fun ρ => consO (valO (some (.str "0"))) (some []))) ρ)) (asB ((bin2 neO (fun ρ => rdP ρ 0) (fun _ => some (.str "0"))) ρ))) (seqR (retO (some (.bl false))) (fun ρ => .next ρ)) (.next ρ))
noncomputable def P_is_written_whole_3 : VE → Res := (fun ρ => retO ((bltO allD (fun ρ => consO (valO (lstO ((compF 1 [] (fun ρ => (rdQ ρ 1).bind seqItems) (bName 0) (fun _ => some true) C_is_written_whole_0) ρ))) (some []))) ρ))
noncomputable def S_is_written_whole_4 : VE → Res := fun ρ => .next ρ
noncomputable def S_is_written_whole_3 : VE → Res := fun ρ => seqR (P_is_written_whole_3 ρ) S_is_written_whole_4
noncomputable def S_is_written_whole_2 : VE → Res := fun ρ => seqR (P_is_written_whole_2 ρ) S_is_written_whole_3
noncomputable def S_is_written_whole_1 : VE → Res := fun ρ => seqR (P_is_written_whole_1 ρ) S_is_written_whole_2
noncomputable def S_is_written_whole_0 : VE → Res := fun ρ => seqR (P_is_written_whole_0 ρ) S_is_written_whole_1
noncomputable def g_is_written_whole : VE → Res := S_is_written_whole_0
noncomputable def F_is_written_whole : List Sl → Option Rv := fnP 1 2 g_is_written_whole
noncomputable def g_parts_of : VE → Res := (fun ρ => seqR (iteR (notO (truD ((bltO isD (fun ρ => consO (rdA ρ 0) (consO (valO (some (.ty "str"))) (some [])))) ρ))) (seqR (.fail) (fun ρ => .next ρ)) (.next ρ)) (fun ρ => seqR (retO ((mtO splitD (fun ρ => rdP ρ 0) (fun ρ => consO (rdA ρ 1) (some []))) ρ)) (fun ρ => .next ρ)))
noncomputable def F_parts_of : List Sl → Option Rv := fnP 2 2 g_parts_of
noncomputable def g_law_cell_at : VE → Res := (fun ρ => seqR (iteR (asB ((bin2 ltO (fun ρ => rdP ρ 1) (bltO lenD (fun ρ => consO (rdA ρ 0) (some [])))) ρ)) (seqR (retO ((bin2 ixD (fun ρ => rdP ρ 0) (fun ρ => rdP ρ 1)) ρ)) (fun ρ => .next ρ)) (.next ρ)) (fun ρ => seqR (retO (some (.int (0)))) (fun ρ => .next ρ)))
noncomputable def F_law_cell_at : List Sl → Option Rv := fnP 2 2 g_law_cell_at
noncomputable def L_law_stream_0 : VE → Res := (fun ρ => seqR (setR 2 ((bin2 modD (bin2 addD (bin2 addD (bin2 mulD (fun ρ => rdP ρ 2) (fun _ => some (.int (48271)))) (bin2 mulD (fun _ => some (.int (2))) (fun ρ => rdP ρ 4))) (fun _ => some (.int (11)))) (fun _ => some (.int (2147483647)))) ρ) ρ) (fun ρ => seqR (appR 3 ((bin2 fdivD (fun ρ => rdP ρ 2) (fun _ => some (.int (64)))) ρ) ρ) (fun ρ => .next ρ)))
noncomputable def P_law_stream_0 : VE → Res := (fun ρ => setR 2 ((bin2 modD (bin2 addD (fun ρ => rdP ρ 0) (bin2 mulD (fun _ => some (.int (7919))) (fun ρ => rdP ρ 1))) (fun _ => some (.int (2147483629)))) ρ) ρ)
noncomputable def P_law_stream_1 : VE → Res := (fun ρ => setRF 3 (shortO ((some []).bind vals)) ρ)
noncomputable def P_law_stream_2 : VE → Res := (forO (fun ρ => ((consO (valO (some (.int (25)))) (some [])).bind vals).bind rng1) (bName 4) L_law_stream_0)
noncomputable def P_law_stream_3 : VE → Res := (fun ρ => retO ((sl3 (fun ρ => rdP ρ 3) (fun ρ => asI (some (.int (1)))) (fun _ => some none) slD) ρ))
noncomputable def S_law_stream_4 : VE → Res := fun ρ => .next ρ
noncomputable def S_law_stream_3 : VE → Res := fun ρ => seqR (P_law_stream_3 ρ) S_law_stream_4
noncomputable def S_law_stream_2 : VE → Res := fun ρ => seqR (P_law_stream_2 ρ) S_law_stream_3
noncomputable def S_law_stream_1 : VE → Res := fun ρ => seqR (P_law_stream_1 ρ) S_law_stream_2
noncomputable def S_law_stream_0 : VE → Res := fun ρ => seqR (P_law_stream_0 ρ) S_law_stream_1
noncomputable def g_law_stream : VE → Res := S_law_stream_0
noncomputable def F_law_stream : List Sl → Option Rv := fnP 2 5 g_law_stream
noncomputable def L_law_word_0 : VE → Res := (fun ρ => seqR (setR 3 ((bin2 addD (fun ρ => rdP ρ 3) (bin2 ixD (fun ρ => rdP ρ 2) (bin2 modD (bin2 fdivD (fun ρ => rdP ρ 0) (bin2 addD (fun ρ => rdP ρ 4) (fun _ => some (.int (3))))) (fun _ => some (.int (36)))))) ρ) ρ) (fun ρ => .next ρ))
noncomputable def P_law_word_0 : VE → Res := (fun ρ => setR 2 (some (.str "abcdefghijklmnopqrstuvwxyz0123456789")) ρ)
noncomputable def P_law_word_1 : VE → Res := (fun ρ => setR 3 ((bin2 ixD (fun ρ => rdP ρ 2) (bin2 modD (fun ρ => rdP ρ 0) (fun _ => some (.int (26))))) ρ) ρ)
noncomputable def P_law_word_2 : VE → Res := (forO (fun ρ => ((consO (valO (rdV ρ 1)) (some [])).bind vals).bind rng1) (bName 4) L_law_word_0)
noncomputable def P_law_word_3 : VE → Res := (fun ρ => retO (rdV ρ 3))
noncomputable def S_law_word_4 : VE → Res := fun ρ => .next ρ
noncomputable def S_law_word_3 : VE → Res := fun ρ => seqR (P_law_word_3 ρ) S_law_word_4
noncomputable def S_law_word_2 : VE → Res := fun ρ => seqR (P_law_word_2 ρ) S_law_word_3
noncomputable def S_law_word_1 : VE → Res := fun ρ => seqR (P_law_word_1 ρ) S_law_word_2
noncomputable def S_law_word_0 : VE → Res := fun ρ => seqR (P_law_word_0 ρ) S_law_word_1
noncomputable def g_law_word : VE → Res := S_law_word_0
noncomputable def F_law_word : List Sl → Option Rv := fnP 2 5 g_law_word
noncomputable def W_law_written_0 : VE → Option Bool := (fun ρ => orB (asB ((bin2 gtD (fun ρ => rdP ρ 2) (fun _ => some (.int (0)))) ρ)) (asB ((bin2 eqO (fun ρ => rdP ρ 1) (fun _ => some (.str ""))) ρ)))
noncomputable def L_law_written_0 : VE → Res := (fun ρ => seqR (setR 1 ((bin2 addD (bin2 ixD (fun _ => some (.str "0123456789")) (bin2 modD (fun ρ => rdP ρ 2) (fun _ => some (.int (10))))) (fun ρ => rdP ρ 1)) ρ) ρ) (fun ρ => seqR (setR 2 ((bin2 fdivD (fun ρ => rdP ρ 2) (fun _ => some (.int (10)))) ρ) ρ) (fun ρ => .next ρ)))
noncomputable def P_law_written_0 : VE → Res := (fun ρ => iteR (isNO (rdP ρ 0)) (seqR (retO (some (.str "*"))) (fun ρ => .next ρ)) (.next ρ))
noncomputable def P_law_written_1 : VE → Res := (fun ρ => iteR (notO (truD ((bltO isD (fun ρ => consO (rdA ρ 0) (consO (valO (some (.ty "int"))) (some [])))) ρ))) (seqR (retO (rdV ρ 0)) (fun ρ => .next ρ)) (.next ρ))
noncomputable def P_law_written_2 : VE → Res := (fun ρ => setR 1 (some (.str "")) ρ)
noncomputable def P_law_written_3 : VE → Res := (fun ρ => setR 2 ((bltO absD (fun ρ => consO (rdA ρ 0) (some []))) ρ) ρ)
noncomputable def P_law_written_4 : VE → Res := (fun ρ => whR W_law_written_0 L_law_written_0 (100) ρ)
noncomputable def P_law_written_5 : VE → Res := (fun ρ => retO (iteO (asB ((bin2 geD (fun ρ => rdP ρ 0) (fun _ => some (.int (0)))) ρ)) (rdV ρ 1) ((bin2 addD (fun _ => some (.str "-")) (fun ρ => rdP ρ 1)) ρ)))
noncomputable def S_law_written_6 : VE → Res := fun ρ => .next ρ
noncomputable def S_law_written_5 : VE → Res := fun ρ => seqR (P_law_written_5 ρ) S_law_written_6
noncomputable def S_law_written_4 : VE → Res := fun ρ => seqR (P_law_written_4 ρ) S_law_written_5
noncomputable def S_law_written_3 : VE → Res := fun ρ => seqR (P_law_written_3 ρ) S_law_written_4
noncomputable def S_law_written_2 : VE → Res := fun ρ => seqR (P_law_written_2 ρ) S_law_written_3
noncomputable def S_law_written_1 : VE → Res := fun ρ => seqR (P_law_written_1 ρ) S_law_written_2
noncomputable def S_law_written_0 : VE → Res := fun ρ => seqR (P_law_written_0 ρ) S_law_written_1
noncomputable def g_law_written : VE → Res := S_law_written_0
noncomputable def F_law_written : List Sl → Option Rv := fnP 1 3 g_law_written
noncomputable def g_law_whole : VE → Res := (fun ρ => seqR (retO (blO (andO (asB ((bltO isD (fun ρ => consO (rdA ρ 0) (consO (valO (some (.ty "int"))) (some [])))) ρ)) (asB (blO (notO (asB ((bltO isD (fun ρ => consO (rdA ρ 0) (consO (valO (some (.ty "bool"))) (some [])))) ρ)))))))) (fun ρ => .next ρ))
noncomputable def F_law_whole : List Sl → Option Rv := fnP 1 1 g_law_whole
noncomputable def C_show_key_0 : VE → Option D := (callO F_show_value (fun ρ => consO (rdA ρ 0) (some [])))
noncomputable def g_show_key : VE → Res := (fun ρ => seqR (retO ((mtO joinD (fun _ => some (.str "/")) (fun ρ => consO (valO (lstO ((compF 1 [] (fun ρ => (rdQ ρ 0).bind seqItems) (bName 0) (fun _ => some true) C_show_key_0) ρ))) (some []))) ρ)) (fun ρ => .next ρ))
noncomputable def F_show_key : List Sl → Option Rv := fnP 1 1 g_show_key
noncomputable def C_show_pick_0 : VE → Option D := (callO F_show_value (fun ρ => consO (rdA ρ 0) (some [])))
noncomputable def P_show_pick_0 : VE → Res := (fun ρ => setR 1 ((bin2 ixD (fun ρ => rdP ρ 0) (fun _ => some (.int (0)))) ρ) ρ)
noncomputable def P_show_pick_1 : VE → Res := (fun ρ => setR 2 ((bin2 ixD (fun ρ => rdP ρ 0) (fun _ => some (.int (1)))) ρ) ρ)
noncomputable def P_show_pick_2 : VE → Res := (fun ρ => setR 3 ((mtO joinD (fun _ => some (.str ",")) (fun ρ => consO (valO (lstO ((compF 1 [] (fun ρ => ((bin2 ixD (fun ρ => rdP ρ 0) (fun _ => some (.int (2)))) ρ).bind seqItems) (bName 0) (fun _ => some true) C_show_pick_0) ρ))) (some []))) ρ) ρ)
noncomputable def P_show_pick_3 : VE → Res := (fun ρ => retO (catO (strO (fmtD (rdP ρ 1)) (strO (some (.str "@")) (strO (fmtD (rdP ρ 2)) (strO (some (.str "=")) (strO (fmtD (rdP ρ 3)) (some []))))))))
noncomputable def S_show_pick_4 : VE → Res := fun ρ => .next ρ
noncomputable def S_show_pick_3 : VE → Res := fun ρ => seqR (P_show_pick_3 ρ) S_show_pick_4
noncomputable def S_show_pick_2 : VE → Res := fun ρ => seqR (P_show_pick_2 ρ) S_show_pick_3
noncomputable def S_show_pick_1 : VE → Res := fun ρ => seqR (P_show_pick_1 ρ) S_show_pick_2
noncomputable def S_show_pick_0 : VE → Res := fun ρ => seqR (P_show_pick_0 ρ) S_show_pick_1
noncomputable def g_show_pick : VE → Res := S_show_pick_0
noncomputable def F_show_pick : List Sl → Option Rv := fnP 1 4 g_show_pick
noncomputable def g_read_whole : VE → Res := (fun ρ => seqR (iteR (orB (notO (truD ((bltO isD (fun ρ => consO (rdA ρ 0) (consO (valO (some (.ty "str"))) (some [])))) ρ))) (notO (truD ((callO F_is_written_whole (fun ρ => consO (rdA ρ 0) (some []))) ρ)))) (seqR (.fail) (fun ρ => .next ρ)) (.next ρ)) (fun ρ => seqR (retO ((bltO intT (fun ρ => consO (rdA ρ 0) (some []))) ρ)) (fun ρ => .next ρ)))
noncomputable def F_read_whole : List Sl → Option Rv := fnP 1 1 g_read_whole
noncomputable def g_few_parts_of : VE → Res := (fun ρ => seqR (setR 1 ((callO F_parts_of (fun ρ => consO (rdA ρ 0) (consO (valO (some (.str "/"))) (some [])))) ρ) ρ) (fun ρ => seqR (iteR (asB ((bin2 gtD (bltO lenD (fun ρ => consO (rdA ρ 1) (some []))) (fun _ => some (.int (4)))) ρ)) (seqR (.fail) (fun ρ => .next ρ)) (.next ρ)) (fun ρ => seqR (retO (rdV ρ 1)) (fun ρ => .next ρ))))
noncomputable def F_few_parts_of : List Sl → Option Rv := fnP 1 2 g_few_parts_of
noncomputable def P_law_thing_0 : VE → Res := (fun ρ => setR 2 ((callO F_law_stream (fun ρ => consO (rdA ρ 0) (consO (rdA ρ 1) (some [])))) ρ) ρ)
noncomputable def P_law_thing_1 : VE → Res := (fun ρ => setR 3 ((bin2 modD (bin2 ixD (fun ρ => rdP ρ 2) (fun _ => some (.int (0)))) (fun _ => some (.int (6)))) ρ) ρ)
noncomputable def P_law_thing_2 : VE → Res := (fun ρ => iteR (asB ((bin2 eqO (fun ρ => rdP ρ 3) (fun _ => some (.int (0)))) ρ)) (seqR (retO (some .non)) (fun ρ => .next ρ)) (.next ρ))
noncomputable def P_law_thing_3 : VE → Res := (fun ρ => iteR (asB ((bin2 eqO (fun ρ => rdP ρ 3) (fun _ => some (.int (1)))) ρ)) (seqR (retO ((bin2 modD (bin2 fdivD (fun ρ => rdP ρ 0) (fun _ => some (.int (6)))) (bin2 powD (fun _ => some (.int (10))) (fun _ => some (.int (60))))) ρ)) (fun ρ => .next ρ)) (.next ρ))
noncomputable def P_law_thing_4 : VE → Res := (fun ρ => iteR (asB ((bin2 eqO (fun ρ => rdP ρ 3) (fun _ => some (.int (2)))) ρ)) (seqR (retO ((bin2 subD (fun _ => some (.int (0))) (bin2 modD (bin2 fdivD (fun ρ => rdP ρ 0) (fun _ => some (.int (6)))) (bin2 powD (fun _ => some (.int (10))) (fun _ => some (.int (60)))))) ρ)) (fun ρ => .next ρ)) (.next ρ))
noncomputable def P_law_thing_5 : VE → Res := (fun ρ => iteR (asB ((bin2 eqO (fun ρ => rdP ρ 3) (fun _ => some (.int (3)))) ρ)) (seqR (retO ((bin2 subD (bin2 modD (bin2 ixD (fun ρ => rdP ρ 2) (fun _ => some (.int (1)))) (fun _ => some (.int (21)))) (fun _ => some (.int (10)))) ρ)) (fun ρ => .next ρ)) (.next ρ))
noncomputable def P_law_thing_6 : VE → Res := (fun ρ => retO ((callO F_law_word (fun ρ => consO (valO ((bin2 addD (fun ρ => rdP ρ 0) (bin2 ixD (fun ρ => rdP ρ 2) (fun _ => some (.int (2))))) ρ)) (consO (valO ((bin2 modD (bin2 ixD (fun ρ => rdP ρ 2) (fun _ => some (.int (3)))) (fun _ => some (.int (12)))) ρ)) (some [])))) ρ))
noncomputable def S_law_thing_7 : VE → Res := fun ρ => .next ρ
noncomputable def S_law_thing_6 : VE → Res := fun ρ => seqR (P_law_thing_6 ρ) S_law_thing_7
noncomputable def S_law_thing_5 : VE → Res := fun ρ => seqR (P_law_thing_5 ρ) S_law_thing_6
noncomputable def S_law_thing_4 : VE → Res := fun ρ => seqR (P_law_thing_4 ρ) S_law_thing_5
noncomputable def S_law_thing_3 : VE → Res := fun ρ => seqR (P_law_thing_3 ρ) S_law_thing_4
noncomputable def S_law_thing_2 : VE → Res := fun ρ => seqR (P_law_thing_2 ρ) S_law_thing_3
noncomputable def S_law_thing_1 : VE → Res := fun ρ => seqR (P_law_thing_1 ρ) S_law_thing_2
noncomputable def S_law_thing_0 : VE → Res := fun ρ => seqR (P_law_thing_0 ρ) S_law_thing_1
noncomputable def g_law_thing : VE → Res := S_law_thing_0
noncomputable def F_law_thing : List Sl → Option Rv := fnP 2 4 g_law_thing
noncomputable def g_show_row : VE → Res := (fun ρ => seqR (setR 1 ((callO F_show_key (fun ρ => consO (valO ((bin2 ixD (fun ρ => rdP ρ 0) (fun _ => some (.int (0)))) ρ)) (some []))) ρ) ρ) (fun ρ => seqR (setR 2 ((bin2 ixD (fun ρ => rdP ρ 0) (fun _ => some (.int (1)))) ρ) ρ) (fun ρ => seqR (retO (catO (strO (fmtD (rdP ρ 1)) (strO (some (.str " ")) (strO (fmtD (rdP ρ 2)) (some [])))))) (fun ρ => .next ρ))))
noncomputable def F_show_row : List Sl → Option Rv := fnP 1 3 g_show_row
noncomputable def g_read_place : VE → Res := (fun ρ => seqR (setR 1 ((callO F_read_whole (fun ρ => consO (rdA ρ 0) (some []))) ρ) ρ) (fun ρ => seqR (iteR (asB ((bin2 ltO (fun ρ => rdP ρ 1) (fun _ => some (.int (0)))) ρ)) (seqR (.fail) (fun ρ => .next ρ)) (.next ρ)) (fun ρ => seqR (retO (rdV ρ 1)) (fun ρ => .next ρ))))
noncomputable def F_read_place : List Sl → Option Rv := fnP 1 2 g_read_place
noncomputable def g_read_value : VE → Res := (fun ρ => seqR (retO (iteO (truD ((callO F_is_word (fun ρ => consO (rdA ρ 0) (some []))) ρ)) (rdV ρ 0) ((callO F_read_whole (fun ρ => consO (rdA ρ 0) (some []))) ρ))) (fun ρ => .next ρ))
noncomputable def F_read_value : List Sl → Option Rv := fnP 1 1 g_read_value
noncomputable def L_law_pick_0 : VE → Res := (fun ρ => seqR (appR 3 ((bin2 modD (bin2 fdivD (callO F_law_cell_at (fun ρ => consO (rdA ρ 0) (consO (valO ((bin2 addD (fun ρ => rdP ρ 1) (fun ρ => rdP ρ 4)) ρ)) (some [])))) (bin2 addD (fun _ => some (.int (6))) (fun ρ => rdP ρ 4))) (bin2 ixD (fun ρ => lstO (shortO ((consO (valO (some (.int (5)))) (consO (valO ((bin2 powD (fun _ => some (.int (10))) (fun _ => some (.int (30)))) ρ)) (some []))).bind vals))) (bin2 modD (bin2 fdivD (fun ρ => rdP ρ 2) (fun _ => some (.int (2)))) (fun _ => some (.int (2)))))) ρ) ρ) (fun ρ => .next ρ))
noncomputable def C_law_pick_0 : VE → Option D := (callO F_law_thing (fun ρ => consO (valO ((callO F_law_cell_at (fun ρ => consO (rdA ρ 1) (consO (valO ((bin2 addD (fun ρ => rdP ρ 2) (fun ρ => rdP ρ 0)) ρ)) (some [])))) ρ)) (consO (valO ((bin2 mulD (fun _ => some (.int (7))) (fun ρ => rdP ρ 0)) ρ)) (some []))))
noncomputable def P_law_pick_0 : VE → Res := (fun ρ => setR 2 ((callO F_law_cell_at (fun ρ => consO (rdA ρ 0) (consO (rdA ρ 1) (some [])))) ρ) ρ)
noncomputable def P_law_pick_1 : VE → Res := (fun ρ => setRF 3 (shortO ((some []).bind vals)) ρ)
noncomputable def P_law_pick_2 : VE → Res := (forO (fun ρ => ((consO (valO (some (.int (2)))) (some [])).bind vals).bind rng1) (bName 4) L_law_pick_0)
noncomputable def P_law_pick_3 : VE → Res := (fun ρ => retO ((shortO ((consO (valO ((bin2 ixD (fun ρ => rdP ρ 3) (fun _ => some (.int (0)))) ρ)) (consO (valO ((bin2 ixD (fun ρ => rdP ρ 3) (fun _ => some (.int (1)))) ρ)) (consO (valO (lstO ((compF 1 [0, 1] (fun ρ => ((consO (valO ((bin2 addD (fun _ => some (.int (1))) (bin2 modD (fun ρ => rdP ρ 2) (fun _ => some (.int (6))))) ρ)) (some [])).bind vals).bind rng1) (bName 0) (fun _ => some true) C_law_pick_0) ρ))) (some [])))).bind vals)).map D.tup))
noncomputable def S_law_pick_4 : VE → Res := fun ρ => .next ρ
noncomputable def S_law_pick_3 : VE → Res := fun ρ => seqR (P_law_pick_3 ρ) S_law_pick_4
noncomputable def S_law_pick_2 : VE → Res := fun ρ => seqR (P_law_pick_2 ρ) S_law_pick_3
noncomputable def S_law_pick_1 : VE → Res := fun ρ => seqR (P_law_pick_1 ρ) S_law_pick_2
noncomputable def S_law_pick_0 : VE → Res := fun ρ => seqR (P_law_pick_0 ρ) S_law_pick_1
noncomputable def g_law_pick : VE → Res := S_law_pick_0
noncomputable def F_law_pick : List Sl → Option Rv := fnP 2 5 g_law_pick
noncomputable def g_read_value_or_whole : VE → Res := (fun ρ => seqR (retO (iteO (asB ((bin2 eqO (fun ρ => rdP ρ 0) (fun _ => some (.str "*"))) ρ)) (some .non) ((callO F_read_value (fun ρ => consO (rdA ρ 0) (some []))) ρ))) (fun ρ => .next ρ))
noncomputable def F_read_value_or_whole : List Sl → Option Rv := fnP 1 1 g_read_value_or_whole
noncomputable def C_read_line_0 : VE → Option D := (callO F_read_value (fun ρ => consO (rdA ρ 0) (some [])))
noncomputable def g_read_line : VE → Res := (fun ρ => seqR (retO ((bltO tupD (fun ρ => consO (valO (lstO ((compF 1 [] (fun ρ => ((callO F_few_parts_of (fun ρ => consO (rdA ρ 0) (some []))) ρ).bind seqItems) (bName 0) (fun _ => some true) C_read_line_0) ρ))) (some []))) ρ)) (fun ρ => .next ρ))
noncomputable def F_read_line : List Sl → Option Rv := fnP 1 1 g_read_line
noncomputable def C_read_pick_0 : VE → Option D := (callO F_read_value_or_whole (fun ρ => consO (rdA ρ 0) (some [])))
noncomputable def P_read_pick_0 : VE → Res := (fun ρ => setR 1 ((callO F_parts_of (fun ρ => consO (rdA ρ 0) (consO (valO (some (.str "="))) (some [])))) ρ) ρ)
noncomputable def P_read_pick_1 : VE → Res := (fun ρ => setR 2 ((mtO splitD (bin2 ixD (fun ρ => rdP ρ 1) (fun _ => some (.int (0)))) (fun ρ => consO (valO (some (.str "@"))) (some []))) ρ) ρ)
noncomputable def P_read_pick_2 : VE → Res := (fun ρ => iteR (orB (asB ((bin2 neO (bltO lenD (fun ρ => consO (rdA ρ 1) (some []))) (fun _ => some (.int (2)))) ρ)) (asB ((bin2 neO (bltO lenD (fun ρ => consO (rdA ρ 2) (some []))) (fun _ => some (.int (2)))) ρ))) (seqR (.fail) (fun ρ => .next ρ)) (.next ρ))
noncomputable def P_read_pick_3 : VE → Res := (fun ρ => setR 3 (lstO ((compF 1 [] (fun ρ => ((mtO splitD (bin2 ixD (fun ρ => rdP ρ 1) (fun _ => some (.int (1)))) (fun ρ => consO (valO (some (.str ","))) (some []))) ρ).bind seqItems) (bName 0) (fun _ => some true) C_read_pick_0) ρ)) ρ)
noncomputable def P_read_pick_4 : VE → Res := (fun ρ => retO ((shortO ((consO (valO ((callO F_read_place (fun ρ => consO (valO ((bin2 ixD (fun ρ => rdP ρ 2) (fun _ => some (.int (0)))) ρ)) (some []))) ρ)) (consO (valO ((callO F_read_place (fun ρ => consO (valO ((bin2 ixD (fun ρ => rdP ρ 2) (fun _ => some (.int (1)))) ρ)) (some []))) ρ)) (consO (valO (rdV ρ 3)) (some [])))).bind vals)).map D.tup))
noncomputable def S_read_pick_5 : VE → Res := fun ρ => .next ρ
noncomputable def S_read_pick_4 : VE → Res := fun ρ => seqR (P_read_pick_4 ρ) S_read_pick_5
noncomputable def S_read_pick_3 : VE → Res := fun ρ => seqR (P_read_pick_3 ρ) S_read_pick_4
noncomputable def S_read_pick_2 : VE → Res := fun ρ => seqR (P_read_pick_2 ρ) S_read_pick_3
noncomputable def S_read_pick_1 : VE → Res := fun ρ => seqR (P_read_pick_1 ρ) S_read_pick_2
noncomputable def S_read_pick_0 : VE → Res := fun ρ => seqR (P_read_pick_0 ρ) S_read_pick_1
noncomputable def g_read_pick : VE → Res := S_read_pick_0
noncomputable def F_read_pick : List Sl → Option Rv := fnP 1 4 g_read_pick
noncomputable def g_read_row : VE → Res := (fun ρ => seqR (setR 1 ((callO F_parts_of (fun ρ => consO (rdA ρ 0) (consO (valO (some (.str " "))) (some [])))) ρ) ρ) (fun ρ => seqR (iteR (asB ((bin2 neO (bltO lenD (fun ρ => consO (rdA ρ 1) (some []))) (fun _ => some (.int (2)))) ρ)) (seqR (.fail) (fun ρ => .next ρ)) (.next ρ)) (fun ρ => seqR (retO ((shortO ((consO (valO ((callO F_read_line (fun ρ => consO (valO ((bin2 ixD (fun ρ => rdP ρ 1) (fun _ => some (.int (0)))) ρ)) (some []))) ρ)) (consO (valO ((callO F_read_whole (fun ρ => consO (valO ((bin2 ixD (fun ρ => rdP ρ 1) (fun _ => some (.int (1)))) ρ)) (some []))) ρ)) (some []))).bind vals)).map D.tup)) (fun ρ => .next ρ))))
noncomputable def F_read_row : List Sl → Option Rv := fnP 1 2 g_read_row
noncomputable def C_law_pick_good_0 : VE → Option D := (callO F_law_written (fun ρ => consO (rdA ρ 0) (some [])))
noncomputable def C_law_pick_good_1 : VE → Option D := (bltO isD (fun ρ => consO (rdA ρ 0) (consO (valO (some (.ty "bool"))) (some []))))
noncomputable def P_law_pick_good_0 : VE → Res := (fun ρ => asgR (bTup 3 (bCons (bName 1) (bCons (bName 2) (bCons (bName 3) bNil)))) (rdV ρ 0) ρ)
noncomputable def P_law_pick_good_1 : VE → Res := (fun ρ => setR 4 ((bin2 addD (bin2 addD (bin2 addD (bin2 addD (callO F_law_written (fun ρ => consO (rdA ρ 1) (some []))) (fun _ => some (.str "@"))) (callO F_law_written (fun ρ => consO (rdA ρ 2) (some [])))) (fun _ => some (.str "="))) (mtO joinD (fun _ => some (.str ",")) (fun ρ => consO (valO (lstO ((compF 1 [] (fun ρ => (rdQ ρ 3).bind seqItems) (bName 0) (fun _ => some true) C_law_pick_good_0) ρ))) (some [])))) ρ) ρ)
noncomputable def P_law_pick_good_2 : VE → Res := (fun ρ => iteR (orB (asB ((bin2 neO (callO F_show_pick (fun ρ => consO (rdA ρ 0) (some []))) (fun ρ => rdP ρ 4)) ρ)) (asB ((bin2 neO (callO F_show_pick (fun ρ => consO (valO ((shortO ((consO (valO (rdV ρ 1)) (consO (valO (rdV ρ 2)) (consO (valO ((bltO tupD (fun ρ => consO (rdA ρ 3) (some []))) ρ)) (some [])))).bind vals)).map D.tup)) (some []))) (fun ρ => rdP ρ 4)) ρ))) (seqR (retO (some (.bl false))) (fun ρ => .next ρ)) (.next ρ))
noncomputable def P_law_pick_good_3 : VE → Res := (fun ρ => setR 5 ((callO F_read_pick (fun ρ => consO (rdA ρ 4) (some []))) ρ) ρ)
noncomputable def P_law_pick_good_4 : VE → Res := (fun ρ => iteR (orB (notO (truD ((bltO isD (fun ρ => consO (rdA ρ 5) (consO (valO (some (.ty "tuple"))) (some [])))) ρ))) (orB (asB ((bin2 neO (bltO lenD (fun ρ => consO (rdA ρ 5) (some []))) (fun _ => some (.int (3)))) ρ)) (orB (notO (truD ((bltO isD (fun ρ => consO (valO ((bin2 ixD (fun ρ => rdP ρ 5) (fun _ => some (.int (2)))) ρ)) (consO (valO (some (.ty "list"))) (some [])))) ρ))) (asB ((bin2 neO (fun ρ => rdP ρ 5) (fun ρ => rdP ρ 0)) ρ))))) (seqR (retO (some (.bl false))) (fun ρ => .next ρ)) (.next ρ))
noncomputable def P_law_pick_good_5 : VE → Res := (fun ρ => retO (blO (notO (asB ((bltO anyD (fun ρ => consO (valO (lstO ((compF 1 [] (fun ρ => ((bin2 addD (fun ρ => lstO (shortO ((consO (valO ((bin2 ixD (fun ρ => rdP ρ 5) (fun _ => some (.int (0)))) ρ)) (consO (valO ((bin2 ixD (fun ρ => rdP ρ 5) (fun _ => some (.int (1)))) ρ)) (some []))).bind vals))) (bin2 ixD (fun ρ => rdP ρ 5) (fun _ => some (.int (2))))) ρ).bind seqItems) (bName 0) (fun _ => some true) C_law_pick_good_1) ρ))) (some []))) ρ)))))
noncomputable def S_law_pick_good_6 : VE → Res := fun ρ => .next ρ
noncomputable def S_law_pick_good_5 : VE → Res := fun ρ => seqR (P_law_pick_good_5 ρ) S_law_pick_good_6
noncomputable def S_law_pick_good_4 : VE → Res := fun ρ => seqR (P_law_pick_good_4 ρ) S_law_pick_good_5
noncomputable def S_law_pick_good_3 : VE → Res := fun ρ => seqR (P_law_pick_good_3 ρ) S_law_pick_good_4
noncomputable def S_law_pick_good_2 : VE → Res := fun ρ => seqR (P_law_pick_good_2 ρ) S_law_pick_good_3
noncomputable def S_law_pick_good_1 : VE → Res := fun ρ => seqR (P_law_pick_good_1 ρ) S_law_pick_good_2
noncomputable def S_law_pick_good_0 : VE → Res := fun ρ => seqR (P_law_pick_good_0 ρ) S_law_pick_good_1
noncomputable def g_law_pick_good : VE → Res := S_law_pick_good_0
noncomputable def F_law_pick_good : List Sl → Option Rv := fnP 1 6 g_law_pick_good
noncomputable def C_law_row_good_0 : VE → Option D := (callO F_law_written (fun ρ => consO (rdA ρ 0) (some [])))
noncomputable def C_law_row_good_1 : VE → Option D := (bltO isD (fun ρ => consO (rdA ρ 0) (consO (valO (some (.ty "bool"))) (some []))))
noncomputable def P_law_row_good_0 : VE → Res := (fun ρ => setR 2 ((bin2 addD (bin2 addD (mtO joinD (fun _ => some (.str "/")) (fun ρ => consO (valO (lstO ((compF 1 [] (fun ρ => (rdQ ρ 0).bind seqItems) (bName 0) (fun _ => some true) C_law_row_good_0) ρ))) (some []))) (fun _ => some (.str " "))) (callO F_law_written (fun ρ => consO (rdA ρ 1) (some [])))) ρ) ρ)
noncomputable def P_law_row_good_1 : VE → Res := (fun ρ => iteR (asB ((bin2 neO (callO F_show_row (fun ρ => consO (valO ((shortO ((consO (valO (rdV ρ 0)) (consO (valO (rdV ρ 1)) (some []))).bind vals)).map D.tup)) (some []))) (fun ρ => rdP ρ 2)) ρ)) (seqR (retO (some (.bl false))) (fun ρ => .next ρ)) (.next ρ))
noncomputable def P_law_row_good_2 : VE → Res := (fun ρ => setR 3 ((callO F_read_row (fun ρ => consO (rdA ρ 2) (some []))) ρ) ρ)
noncomputable def P_law_row_good_3 : VE → Res := (fun ρ => iteR (orB (notO (truD ((bltO isD (fun ρ => consO (rdA ρ 3) (consO (valO (some (.ty "tuple"))) (some [])))) ρ))) (orB (asB ((bin2 neO (bltO lenD (fun ρ => consO (rdA ρ 3) (some []))) (fun _ => some (.int (2)))) ρ)) (notO (truD ((bltO isD (fun ρ => consO (valO ((bin2 ixD (fun ρ => rdP ρ 3) (fun _ => some (.int (0)))) ρ)) (consO (valO (some (.ty "tuple"))) (some [])))) ρ))))) (seqR (retO (some (.bl false))) (fun ρ => .next ρ)) (.next ρ))
noncomputable def P_law_row_good_4 : VE → Res := (fun ρ => retO (blO (andO (asB ((bin2 eqO (fun ρ => rdP ρ 3) (fun ρ => (shortO ((consO (valO (rdV ρ 0)) (consO (valO (rdV ρ 1)) (some []))).bind vals)).map D.tup)) ρ)) (andO (asB ((callO F_law_whole (fun ρ => consO (valO ((bin2 ixD (fun ρ => rdP ρ 3) (fun _ => some (.int (1)))) ρ)) (some []))) ρ)) (asB (blO (notO (asB ((bltO anyD (fun ρ => consO (valO (lstO ((compF 1 [] (fun ρ => ((bin2 ixD (fun ρ => rdP ρ 3) (fun _ => some (.int (0)))) ρ).bind seqItems) (bName 0) (fun _ => some true) C_law_row_good_1) ρ))) (some []))) ρ)))))))))
noncomputable def S_law_row_good_5 : VE → Res := fun ρ => .next ρ
noncomputable def S_law_row_good_4 : VE → Res := fun ρ => seqR (P_law_row_good_4 ρ) S_law_row_good_5
noncomputable def S_law_row_good_3 : VE → Res := fun ρ => seqR (P_law_row_good_3 ρ) S_law_row_good_4
noncomputable def S_law_row_good_2 : VE → Res := fun ρ => seqR (P_law_row_good_2 ρ) S_law_row_good_3
noncomputable def S_law_row_good_1 : VE → Res := fun ρ => seqR (P_law_row_good_1 ρ) S_law_row_good_2
noncomputable def S_law_row_good_0 : VE → Res := fun ρ => seqR (P_law_row_good_0 ρ) S_law_row_good_1
noncomputable def g_law_row_good : VE → Res := S_law_row_good_0
noncomputable def F_law_row_good : List Sl → Option Rv := fnP 2 4 g_law_row_good
noncomputable def L_law_0 : VE → Res := (fun ρ => seqR (setR 5 ((callO F_law_thing (fun ρ => consO (valO ((callO F_law_cell_at (fun ρ => consO (rdA ρ 0) (consO (valO ((bin2 addD (fun ρ => rdP ρ 1) (fun ρ => rdP ρ 4)) ρ)) (some [])))) ρ)) (consO (valO ((bin2 addD (fun _ => some (.int (3))) (fun ρ => rdP ρ 4)) ρ)) (some [])))) ρ) ρ) (fun ρ => seqR (appR 3 (iteO (notO (isNO (rdP ρ 5))) (rdV ρ 5) ((bin2 subD (fun ρ => rdP ρ 4) (fun _ => some (.int (2)))) ρ)) ρ) (fun ρ => .next ρ)))
noncomputable def C_law_0 : VE → Option D := (bin2 subD (bin2 fdivD (fun ρ => rdP ρ 1) (bin2 addD (fun ρ => rdP ρ 0) (fun _ => some (.int (3))))) (fun ρ => rdP ρ 0))
noncomputable def C_law_1 : VE → Option D := (callO F_law_written (fun ρ => consO (rdA ρ 0) (some [])))
noncomputable def L_law_1 : VE → Res := (fun ρ => seqR (iteR (notO (truD ((callO F_law_pick_good (fun ρ => consO (valO ((callO F_law_pick (fun ρ => consO (rdA ρ 0) (consO (rdA ρ 1) (some [])))) ρ)) (some []))) ρ))) (seqR (retO (some (.bl false))) (fun ρ => .next ρ)) (.next ρ)) (fun ρ => seqR (setR 2 ((callO F_law_cell_at (fun ρ => consO (rdA ρ 0) (consO (rdA ρ 1) (some [])))) ρ) ρ) (fun ρ => seqR (setRF 3 (shortO ((some []).bind vals)) ρ) (fun ρ => seqR ((forO (fun ρ => ((consO (valO ((bin2 addD (fun _ => some (.int (1))) (bin2 modD (bin2 addD (fun ρ => rdP ρ 2) (fun ρ => rdP ρ 1)) (fun _ => some (.int (4))))) ρ)) (some [])).bind vals).bind rng1) (bName 4) L_law_0) ρ) (fun ρ => seqR (setR 6 ((bin2 mulD (bin2 modD (bin2 fdivD (fun ρ => rdP ρ 2) (fun _ => some (.int (3)))) (bin2 powD (fun _ => some (.int (10))) (fun _ => some (.int (59))))) (bin2 subD (fun _ => some (.int (1))) (bin2 mulD (fun _ => some (.int (2))) (bin2 modD (fun ρ => rdP ρ 2) (fun _ => some (.int (2))))))) ρ) ρ) (fun ρ => seqR (iteR (notO (truD ((callO F_law_row_good (fun ρ => consO (valO ((bltO tupD (fun ρ => consO (rdA ρ 3) (some []))) ρ)) (consO (rdA ρ 6) (some [])))) ρ))) (seqR (retO (some (.bl false))) (fun ρ => .next ρ)) (.next ρ)) (fun ρ => seqR (setR 7 ((bin2 addD (fun ρ => lstO (shortO ((consO (valO (rdV ρ 6)) (some [])).bind vals))) (fun ρ => lstO ((compF 1 [6] (fun ρ => ((consO (valO ((bin2 modD (fun ρ => rdP ρ 2) (fun _ => some (.int (4)))) ρ)) (some [])).bind vals).bind rng1) (bName 0) (fun _ => some true) C_law_0) ρ))) ρ) ρ) (fun ρ => seqR (setR 8 (lstO (shortO ((consO (valO ((bltO lenD (fun ρ => consO (rdA ρ 7) (some []))) ρ)) (consO (valO ((bltO sumD (fun ρ => consO (rdA ρ 7) (some []))) ρ)) (consO (valO ((bltO min1D (fun ρ => consO (rdA ρ 7) (some []))) ρ)) (consO (valO ((bltO max1D (fun ρ => consO (rdA ρ 7) (some []))) ρ)) (some []))))).bind vals))) ρ) (fun ρ => seqR (iteR (asB ((bin2 neO (callO F_show_cell (fun ρ => consO (valO ((bltO tupD (fun ρ => consO (rdA ρ 8) (some []))) ρ)) (some []))) (mtO joinD (fun _ => some (.str " ")) (fun ρ => consO (valO (lstO ((compF 1 [] (fun ρ => (rdQ ρ 8).bind seqItems) (bName 0) (fun _ => some true) C_law_1) ρ))) (some [])))) ρ)) (seqR (retO (some (.bl false))) (fun ρ => .next ρ)) (.next ρ)) (fun ρ => .next ρ))))))))))
noncomputable def g_law : VE → Res := (fun ρ => seqR ((forO (fun ρ => ((consO (valO ((bltO max2D (fun ρ => consO (valO (some (.int (1)))) (consO (valO ((bltO lenD (fun ρ => consO (valO ((sl3 (fun ρ => rdP ρ 0) (fun _ => some none) (fun ρ => asI (some (.int (20)))) slD) ρ)) (some []))) ρ)) (some [])))) ρ)) (some [])).bind vals).bind rng1) (bName 1) L_law_1) ρ) (fun ρ => seqR (retO (some (.bl true))) (fun ρ => .next ρ)))
noncomputable def F_law : List Sl → Option Rv := fnP 1 9 g_law
theorem okD_aD (n : Nat) (a : At) : okD n (aD a) = true := by cases a <;> cases n <;> rfl
theorem cell_at_eq (s : Sl) (ns : List Int) (hs : s = .val (.lst (ns.map D.int)) ∨ s = .lent (ns.map D.int)) (k : Int) (h0 : 0 ≤ k) : F_law_cell_at [s, .val (.int k)] = some (.val (.int (ns.getD k.toNat 0))) := by
  by_cases h : k < ns.length
  · have hk : k.toNat < ns.length := by omega
    rcases hs with rfl | rfl <;> simp [F_law_cell_at, fnP, g_law_cell_at, h, atI, ixN, h0, hk]
  · have hk : ns.length ≤ k.toNat := by omega
    rcases hs with rfl | rfl <;> simp [F_law_cell_at, fnP, g_law_cell_at, h, hk]
def letters : Str := "abcdefghijklmnopqrstuvwxyz"
def figures : Str := "0123456789"
def signs : Str := "abcdefghijklmnopqrstuvwxyz0123456789"
theorem signs_len : signs.length = 36 := by decide +kernel
theorem signs_eq : signs.cps.toList = letters.cps.toList ++ figures.cps.toList := by decide +kernel
def okc (c : Nat) : Bool := decide (c ∈ letters.cps.toList) || decide (c ∈ figures.cps.toList)
def wordL : List Nat → Bool
  | [] => false
  | c :: r => decide (c ∈ letters.cps.toList) && (c :: r).all okc && decide ((c :: r).length ≤ 12)
def wordD : D → Bool
  | .str z => wordL z.cps.toList
  | _ => false
theorem okc_signs (c : Nat) : okc c = decide (c ∈ signs.cps.toList) := by
  unfold okc
  rw [signs_eq, Bool.eq_iff_iff]
  simp [List.mem_append]
def Sm : D → Prop
  | .str z => z.length ≤ 100
  | .ty _ => False
  | .lst _ true => False
  | _ => True
theorem elt_eq (c : Nat) : C_is_word_0 [.val (.str ⟨#[c]⟩)] = some (.bl (okc c)) := by
  simp only [C_is_word_0, bin2, rdP, List.getElem?_cons_zero, Option.bind, inD_one, asB, orB, blO, Option.map]
  cases h : decide (c ∈ letters.cps.toList) <;> simp [okc, letters, figures] at h ⊢ <;> simp [h]
theorem comp_eq (L : List Nat) : compL (bName 0) (fun _ => some true) C_is_word_0 [.no] (L.map fun c => D.str ⟨#[c]⟩) = some ((L.map okc).map D.bl) := by
  rw [compL_map (fun c => D.str ⟨#[c]⟩) (fun c => D.bl (okc c)) L fun c _ => ⟨[.val (.str ⟨#[c]⟩)], rfl, elt_eq c⟩]
  simp
theorem is_word_eq (d : D) (h : Sm d) : F_is_word [.val d] = some (.val (.bl (wordD d))) := by
  cases d with
  | str z =>
    obtain ⟨⟨L⟩⟩ := z
    have hz : L.length ≤ 100 := h
    have hz' : L.length ≤ sizeLine := Nat.le_trans hz (by decide)
    have hc := comp_eq L
    cases L with
    | nil => simp [F_is_word, fnP, g_is_word, wordD, wordL, Str.length]
    | cons c r =>
      simp only [List.length_cons] at hz hz'
      have e1 : ¬ ((r.length : Int) + 1 < 1) := by omega
      by_cases h12 : r.length + 1 ≤ 12
      · have e2 : ¬ ((12 : Int) < (r.length : Int) + 1) := by omega
        have e3 : r.length ≤ 11 := by omega
        by_cases hl : c ∈ (Str.ofString "abcdefghijklmnopqrstuvwxyz").cps
        · simp [F_is_word, fnP, g_is_word, wordD, wordL, Str.length, hz', e1, e2, -inD, inD_one, atI, ixN, hc, -List.map_cons, -List.map_map, hl, e3, letters]
        · simp [F_is_word, fnP, g_is_word, wordD, wordL, Str.length, hz', e1, e2, -inD, inD_one, atI, ixN, hl, e3, letters]
      · have e2 : (12 : Int) < (r.length : Int) + 1 := by omega
        have e3 : ¬ r.length ≤ 11 := by omega
        simp [F_is_word, fnP, g_is_word, wordD, wordL, Str.length, hz', e1, e2, e3]
  | ty n => exact h.elim
  | lst xs b => cases b with
    | true => exact h.elim
    | false => simp [F_is_word, fnP, g_is_word, wordD]
  | _ => simp [F_is_word, fnP, g_is_word, wordD]
def strm (x : Int) (k : Nat) : Nat → List Int
  | 0 => []
  | n + 1 => ((x * 48271 + 2 * (k : Int) + 11) % 2147483647 / 64) :: strm ((x * 48271 + 2 * (k : Int) + 11) % 2147483647) (k + 1) n
theorem strm_len : ∀ (n k : Nat) (x : Int), (strm x k n).length = n
  | 0, _, _ => rfl
  | n + 1, k, x => by simp [strm, strm_len n]
theorem strm_pos : ∀ (n k : Nat) (x : Int), ∀ y ∈ strm x k n, 0 ≤ y ∧ y < 33554432
  | 0, _, _, y, h => by cases h
  | n + 1, k, x, y, h => by
    simp only [strm, List.mem_cons] at h
    rcases h with rfl | h
    · omega
    · exact strm_pos n _ _ y h
theorem strm_run (s0 s1 : Sl) : ∀ (n k : Nat) (x : Int) (acc : List Int) (s4 : Sl), acc.length + n < 100000 → ∃ x' s4', forR (bName 4) L_law_stream_0 ((List.range' k n).map fun (k : Nat) => D.int (k : Int)) [s0, s1, .val (.int x), .own (acc.map D.int), s4] = .next [s0, s1, .val (.int x'), .own ((acc ++ strm x k n).map D.int), s4']
  | 0, k, x, acc, s4, _ => ⟨x, s4, by simp [forR, strm]⟩
  | n + 1, k, x, acc, s4, h => by
    obtain ⟨x', s4', e⟩ := strm_run s0 s1 n (k + 1) ((x * 48271 + 2 * (k : Int) + 11) % 2147483647) (acc ++ [(x * 48271 + 2 * (k : Int) + 11) % 2147483647 / 64]) (.val (.int (k : Int))) (by simp; omega)
    have hz : acc.length < sizeLine := Nat.lt_of_lt_of_le (show acc.length < 100000 by omega) (by decide)
    have hm : CMul x 48271 := by right; decide
    have hm2 : CMul 2 (k : Int) := by left; decide
    have hd : ∀ y : Int, CDiv y 64 := fun y => by constructor <;> decide
    refine ⟨x', s4', ?_⟩
    rw [List.range'_succ, List.map_cons]
    simp only [forR, bName, List.set_cons_succ, List.set_cons_zero]
    rw [show L_law_stream_0 [s0, s1, .val (.int x), .own (acc.map D.int), .val (.int (k : Int))] = .next [s0, s1, .val (.int ((x * 48271 + 2 * (k : Int) + 11) % 2147483647)), .own ((acc ++ [(x * 48271 + 2 * (k : Int) + 11) % 2147483647 / 64]).map D.int), .val (.int (k : Int))] by
      simp [L_law_stream_0, hz, hm, hm2, hd]]
    simp only [strm]
    rw [show acc ++ ((x * 48271 + 2 * (k : Int) + 11) % 2147483647 / 64) :: strm ((x * 48271 + 2 * (k : Int) + 11) % 2147483647) (k + 1) n = acc ++ [(x * 48271 + 2 * (k : Int) + 11) % 2147483647 / 64] ++ strm ((x * 48271 + 2 * (k : Int) + 11) % 2147483647) (k + 1) n by simp]
    exact e
theorem stream_eq (c p : Int) : ∃ ws : List Int, F_law_stream [.val (.int c), .val (.int p)] = some (.val (.lst (ws.map D.int))) ∧ ws.length = 24 ∧ ∀ y ∈ ws, 0 ≤ y ∧ y < 33554432 := by
  have hr : rng1 [.int 25] = some ((List.range' 0 25).map fun (k : Nat) => D.int (k : Int)) := by
    have := rng1_nat 25 (by omega)
    rw [List.range_eq_range'] at this
    exact this
  obtain ⟨x', s4', e⟩ := strm_run (.val (.int c)) (.val (.int p)) 25 0 ((c + 7919 * p) % 2147483629) [] .no (by simp)
  have hl := strm_len 25 0 ((c + 7919 * p) % 2147483629)
  have hps := strm_pos 25 0 ((c + 7919 * p) % 2147483629)
  simp only [List.nil_append, List.map_nil] at e
  generalize strm ((c + 7919 * p) % 2147483629) 0 25 = W at *
  have hc : cutD (W.map D.int) (some 1) none = (W.drop 1).map D.int := by rw [cutD_map, cut_from _ _ (by omega)]; rfl
  have m1 : CMul 7919 p := by left; decide
  generalize hR : ((List.range' 0 25).map fun (k : Nat) => D.int (k : Int)) = R at *
  refine ⟨W.drop 1, ?_, by simp [hl], fun y hy => hps y (List.mem_of_mem_drop hy)⟩
  simp [F_law_stream, fnP, g_law_stream, S_law_stream_0, P_law_stream_0, S_law_stream_1, P_law_stream_1, S_law_stream_2, P_law_stream_2, S_law_stream_3, P_law_stream_3, hr, m1, e, hc]
theorem at_of {xs : List Int} {i : Int} (h0 : 0 ≤ i) (h1 : i < xs.length) : atI (xs.map D.int) i = some (.int (xs.getD i.toNat 0)) := by
  rw [show i = ((i.toNat : Nat) : Int) by omega]
  have h : i.toNat < xs.length := by omega
  exact atI_nat (by rw [List.getElem?_map, Int.toNat_natCast, List.getElem?_eq_getElem h]; simp [List.getD, h])
theorem sl_eq (x : Str) (l u : Option Int) : Txt.slice x l u = StrLaws.sliceText x l u := rfl
theorem sl_from (x : Str) (j : Nat) (h : j ≤ x.cps.toList.length) : (Txt.slice x (some (j : Int)) none).cps.toList = x.cps.toList.drop j := by
  rw [sl_eq, StrLaws.sliceText_from ⟨by omega, by omega⟩]
  simp only [List.toList_toArray]
  rw [List.take_of_length_le]
  · simp
  · simp only [List.length_drop]; omega
theorem app_cps (x y : Str) : (x ++ y).cps.toList = x.cps.toList ++ y.cps.toList := by
  show (x.cps ++ y.cps).toList = _
  simp
theorem one_cps (c : Nat) : (⟨#[c]⟩ : Str).cps.toList = [c] := rfl
theorem len_cps (x : Str) : x.length = x.cps.toList.length := by simp [Str.length]
theorem str_ext {x y : Str} (h : x.cps.toList = y.cps.toList) : x = y := by
  obtain ⟨⟨a⟩⟩ := x
  obtain ⟨⟨b⟩⟩ := y
  simp at h
  rw [h]
theorem letters_len : letters.cps.toList.length = 26 := by decide +kernel
def GW (W : List Nat) : Prop := (∃ c r, W = c :: r ∧ c ∈ letters.cps.toList) ∧ W.all okc = true
theorem GW.word {W : List Nat} (h : GW W) (hl : W.length ≤ 12) : wordL W = true := by
  obtain ⟨⟨c, r, rfl, hc⟩, ha⟩ := h
  simp only [wordL, hc, decide_true, Bool.true_and, ha, hl]
theorem sgn (i : Int) (k : Int) (h0 : 0 < k) (h1 : k ≤ 36) : ∃ c, ixD (.str "abcdefghijklmnopqrstuvwxyz0123456789") (.int (i % k)) = some (.str ⟨#[c]⟩) ∧ okc c = true := by
  have hl := signs_len
  obtain ⟨c, h, hm⟩ := ixD_str (z := signs) (i := i % k) (by omega) (Int.emod_nonneg _ (by omega)) (by have := Int.emod_lt_of_pos i h0; omega)
  exact ⟨c, h, by rw [okc_signs]; simpa using hm⟩
theorem sgn26 (i : Int) : ∃ c, ixD (.str "abcdefghijklmnopqrstuvwxyz0123456789") (.int (i % 26)) = some (.str ⟨#[c]⟩) ∧ c ∈ letters.cps.toList := by
  obtain ⟨j, hj, hjl⟩ : ∃ j : Nat, i % 26 = (j : Int) ∧ j < 26 := ⟨(i % 26).toNat, by omega, by omega⟩
  have hl := letters_len
  have hz : signs.length ≤ sizeLine := by rw [signs_len]; decide
  have e : atI signs.cps.toList (j : Int) = some (letters.cps.toList[j]'(by omega)) := atI_nat (by rw [signs_eq, List.getElem?_append_left (by omega), List.getElem?_eq_getElem (by omega)])
  refine ⟨letters.cps.toList[j]'(by omega), ?_, List.getElem_mem _⟩
  rw [hj]
  show (if signs.length ≤ sizeLine then (atI signs.cps.toList (j : Int)).map (fun c => D.str ⟨#[c]⟩) else none) = _
  rw [if_pos hz, e]; rfl
abbrev SG : Sl := .val (.str "abcdefghijklmnopqrstuvwxyz0123456789")
theorem word_run (c : Int) (s1 : Sl) : ∀ (ks : List Nat) (z : Str) (s4 : Sl), (∀ k ∈ ks, k < 1000) → z.length + ks.length ≤ 1000 → ∃ z' s4' ext, forR (bName 4) L_law_word_0 (ks.map fun (k : Nat) => D.int (k : Int)) [.val (.int c), s1, SG, .val (.str z), s4] = .next [.val (.int c), s1, SG, .val (.str z'), s4'] ∧ z'.cps.toList = z.cps.toList ++ ext ∧ ext.length = ks.length ∧ ext.all okc = true
  | [], z, s4, _, _ => ⟨z, s4, [], rfl, by simp, rfl, rfl⟩
  | k :: ks, z, s4, hk, h => by
    simp only [List.length_cons] at h
    have hk1 := hk k List.mem_cons_self
    obtain ⟨x, hx, hxo⟩ := sgn (c / ((k : Int) + 3)) 36 (by decide) (by decide)
    have h1 : (⟨#[x]⟩ : Str).length = 1 := by simp [Str.length]
    have ha := addD_str z ⟨#[x]⟩ (by rw [h1]; omega)
    have hl : (z ++ ⟨#[x]⟩).length = z.length + 1 := by rw [len_cps, app_cps, len_cps]; simp
    obtain ⟨z', s4', ext, e, e1, e2, e3⟩ := word_run c s1 ks (z ++ ⟨#[x]⟩) (.val (.int (k : Int))) (fun j hj => hk j (List.mem_cons_of_mem _ hj)) (by rw [hl]; omega)
    have hd : CDiv c ((k : Int) + 3) := ⟨by omega, by omega⟩
    refine ⟨z', s4', x :: ext, ?_, by rw [e1, app_cps]; simp, by simp [e2], by simp [hxo, e3]⟩
    have a1 : addD (.int (k : Int)) (.int 3) = some (.int ((k : Int) + 3)) := rfl
    simp [forR, L_law_word_0, -ixD, -addD, a1, hd, hx, ha, e]
theorem word_eq (c : Int) (m : Nat) (hm : m ≤ 100) : ∃ z, F_law_word [.val (.int c), .val (.int (m : Int))] = some (.val (.str z)) ∧ z.cps.toList.length = m + 1 ∧ GW z.cps.toList := by
  obtain ⟨x, hx, hxl⟩ := sgn26 c
  have hr := rng1_nat m (by omega)
  obtain ⟨z', s4', ext, e, e1, e2, e3⟩ := word_run c (.val (.int (m : Int))) (List.range m) ⟨#[x]⟩ .no (fun k hk => by have := List.mem_range.mp hk; omega) (by simp [Str.length]; omega)
  have hxo : okc x = true := by simp [okc, hxl]
  refine ⟨z', ?_, by rw [e1, one_cps]; simp [e2], ⟨x, ext, by rw [e1]; rfl, hxl⟩, by rw [e1, one_cps]; simp [hxo, e3]⟩
  simp [F_law_word, fnP, g_law_word, S_law_word_0, P_law_word_0, S_law_word_1, P_law_word_1, S_law_word_2, P_law_word_2, S_law_word_3, P_law_word_3, -ixD, hx, hr, e]
def tA : At → Str
  | .non => "*"
  | .int i => iT i
  | .str z => z
def okT : At → Prop
  | .non => True
  | .int i => i.natAbs < 10 ^ 60
  | .str z => GW z.cps.toList ∧ z.cps.toList.length ≤ 12
theorem fn_ret {np n : Nat} {g : VE → Res} {ss : List Sl} {r : Rv} (h : ss.length = np) (e : g (ss ++ List.replicate (n - np) .no) = .ret r) : fnP np n g ss = some r := by
  unfold fnP
  rw [if_pos h, e]
theorem int_cases (i : Int) : (∃ m : Nat, i = (m : Int)) ∨ ∃ m : Nat, 0 < m ∧ i = -(m : Int) := by
  by_cases h : 0 ≤ i
  · exact .inl ⟨i.toNat, by omega⟩
  · exact .inr ⟨i.natAbs, by omega, by omega⟩
theorem iT_signs (i : Int) : ∀ c ∈ (iT i).cps.toList, c = 45 ∨ (48 ≤ c ∧ c ≤ 57) := by
  rcases int_cases i with ⟨m, rfl⟩ | ⟨m, hm, rfl⟩
  · rw [iT_pos]; exact fun c hc => .inr (dg_dig m c hc)
  · rw [iT_neg hm]
    intro c hc
    rcases List.mem_cons.mp hc with rfl | hc
    · exact .inl rfl
    · exact .inr (dg_dig m c hc)
theorem okc_range : ∀ c ∈ letters.cps.toList ++ figures.cps.toList, (48 ≤ c ∧ c ≤ 57) ∨ (97 ≤ c ∧ c ≤ 122) := by decide +kernel
theorem let_range : ∀ c ∈ letters.cps.toList, 97 ≤ c ∧ c ≤ 122 := by decide +kernel
theorem okc_rng {c : Nat} (h : okc c = true) : (48 ≤ c ∧ c ≤ 57) ∨ (97 ≤ c ∧ c ≤ 122) := by
  refine okc_range c ?_
  unfold okc at h
  rw [Bool.or_eq_true, decide_eq_true_eq, decide_eq_true_eq] at h
  exact List.mem_append.mpr h
theorem tA_signs (a : At) (h : okT a) : ∀ c ∈ (tA a).cps.toList, c = 42 ∨ c = 45 ∨ (48 ≤ c ∧ c ≤ 57) ∨ (97 ≤ c ∧ c ≤ 122) := by
  cases a with
  | non =>
    intro c hc
    have : (tA .non).cps.toList = [42] := by decide +kernel
    rw [this] at hc
    exact .inl (by simpa using hc)
  | int i =>
    intro c hc
    rcases iT_signs i c hc with h | h
    · exact .inr (.inl h)
    · exact .inr (.inr (.inl h))
  | str z =>
    intro c hc
    have := okc_rng (List.all_eq_true.mp h.1.2 c hc)
    exact .inr (.inr this)
theorem iT_len {i : Int} (h : i.natAbs < 10 ^ 60) : (iT i).cps.toList.length ≤ 61 := by
  rcases int_cases i with ⟨m, rfl⟩ | ⟨m, hm, rfl⟩
  · rw [iT_pos]
    have := dg_len 60 m (by omega) (by simpa using h)
    omega
  · rw [iT_neg hm, List.length_cons]
    have := dg_len 60 m (by omega) (by simpa using h)
    omega
theorem tA_len (a : At) (h : okT a) : (tA a).length ≤ 61 := by
  rw [len_cps]
  cases a with
  | non => decide +kernel
  | int i => exact iT_len h
  | str z => have := h.2; show z.cps.toList.length ≤ 61; omega
theorem fig_ix : ∀ d ∈ List.range 10, ixD (.str "0123456789") (.int (d : Int)) = some (.str ⟨#[48 + d]⟩) := by
  intro d hd
  have hd := List.mem_range.mp hd
  have hl : figures.cps.toList.length = 10 := by decide +kernel
  have hz : figures.length ≤ sizeLine := by rw [len_cps, hl]; decide
  have hg : ∀ d ∈ List.range 10, figures.cps.toList[d]? = some (48 + d) := by decide +kernel
  have e : atI figures.cps.toList (d : Int) = some (48 + d) := atI_nat (hg d (List.mem_range.mpr hd))
  show (if figures.length ≤ sizeLine then (atI figures.cps.toList (d : Int)).map (fun c => D.str ⟨#[c]⟩) else none) = _
  rw [if_pos hz, e]; rfl
theorem one_app (c : Nat) (f : Str) : ((⟨#[c]⟩ : Str) ++ f).cps.toList = c :: f.cps.toList := by rw [app_cps, one_cps]; rfl
theorem str_nil (f : Str) : (f = Str.ofString "") ↔ f.cps.toList = [] := by
  have e : (Str.ofString "").cps.toList = [] := by decide +kernel
  constructor
  · rintro rfl; exact e
  · intro h; exact str_ext (by rw [h, e])
theorem written_run (s0 : Sl) : ∀ (fuel m : Nat) (f : Str), f.cps.toList.length + fuel < 1000 → (if m = 0 ∧ f.cps.toList ≠ [] then 0 else (dg m).length) < fuel →
    ∃ r : Str, whR W_law_written_0 L_law_written_0 fuel [s0, .val (.str f), .val (.int (m : Int))] = .next [s0, .val (.str r), .val (.int 0)] ∧ r.cps.toList = (if m = 0 ∧ f.cps.toList ≠ [] then [] else dg m) ++ f.cps.toList
  | 0, _, _, _, h => by omega
  | fuel + 1, m, f, hl, hf => by
    have g : gtD (.int (m : Int)) (.int 0) = some (.bl (decide (0 < m))) := by
      show some (D.bl (decide (0 < (m : Int)))) = _
      by_cases h : 0 < m
      · rw [decide_eq_true h, decide_eq_true (by omega)]
      · rw [decide_eq_false h, decide_eq_false (by omega)]
    have q : eqO (.str f) (.str "") = some (.bl (decide (f.cps.toList = []))) := by
      simp only [eqO, deep_eq, okD, eqD_ss, Bool.and_self, if_true]
      by_cases h : f.cps.toList = []
      · rw [decide_eq_true h, decide_eq_true ((str_nil f).mpr h)]
      · rw [decide_eq_false h, decide_eq_false (fun z => h ((str_nil f).mp z))]
    by_cases hs : m = 0 ∧ f.cps.toList ≠ []
    · refine ⟨f, ?_, by rw [if_pos hs]; rfl⟩
      obtain ⟨rfl, h2⟩ := hs
      rw [decide_eq_false h2] at q
      have ht : W_law_written_0 [s0, .val (.str f), .val (.int ((0 : Nat) : Int))] = some false := by
        simp only [W_law_written_0, orB, asB, bin2, rdP, List.getElem?_cons_succ, List.getElem?_cons_zero, Option.bind, g, q]
        rfl
      simp only [whR, ht]
      rfl
    · have ht : W_law_written_0 [s0, .val (.str f), .val (.int (m : Int))] = some true := by
        simp only [W_law_written_0, orB, asB, bin2, rdP, List.getElem?_cons_succ, List.getElem?_cons_zero, Option.bind, g, q]
        by_cases h0 : 0 < m
        · rw [decide_eq_true h0]
        · have hm : m = 0 := by omega
          have : f.cps.toList = [] := Classical.byContradiction fun z => hs ⟨hm, z⟩
          rw [decide_eq_false h0, decide_eq_true this]
      have hmd : modD (.int (m : Int)) (.int 10) = some (.int ((m % 10 : Nat) : Int)) := by
        show some (D.int ((m : Int) % 10)) = _
        congr 2
      have hix := fig_ix (m % 10) (List.mem_range.mpr (by omega))
      have had := addD_str ⟨#[48 + m % 10]⟩ f (by rw [len_cps, len_cps, one_cps, List.length_singleton]; omega)
      have hdv : fdivD (.int (m : Int)) (.int 10) = some (.int ((m / 10 : Nat) : Int)) := by
        show (if CDiv (m : Int) 10 then some (D.int ((m : Int) / 10)) else none) = _
        rw [if_pos (by constructor <;> decide)]
        congr 2
      have hb : L_law_written_0 [s0, .val (.str f), .val (.int (m : Int))] = .next [s0, .val (.str (⟨#[48 + m % 10]⟩ ++ f)), .val (.int ((m / 10 : Nat) : Int))] := by
        simp only [L_law_written_0, seqR, setR, bin2, rdP, List.getElem?_cons_succ, List.getElem?_cons_zero, List.set_cons_succ, List.set_cons_zero, Option.bind, hmd, hix, had, hdv]
      rw [if_neg hs] at hf
      have hlen' : (if m / 10 = 0 ∧ ((⟨#[48 + m % 10]⟩ : Str) ++ f).cps.toList ≠ [] then 0 else (dg (m / 10)).length) < fuel := by
        have h1 : 0 < (dg m).length := List.length_pos_iff.mpr (dg_ne m)
        by_cases h : m < 10
        · rw [if_pos ⟨by omega, by rw [one_app]; simp⟩]; omega
        · rw [if_neg (fun z => by have := z.1; omega)]
          rw [dg_ge (by omega), List.length_append, List.length_singleton] at hf
          omega
      obtain ⟨r, e1, e2⟩ := written_run s0 fuel (m / 10) (⟨#[48 + m % 10]⟩ ++ f) (by rw [one_app, List.length_cons]; omega) hlen'
      refine ⟨r, by simp only [whR, ht, hb]; exact e1, ?_⟩
      rw [e2, one_app, if_neg hs]
      by_cases h : m < 10
      · rw [if_pos ⟨by omega, by simp⟩, dg_lt h, show m % 10 = m by omega]; rfl
      · rw [if_neg (fun z => by have := z.1; omega), dg_ge (m := m) (by omega), List.append_assoc]; rfl
theorem law_written_eq (a : At) (h : okT a) : F_law_written [.val (aD a)] = some (.val (.str (tA a))) := by
  cases a with
  | non => simp [F_law_written, fnP, g_law_written, S_law_written_0, P_law_written_0, aD, tA]
  | str z => simp [F_law_written, fnP, g_law_written, S_law_written_0, P_law_written_0, S_law_written_1, P_law_written_1, aD, tA]
  | int i =>
    have hn : isN (.int i) = false := rfl
    have his : isD [.int i, .ty "int"] = some (.bl true) := by simp
    have hab : absD [.int i] = some (.int ((i.natAbs : Nat) : Int)) := by
      show some (D.int (if i < 0 then -i else i)) = _
      congr 2
      split <;> omega
    have hd := dg_len 60 i.natAbs (by omega) h
    have enil : (Str.ofString "").cps.toList = [] := by decide +kernel
    obtain ⟨r, e1, e2⟩ := written_run (.val (.int i)) 100 i.natAbs (Str.ofString "") (by rw [enil]; simp) (by rw [if_neg (fun z => z.2 enil)]; omega)
    rw [if_neg (fun z => z.2 enil), enil, List.append_nil] at e2
    refine fn_ret rfl ?_
    show S_law_written_0 [.val (.int i), .no, .no] = _
    have ge : geD (.int i) (.int 0) = some (.bl (decide (0 ≤ i))) := rfl
    rcases int_cases i with ⟨m, hi⟩ | ⟨m, hm, hi⟩
    · have er : r = iT i := str_ext (by rw [e2, hi, iT_pos]; simp)
      rw [decide_eq_true (by omega)] at ge
      simp only [S_law_written_0, P_law_written_0, S_law_written_1, P_law_written_1, S_law_written_2, P_law_written_2, S_law_written_3, P_law_written_3, S_law_written_4, P_law_written_4, S_law_written_5, P_law_written_5, seqR, iteR, setR, retO, iteO, isNO, notO, asB, truD, bin2, rdP, rdV, rdA, bltO, consO, valO, pks, pk, List.getElem?_cons_succ, List.getElem?_cons_zero, List.set_cons_succ, List.set_cons_zero, Option.bind, Option.map, hn, his, Bool.not_true, hab, e1, ge, er, tA, aD]
    · have hlen : r.length ≤ 60 := by rw [len_cps, e2]; exact hd
      have had := addD_str "-" r (by have : (Str.ofString "-").length = 1 := by decide +kernel
                                     rw [this]; omega)
      have er : Str.ofString "-" ++ r = iT i := str_ext (by
        rw [app_cps, e2, hi, iT_neg hm]
        have : (Str.ofString "-").cps.toList = [45] := by decide +kernel
        rw [this]; simp)
      rw [er] at had
      rw [decide_eq_false (by omega)] at ge
      simp only [S_law_written_0, P_law_written_0, S_law_written_1, P_law_written_1, S_law_written_2, P_law_written_2, S_law_written_3, P_law_written_3, S_law_written_4, P_law_written_4, S_law_written_5, P_law_written_5, seqR, iteR, setR, retO, iteO, isNO, notO, asB, truD, bin2, rdP, rdV, rdA, bltO, consO, valO, pks, pk, List.getElem?_cons_succ, List.getElem?_cons_zero, List.set_cons_succ, List.set_cons_zero, Option.bind, Option.map, hn, his, Bool.not_true, hab, e1, ge, had, tA, aD]
theorem log_ok {n : Nat} (h : n < 10 ^ 60) : n.log2 < 1920 := by
  by_cases h0 : n = 0
  · subst h0; decide
  · exact Nat.lt_of_lt_of_le ((Nat.log2_lt h0).mpr (Nat.lt_of_lt_of_le h (show 10 ^ 60 ≤ 2 ^ 200 by decide))) (by decide)
theorem show_value_eq (a : At) (h : okT a) : F_show_value [.val (aD a)] = some (.val (.str (tA a))) := by
  cases a with
  | non => simp [F_show_value, fnP, g_show_value, aD, tA]
  | str z => simp [F_show_value, fnP, g_show_value, aD, tA]
  | int i => simp [F_show_value, fnP, g_show_value, aD, tA, log_ok h, iT]
theorem sl47 : (Str.ofString "/") = ⟨#[47]⟩ := by decide +kernel
theorem join_eq (sep : Str) (as : List At) (hs : sep.length ≤ 10) (h4 : as.length ≤ 100) (ha : ∀ a ∈ as, okT a) : joinD sep [.lst ((as.map tA).map D.str)] = some (.str (Str.join sep (as.map tA))) := by
  simp only [joinD, asSs_eq, Option.bind]
  have hsum : ((as.map tA).map (·.length)).sum ≤ as.length * 61 := by
    clear h4
    induction as with
    | nil => simp
    | cons a as ih =>
      have := ih fun x hx => ha x (List.mem_cons_of_mem _ hx)
      have h1 := tA_len a (ha a List.mem_cons_self)
      simp only [List.map_cons, List.sum_cons, List.length_cons]
      omega
  have hz : ((as.map tA).map (·.length)).sum + (as.map tA).length * sep.length ≤ 16777216 := by
    rw [List.length_map]
    have : as.length * sep.length ≤ 100 * 10 := Nat.mul_le_mul h4 hs
    omega
  rw [if_pos hz]
  congr 2
  exact StrLaws.glued_eq_join sep _
theorem starts_one (z : Str) (c : Nat) : Txt.startswith z ⟨#[c]⟩ = decide (z.cps.toList[0]? = some c) := by
  unfold Txt.startswith
  have h := StrLaws.subAt_one z c 0
  rw [Bool.eq_iff_iff, Bool.and_eq_true, decide_eq_true_eq, decide_eq_true_eq]
  exact h
theorem dash : (Str.ofString "-") = ⟨#[45]⟩ := by decide +kernel
theorem nought : (Str.ofString "0") = ⟨#[48]⟩ := by decide +kernel
theorem figs_comp (L : List Nat) (h : ∀ c ∈ L, 48 ≤ c ∧ c ≤ 57) : compL (bName 0) (fun _ => some true) C_is_written_whole_0 [.no] (L.map fun c => D.str ⟨#[c]⟩) = some ((L.map fun _ => true).map D.bl) := by
  have hf : ∀ c, 48 ≤ c → c ≤ 57 → c ∈ (Str.ofString "0123456789").cps.toList := by
    have : ∀ d ∈ List.range 10, 48 + d ∈ (Str.ofString "0123456789").cps.toList := by decide +kernel
    intro c h1 h2
    have := this (c - 48) (List.mem_range.mpr (by omega))
    rwa [show 48 + (c - 48) = c by omega] at this
  rw [compL_map (fun c => D.str ⟨#[c]⟩) (fun _ => D.bl true) L fun c hc => ⟨[.val (.str ⟨#[c]⟩)], rfl, by
    have hi := inD_one false c "0123456789"
    obtain ⟨h1, h2⟩ := h c hc
    simp only [Bool.false_eq_true, if_false, decide_eq_true (hf c h1 h2)] at hi
    simp only [C_is_written_whole_0, bin2, rdP, List.getElem?_cons_zero, Option.bind, hi]⟩]
  simp
theorem all_tr (L : List Nat) : allD [.lst ((L.map fun _ => true).map D.bl)] = some (.bl true) := by
  simp only [allD, asBs_eq, Option.map_some]
  congr 2
  rw [List.all_map]
  simp
theorem written_whole_eq (i : Int) (h : i.natAbs < 10 ^ 60) : F_is_written_whole [.val (.str (iT i))] = some (.val (.bl true)) := by
  have hz : (iT i).length ≤ sizeLine := by rw [len_cps]; exact Nat.le_trans (iT_len h) (by decide)
  -- the figures of it
  obtain ⟨f, m, hfig, hf, hmh, h0⟩ : ∃ (f : Str) (m : Nat), iteO (some (Txt.startswith (iT i) "-")) ((if (iT i).length ≤ sizeLine then some (D.str (Txt.slice (iT i) (some 1) none)) else none)) (some (.str (iT i))) = some (.str f) ∧ f.cps.toList = dg m ∧ m < 10 ^ 60 ∧ (m = 0 → iT i = Str.ofString "0") := by
    rcases int_cases i with ⟨m, rfl⟩ | ⟨m, hm, rfl⟩
    · refine ⟨iT (m : Int), m, ?_, iT_pos m, by simpa using h, fun h => ?_⟩
      · have hs : Txt.startswith (iT (m : Int)) "-" = false := by
          have := starts_one (iT (m : Int)) 45
          rw [← dash] at this
          rw [this, iT_pos]
          refine decide_eq_false fun z => ?_
          have := dg_dig m 45 (List.mem_of_getElem? z)
          omega
        rw [hs]; rfl
      · subst h
        exact str_ext (by rw [iT_pos, dg_lt (by omega), nought])
    · refine ⟨Txt.slice (iT (-(m : Int))) (some 1) none, m, ?_, ?_, by simpa using h, fun z => by omega⟩
      · have hs : Txt.startswith (iT (-(m : Int))) "-" = true := by
          have := starts_one (iT (-(m : Int))) 45
          rw [← dash] at this
          rw [this, iT_neg hm]; rfl
        rw [hs, if_pos hz]; rfl
      · have := sl_from (iT (-(m : Int))) 1 (by rw [iT_neg hm]; simp)
        rw [iT_neg hm] at this
        exact this
  have hl1 : f.length ≤ 60 := by rw [len_cps, hf]; exact dg_len 60 m (by omega) hmh
  have hl0 : 1 ≤ f.length := by rw [len_cps, hf]; exact List.length_pos_iff.mpr (dg_ne m)
  have hfz : f.length ≤ sizeLine := Nat.le_trans hl1 (by decide)
  have hlen : lenD [.str f] = some (.int (f.length : Int)) := by simp [hfz]
  have c1 : ltO (.int (f.length : Int)) (.int 1) = some (.bl false) := by
    show some (D.bl (decide ((f.length : Int) < 1))) = _
    rw [decide_eq_false (by omega)]
  have c2 : gtD (.int (f.length : Int)) (.int 60) = some (.bl false) := by
    show some (D.bl (decide ((60 : Int) < (f.length : Int)))) = _
    rw [decide_eq_false (by omega)]
  have st0 : startswithD f [.str "0"] = some (.bl (decide (m = 0))) := by
    show some (D.bl (Txt.startswith f "0")) = _
    have := starts_one f 48
    rw [← nought] at this
    rw [this, hf]
    by_cases hm : m = 0
    · rw [decide_eq_true hm, hm, dg_lt (by omega)]; rfl
    · obtain ⟨c, r, e, hc⟩ := dg_head (m := m) (by omega)
      rw [decide_eq_false hm, e]
      congr 2
      exact decide_eq_false fun z => hc (by simpa using z)
  have ne0 : m = 0 → neO (.str (iT i)) (.str "0") = some (.bl false) := fun hm => by
    rw [h0 hm]
    simp only [neO, deep_eq, okD, eqD_ss, Bool.and_self, if_true]
    rfl
  have hc := figs_comp f.cps.toList (by rw [hf]; exact dg_dig m)
  have ha := all_tr f.cps.toList
  have hsq : seqItems (.str f) = some (f.cps.toList.map fun c => D.str ⟨#[c]⟩) := rfl
  have q1 : shortO (some (f.cps.toList.map fun c => D.str ⟨#[c]⟩)) = some (f.cps.toList.map fun c => D.str ⟨#[c]⟩) := short_le _ (by rw [List.length_map, ← len_cps]; omega)
  have hst : startswithD (iT i) [.str "-"] = some (.bl (Txt.startswith (iT i) "-")) := rfl
  have hsl : slD (.str (iT i)) (some 1) none = (if (iT i).length ≤ sizeLine then some (D.str (Txt.slice (iT i) (some 1) none)) else none) := rfl
  refine fn_ret rfl ?_
  show S_is_written_whole_0 [.val (.str (iT i)), .no] = _
  have hin : ∀ ρ : VE, compIn 1 [] ρ = [.no] := fun _ => rfl
  have p0 : P_is_written_whole_0 [.val (.str (iT i)), .no] = .next [.val (.str (iT i)), .val (.str f)] := by
    simp only [P_is_written_whole_0, setR, mtO, sl3, asI, truD, rdP, rdV, consO, valO, pks, pk, List.getElem?_cons_zero, List.set_cons_succ, List.set_cons_zero, Option.bind, Option.map, hst, hsl, hfig]
  generalize (f.cps.toList.map fun _ => true).map D.bl = T at *
  generalize (f.cps.toList.map fun c => D.str ⟨#[c]⟩) = LF at *
  by_cases hm : m = 0
  · have ne0 := ne0 hm
    rw [decide_eq_true hm] at st0
    simp only [S_is_written_whole_0, p0, S_is_written_whole_1, P_is_written_whole_1, S_is_written_whole_2, P_is_written_whole_2, S_is_written_whole_3, P_is_written_whole_3, seqR, iteR, retO, orB, andO, asB, truD, mtO, bin2, rdP, rdQ, rdA, bltO, consO, valO, lstO, pks, pk, compF, hin, List.getElem?_cons_succ, List.getElem?_cons_zero, Option.bind, Option.map, hlen, c1, c2, st0, ne0, hsq, q1, hc, ha]
  · rw [decide_eq_false hm] at st0
    simp only [S_is_written_whole_0, p0, S_is_written_whole_1, P_is_written_whole_1, S_is_written_whole_2, P_is_written_whole_2, S_is_written_whole_3, P_is_written_whole_3, seqR, iteR, retO, orB, andO, asB, truD, mtO, bin2, rdP, rdQ, rdA, bltO, consO, valO, lstO, pks, pk, compF, hin, List.getElem?_cons_succ, List.getElem?_cons_zero, Option.bind, Option.map, hlen, c1, c2, st0, hsq, q1, hc, ha]
theorem read_whole_eq (i : Int) (h : i.natAbs < 10 ^ 60) : F_read_whole [.val (.str (iT i))] = some (.val (.int i)) := by
  have hw := written_whole_eq i h
  have hz : (iT i).length ≤ 640 := by rw [len_cps]; exact Nat.le_trans (iT_len h) (by decide)
  have hr := iT_reads i hz
  have hi : isD [.str (iT i), .ty "str"] = some (.bl true) := by simp
  have ht : intT [.str (iT i)] = some (.int i) := by simp only [intT, hz, if_true, hr, Option.map]
  refine fn_ret rfl ?_
  show g_read_whole [.val (.str (iT i))] = _
  simp only [g_read_whole, seqR, iteR, retO, orB, notO, truD, rdA, callO, bltO, consO, valO, pks, pk, List.getElem?_cons_zero, Option.bind, Option.map, hi, hw, rvD_v, ht, Bool.not_true]
theorem iT_ne_star (i : Int) : ¬ iT i = Str.ofString "*" := fun e => by
  have h : (iT i).cps.toList = [42] := by rw [e]; decide +kernel
  have := iT_signs i 42 (by rw [h]; simp)
  omega
theorem iT_no_word (i : Int) (h : i.natAbs < 10 ^ 60) : F_is_word [.val (.str (iT i))] = some (.val (.bl false)) := by
  have hs : Sm (.str (iT i)) := by show (iT i).length ≤ 100; rw [len_cps]; have := iT_len h; omega
  rw [is_word_eq _ hs]
  congr 3
  show wordL (iT i).cps.toList = false
  have hsg := iT_signs i
  cases hc : (iT i).cps.toList with
  | nil => rfl
  | cons c r =>
    have h1 := hsg c (by rw [hc]; exact List.mem_cons_self)
    have : ¬ c ∈ letters.cps.toList := fun z => by have := let_range c z; omega
    simp [wordL, this]
theorem word_is {z : Str} (h : GW z.cps.toList ∧ z.cps.toList.length ≤ 12) : F_is_word [.val (.str z)] = some (.val (.bl true)) := by
  have hs : Sm (.str z) := by show z.length ≤ 100; rw [len_cps]; have := h.2; omega
  rw [is_word_eq _ hs]
  congr 3
  exact h.1.word h.2
theorem read_value_eq (a : At) (h : okT a) (hn : a ≠ .non) : F_read_value [.val (.str (tA a))] = some (.val (aD a)) := by
  cases a with
  | non => exact absurd rfl hn
  | int i =>
    have h1 := iT_no_word i h
    have h2 := read_whole_eq i h
    refine fn_ret rfl ?_
    show g_read_value [.val (.str (iT i))] = _
    simp only [g_read_value, seqR, retO, iteO, truD, rdA, rdV, callO, consO, List.getElem?_cons_zero, Option.bind, Option.map, h1, rvD_v, h2, aD]
  | str z =>
    have h1 := word_is h
    refine fn_ret rfl ?_
    show g_read_value [.val (.str z)] = _
    simp only [g_read_value, seqR, retO, iteO, truD, rdA, rdV, callO, consO, List.getElem?_cons_zero, Option.bind, Option.map, h1, rvD_v, aD]
theorem star_eq (z : Str) : eqO (.str z) (.str "*") = some (.bl (decide (z = Str.ofString "*"))) := by
  simp only [eqO, deep_eq, okD, eqD_ss, Bool.and_self, if_true]
theorem tA_star {a : At} (h : okT a) (hn : a ≠ .non) : ¬ tA a = Str.ofString "*" := by
  cases a with
  | non => exact absurd rfl hn
  | int i => exact iT_ne_star i
  | str z =>
    intro e
    have e : z = Str.ofString "*" := e
    have h1 : z.cps.toList = [42] := by rw [e]; decide +kernel
    obtain ⟨⟨c, r, e2, hc⟩, _⟩ := h.1
    rw [h1] at e2
    injection e2 with e3 _
    subst e3
    have := let_range 42 hc
    omega
theorem read_vw_eq (a : At) (h : okT a) : F_read_value_or_whole [.val (.str (tA a))] = some (.val (aD a)) := by
  have hs := star_eq (tA a)
  refine fn_ret rfl ?_
  show g_read_value_or_whole [.val (.str (tA a))] = _
  by_cases hn : a = .non
  · subst hn
    rw [decide_eq_true (show tA .non = Str.ofString "*" from rfl)] at hs
    simp only [g_read_value_or_whole, seqR, retO, iteO, asB, bin2, rdP, List.getElem?_cons_zero, Option.bind, hs, aD]
  · rw [decide_eq_false (tA_star h hn)] at hs
    have h2 := read_value_eq a h hn
    simp only [g_read_value_or_whole, seqR, retO, iteO, asB, bin2, rdP, rdA, callO, consO, List.getElem?_cons_zero, Option.bind, Option.map, hs, h2, rvD_v]
theorem read_place_eq (m : Nat) (h : m < 10 ^ 60) : F_read_place [.val (.str (iT (m : Int)))] = some (.val (.int (m : Int))) := by
  have h1 := read_whole_eq (m : Int) (by simpa using h)
  have c : ltO (.int (m : Int)) (.int 0) = some (.bl false) := by
    show some (D.bl (decide ((m : Int) < 0))) = _
    rw [decide_eq_false (by omega)]
  refine fn_ret rfl ?_
  show g_read_place [.val (.str (iT (m : Int))), .no] = _
  simp only [g_read_place, seqR, iteR, setR, retO, asB, bin2, rdP, rdV, rdA, callO, consO, List.getElem?_cons_succ, List.getElem?_cons_zero, List.set_cons_succ, List.set_cons_zero, Option.bind, Option.map, h1, rvD_v, c]
theorem few_parts_eq (as : List At) (h0 : as ≠ []) (h4 : as.length ≤ 4) (ha : ∀ a ∈ as, okT a) : F_few_parts_of [.val (.str (Str.join "/" (as.map tA)))] = some (.val (.lst ((as.map tA).map D.str))) := by
  have hsp : Txt.split (Str.join "/" (as.map tA)) "/" = as.map tA := by
    rw [sl47]
    refine split_join (by decide) _ (by simpa using h0) fun z hz => ?_
    obtain ⟨a, ham, rfl⟩ := List.mem_map.mp hz
    intro hc
    have := tA_signs a (ha a ham) 47 hc
    omega
  have hjl : (Str.join "/" (as.map tA)).length ≤ sizeLine := by
    refine Nat.le_trans (StrLaws.join_length_le _ _) ?_
    have hsum : ((as.map tA).map (·.length)).sum ≤ as.length * 61 := by
      clear h4 hsp h0
      induction as with
      | nil => simp
      | cons a as ih =>
        have := ih fun x hx => ha x (List.mem_cons_of_mem _ hx)
        have h1 := tA_len a (ha a List.mem_cons_self)
        simp only [List.map_cons, List.sum_cons, List.length_cons]
        omega
    have h1 : (Str.ofString "/").length = 1 := by decide +kernel
    rw [List.length_map, h1]
    exact Nat.le_trans (show _ ≤ 1000 by omega) (by decide)
  have hl : (Txt.split (Str.join "/" (as.map tA)) "/").length ≤ sizeLine := by
    rw [hsp, List.length_map]; exact Nat.le_trans h4 (by decide)
  have h1 : ((Str.ofString "/").length == 0) = false := by decide +kernel
  have hd : splitD (Str.join "/" (as.map tA)) [.str "/"] = some (.lst ((as.map tA).map D.str)) := by
    simp only [splitD]
    rw [if_pos ⟨h1, hjl, hl⟩, hsp]
  generalize hJ : Str.join "/" (as.map tA) = J at *
  have hi : isD [.str J, .ty "str"] = some (.bl true) := by simp
  have hpo : F_parts_of [.val (.str J), .val (.str "/")] = some (.val (.lst ((as.map tA).map D.str))) := by
    refine fn_ret rfl ?_
    show g_parts_of [.val (.str J), .val (.str "/")] = _
    simp only [g_parts_of, seqR, iteR, retO, notO, truD, mtO, rdP, rdA, bltO, consO, valO, pks, pk, List.getElem?_cons_succ, List.getElem?_cons_zero, Option.bind, Option.map, hi, Bool.not_true, hd]
  have hlen : lenD [.lst ((as.map tA).map D.str)] = some (.int (as.length : Int)) := by simp
  have c : gtD (.int (as.length : Int)) (.int 4) = some (.bl false) := by
    show some (D.bl (decide ((4 : Int) < (as.length : Int)))) = _
    rw [decide_eq_false (by omega)]
  generalize (as.map tA).map D.str = L at *
  refine fn_ret rfl ?_
  show g_few_parts_of [.val (.str J), .no] = _
  simp only [g_few_parts_of, seqR, iteR, setR, retO, asB, bin2, rdP, rdV, rdA, callO, bltO, consO, valO, pks, pk, List.getElem?_cons_succ, List.getElem?_cons_zero, List.set_cons_succ, List.set_cons_zero, Option.bind, Option.map, hpo, rvD_v, hlen, c]
theorem comp_gen {e : VE → Option D} {b : D → VE → Option VE} {ρ : VE} {P : D → Prop} : ∀ (ds : List D), (∀ d ∈ ds, ∃ ρ1 x, b d ρ = some ρ1 ∧ e ρ1 = some x ∧ P x) → ∃ vs, compL b (fun _ => some true) e ρ ds = some vs ∧ vs.length = ds.length ∧ ∀ x ∈ vs, P x
  | [], _ => ⟨[], rfl, rfl, fun _ h => nomatch h⟩
  | d :: ds, h => by
    obtain ⟨ρ1, x, h1, h2, h3⟩ := h d List.mem_cons_self
    obtain ⟨vs, e1, e2, e3⟩ := comp_gen ds fun y hy => h y (List.mem_cons_of_mem _ hy)
    refine ⟨x :: vs, by simp [compL, h1, h2, e1], by simp [e2], fun y hy => ?_⟩
    rcases List.mem_cons.mp hy with rfl | hy
    · exact h3
    · exact e3 y hy
theorem ats_of {P : At → Prop} : ∀ {l : List D}, (∀ d ∈ l, ∃ a, d = aD a ∧ P a) → ∃ m : List At, l = m.map aD ∧ ∀ a ∈ m, P a
  | [], _ => ⟨[], rfl, fun _ h => nomatch h⟩
  | d :: l, h => by
    obtain ⟨a, rfl, pa⟩ := h d List.mem_cons_self
    obtain ⟨m, rfl, pm⟩ := ats_of fun x hx => h x (List.mem_cons_of_mem _ hx)
    refine ⟨a :: m, rfl, fun x hx => ?_⟩
    rcases List.mem_cons.mp hx with rfl | hx
    · exact pa
    · exact pm x hx
theorem modD_pos (x n : Int) (h : 0 < n) : modD (.int x) (.int n) = some (.int (x % n)) := by
  show (if 0 < n then some (D.int (x % n)) else none) = _
  rw [if_pos h]
theorem isN_aD (a : At) : isN (aD a) = decide (a = .non) := by cases a <;> simp [aD, isN]
theorem read_parts {C : VE → Option D} {g : VE → Res} (hg : g = fun ρ => seqR (retO ((bltO tupD (fun ρ => consO (valO (lstO ((compF 1 [] (fun ρ => ((callO F_few_parts_of (fun ρ => consO (rdA ρ 0) (some []))) ρ).bind seqItems) (bName 0) (fun _ => some true) C) ρ))) (some []))) ρ)) (fun ρ => .next ρ))
    (as : List At) (h0 : as ≠ []) (h4 : as.length ≤ 4) (ha : ∀ a ∈ as, okT a) (hC : ∀ a ∈ as, C [.val (.str (tA a))] = some (aD a)) : fnP 1 1 g [.val (.str (Str.join "/" (as.map tA)))] = some (.val (.tup (as.map aD))) := by
  have hf := few_parts_eq as h0 h4 ha
  have hc := compL_map (b := bName 0) (e := C) (ρ := [.no]) (fun a => D.str (tA a)) aD as fun a hm => ⟨[.val (.str (tA a))], rfl, hC a hm⟩
  have e1 : (as.map fun a => D.str (tA a)) = (as.map tA).map D.str := by rw [List.map_map]; rfl
  rw [e1] at hc
  have q1 : shortO (some ((as.map tA).map D.str)) = some ((as.map tA).map D.str) := short_le _ (by simp; omega)
  have hq : seqItems (.lst ((as.map tA).map D.str)) = some ((as.map tA).map D.str) := rfl
  have ht : tupD [.lst (as.map aD)] = some (.tup (as.map aD)) := rfl
  generalize (as.map tA).map D.str = L at *
  generalize as.map aD = M at *
  generalize Str.join "/" (as.map tA) = J at *
  refine fn_ret rfl ?_
  show g [.val (.str J)] = _
  have hin : ∀ ρ : VE, compIn 1 [] ρ = [.no] := fun _ => rfl
  simp only [hg, seqR, retO, bltO, consO, valO, lstO, compF, hin, callO, rdA, pks, pk, List.getElem?_cons_zero, Option.bind, Option.map, hf, rvD_v, hq, q1, hc, ht]
theorem read_line_eq (as : List At) (h0 : as ≠ []) (h4 : as.length ≤ 4) (ha : ∀ a ∈ as, okT a) (hn : ∀ a ∈ as, a ≠ .non) : F_read_line [.val (.str (Str.join "/" (as.map tA)))] = some (.val (.tup (as.map aD))) :=
  read_parts rfl as h0 h4 ha fun a hm => by
    have := read_value_eq a (ha a hm) (hn a hm)
    simp only [C_read_line_0, callO, consO, rdA, List.getElem?_cons_zero, Option.bind, Option.map, this, rvD_v]
theorem glueS (sep : Str) (hs : sep.length ≤ 10) {C : VE → Option D} (hC : ∀ a, okT a → C [.val (aD a)] = some (.str (tA a))) (as : List At) (h4 : as.length ≤ 100) (ha : ∀ a ∈ as, okT a) : compL (bName 0) (fun _ => some true) C [.no] (as.map aD) = some ((as.map tA).map D.str) ∧ joinD sep [.lst ((as.map tA).map D.str)] = some (.str (Str.join sep (as.map tA))) := by
  refine ⟨?_, join_eq sep as hs h4 ha⟩
  rw [compL_map aD (fun a => D.str (tA a)) as fun a hm => ⟨[.val (aD a)], rfl, hC a (ha a hm)⟩, List.map_map]
  rfl
theorem glue {C : VE → Option D} (hC : ∀ a, okT a → C [.val (aD a)] = some (.str (tA a))) (as : List At) (h4 : as.length ≤ 4) (ha : ∀ a ∈ as, okT a) : compL (bName 0) (fun _ => some true) C [.no] (as.map aD) = some ((as.map tA).map D.str) ∧ joinD "/" [.lst ((as.map tA).map D.str)] = some (.str (Str.join "/" (as.map tA))) := glueS "/" (by decide +kernel) hC as (by omega) ha
theorem hC1 {C : VE → Option D} (hc : C = callO F_law_written (fun ρ => consO (rdA ρ 0) (some []))) (a : At) (h : okT a) : C [.val (aD a)] = some (.str (tA a)) := by
  have := law_written_eq a h
  simp only [hc, callO, consO, rdA, List.getElem?_cons_zero, Option.bind, Option.map, this, rvD_v]
theorem show_key_eq (as : List At) (h4 : as.length ≤ 4) (ha : ∀ a ∈ as, okT a) : F_show_key [.val (.tup (as.map aD))] = some (.val (.str (Str.join "/" (as.map tA)))) := by
  obtain ⟨hc, hj⟩ := glue (C := C_show_key_0) (fun a h => by
    have := show_value_eq a h
    simp only [C_show_key_0, callO, consO, rdA, List.getElem?_cons_zero, Option.bind, Option.map, this, rvD_v]) as h4 ha
  have q1 : shortO (some (as.map aD)) = some (as.map aD) := short_le _ (by simp; omega)
  have hq : seqItems (.tup (as.map aD)) = some (as.map aD) := rfl
  generalize (as.map tA).map D.str = L at *
  generalize as.map aD = M at *
  refine fn_ret rfl ?_
  show g_show_key [.val (.tup M)] = _
  have hin : ∀ ρ : VE, compIn 1 [] ρ = [.no] := fun _ => rfl
  simp only [g_show_key, seqR, retO, mtO, consO, valO, lstO, compF, hin, rdQ, pks, pk, List.getElem?_cons_zero, Option.bind, Option.map, hq, q1, hc, hj]
theorem thing_eq (c p : Int) : ∃ a, F_law_thing [.val (.int c), .val (.int p)] = some (.val (aD a)) ∧ okT a := by
  obtain ⟨ws, hs, hl, hp⟩ := stream_eq c p
  have i0 : ixD (.lst (ws.map D.int)) (.int 0) = some (.int (ws.getD (0 : Int).toNat 0)) := at_of (by omega) (by omega)
  have i1 : ixD (.lst (ws.map D.int)) (.int 1) = some (.int (ws.getD (1 : Int).toNat 0)) := at_of (by omega) (by omega)
  have i2 : ixD (.lst (ws.map D.int)) (.int 2) = some (.int (ws.getD (2 : Int).toNat 0)) := at_of (by omega) (by omega)
  have i3 : ixD (.lst (ws.map D.int)) (.int 3) = some (.int (ws.getD (3 : Int).toNat 0)) := at_of (by omega) (by omega)
  generalize ws.getD (0 : Int).toNat 0 = y0 at *
  generalize ws.getD (1 : Int).toNat 0 = y1 at *
  generalize ws.getD (2 : Int).toNat 0 = y2 at *
  generalize ws.getD (3 : Int).toNat 0 = y3 at *
  generalize ws.map D.int = WS at *
  have n6 : modD (.int y0) (.int 6) = some (.int (y0 % 6)) := rfl
  generalize y0 % 6 = w at *
  have eo : ∀ b : Int, eqO (.int w) (.int b) = some (.bl (decide (w = b))) := fun b => by simp
  have d6 : fdivD (.int c) (.int 6) = some (.int (c / 6)) := by
    show (if CDiv c 6 then some (D.int (c / 6)) else none) = _
    rw [if_pos (by constructor <;> decide)]
  have pw : powD (.int 10) (.int 60) = some (.int (10 ^ 60)) := by simp [CPow]
  have n60 := modD_pos (c / 6) (10 ^ 60) (by decide)
  have hr0 : 0 ≤ c / 6 % 10 ^ 60 := Int.emod_nonneg _ (by decide)
  have hr1 : c / 6 % 10 ^ 60 < 10 ^ 60 := Int.emod_lt_of_pos _ (by decide)
  have e0 := eo 0
  have e1 := eo 1
  have e2 := eo 2
  have e3 := eo 3
  have hfn : ∀ r, S_law_thing_0 [.val (.int c), .val (.int p), .no, .no] = .ret r → F_law_thing [.val (.int c), .val (.int p)] = some r := fun r h => fn_ret rfl h
  by_cases h0 : w = 0
  · rw [decide_eq_true h0] at e0
    refine ⟨.non, hfn _ ?_, trivial⟩
    simp only [S_law_thing_0, P_law_thing_0, S_law_thing_1, P_law_thing_1, S_law_thing_2, P_law_thing_2, seqR, iteR, setR, retO, asB, bin2, rdP, rdA, callO, consO, List.getElem?_cons_succ, List.getElem?_cons_zero, List.set_cons_succ, List.set_cons_zero, Option.bind, Option.map, hs, rvD_v, i0, n6, e0, aD]
  rw [decide_eq_false h0] at e0
  by_cases h1 : w = 1
  · rw [decide_eq_true h1] at e1
    refine ⟨.int (c / 6 % 10 ^ 60), hfn _ ?_, ?_⟩
    · simp only [S_law_thing_0, P_law_thing_0, S_law_thing_1, P_law_thing_1, S_law_thing_2, P_law_thing_2, S_law_thing_3, P_law_thing_3, seqR, iteR, setR, retO, asB, bin2, rdP, rdA, callO, consO, List.getElem?_cons_succ, List.getElem?_cons_zero, List.set_cons_succ, List.set_cons_zero, Option.bind, Option.map, hs, rvD_v, i0, n6, e0, e1, d6, pw, n60, aD]
    · show (c / 6 % 10 ^ 60).natAbs < 10 ^ 60
      generalize c / 6 % 10 ^ 60 = v at *
      omega
  rw [decide_eq_false h1] at e1
  by_cases h2 : w = 2
  · rw [decide_eq_true h2] at e2
    have sb : ∀ v : Int, subD (.int 0) (.int v) = some (.int (0 - v)) := fun _ => rfl
    refine ⟨.int (0 - c / 6 % 10 ^ 60), hfn _ ?_, ?_⟩
    · simp only [S_law_thing_0, P_law_thing_0, S_law_thing_1, P_law_thing_1, S_law_thing_2, P_law_thing_2, S_law_thing_3, P_law_thing_3, S_law_thing_4, P_law_thing_4, seqR, iteR, setR, retO, asB, bin2, rdP, rdA, callO, consO, List.getElem?_cons_succ, List.getElem?_cons_zero, List.set_cons_succ, List.set_cons_zero, Option.bind, Option.map, hs, rvD_v, i0, n6, e0, e1, e2, d6, pw, n60, sb, aD]
    · show (0 - c / 6 % 10 ^ 60).natAbs < 10 ^ 60
      generalize c / 6 % 10 ^ 60 = v at *
      omega
  rw [decide_eq_false h2] at e2
  by_cases h3 : w = 3
  · rw [decide_eq_true h3] at e3
    have n21 : modD (.int y1) (.int 21) = some (.int (y1 % 21)) := rfl
    have sb : subD (.int (y1 % 21)) (.int 10) = some (.int (y1 % 21 - 10)) := rfl
    refine ⟨.int (y1 % 21 - 10), hfn _ ?_, ?_⟩
    · simp only [S_law_thing_0, P_law_thing_0, S_law_thing_1, P_law_thing_1, S_law_thing_2, P_law_thing_2, S_law_thing_3, P_law_thing_3, S_law_thing_4, P_law_thing_4, S_law_thing_5, P_law_thing_5, seqR, iteR, setR, retO, asB, bin2, rdP, rdA, callO, consO, List.getElem?_cons_succ, List.getElem?_cons_zero, List.set_cons_succ, List.set_cons_zero, Option.bind, Option.map, hs, rvD_v, i0, n6, e0, e1, e2, e3, i1, n21, sb, aD]
    · show (y1 % 21 - 10).natAbs < 10 ^ 60
      have : (y1 % 21 - 10).natAbs < 100 := by omega
      exact Nat.lt_of_lt_of_le this (by decide)
  rw [decide_eq_false h3] at e3
  obtain ⟨m, hm, hm12⟩ : ∃ m : Nat, y3 % 12 = (m : Int) ∧ m < 12 := ⟨(y3 % 12).toNat, by omega, by omega⟩
  obtain ⟨z, hz, hzl, hzg⟩ := word_eq (c + y2) m (by omega)
  have n12 : modD (.int y3) (.int 12) = some (.int (m : Int)) := by rw [← hm]; rfl
  have ad : addD (.int c) (.int y2) = some (.int (c + y2)) := rfl
  refine ⟨.str z, hfn _ ?_, hzg, by omega⟩
  simp only [S_law_thing_0, P_law_thing_0, S_law_thing_1, P_law_thing_1, S_law_thing_2, P_law_thing_2, S_law_thing_3, P_law_thing_3, S_law_thing_4, P_law_thing_4, S_law_thing_5, P_law_thing_5, S_law_thing_6, P_law_thing_6, seqR, iteR, setR, retO, asB, bin2, rdP, rdA, callO, consO, valO, List.getElem?_cons_succ, List.getElem?_cons_zero, List.set_cons_succ, List.set_cons_zero, Option.bind, Option.map, hs, rvD_v, i0, n6, e0, e1, e2, e3, i2, i3, n12, ad, hz, aD]
theorem no_bools {C : VE → Option D} (hC : ∀ a, C [.val (aD a)] = some (.bl false)) (l : List At) : compL (bName 0) (fun _ => some true) C [.no] (l.map aD) = some ((l.map fun _ => false).map D.bl) := by
  rw [compL_map aD (fun _ => D.bl false) l fun a _ => ⟨[.val (aD a)], rfl, hC a⟩]
  simp
theorem any_none (l : List At) : anyD [.lst ((l.map fun _ => false).map D.bl)] = some (.bl false) := by
  simp only [anyD, asBs_eq, Option.map_some]
  congr 2
  rw [List.any_map]
  simp
theorem ch61 : (Str.ofString "=") = ⟨#[61]⟩ := by decide +kernel
theorem ch64 : (Str.ofString "@") = ⟨#[64]⟩ := by decide +kernel
theorem ch44 : (Str.ofString ",") = ⟨#[44]⟩ := by decide +kernel
theorem ch32 : (Str.ofString " ") = ⟨#[32]⟩ := by decide +kernel
theorem join_mem {d c : Nat} : ∀ (zs : List Str), c ∈ (Str.join ⟨#[d]⟩ zs).cps.toList → c = d ∨ ∃ z ∈ zs, c ∈ z.cps.toList
  | [], h => by
    have e : (Str.join ⟨#[d]⟩ []).cps.toList = [] := rfl
    rw [e] at h; cases h
  | [a], h => .inr ⟨a, List.mem_cons_self, h⟩
  | a :: b :: r, h => by
    have h : c ∈ (a ++ ⟨#[d]⟩ ++ Str.join ⟨#[d]⟩ (b :: r)).cps.toList := h
    rw [app_cps, app_cps, one_cps] at h
    rcases List.mem_append.mp h with h | h
    · rcases List.mem_append.mp h with h | h
      · exact .inr ⟨a, List.mem_cons_self, h⟩
      · exact .inl (by simpa using h)
    · rcases join_mem (b :: r) h with h | ⟨z, hz, h⟩
      · exact .inl h
      · exact .inr ⟨z, List.mem_cons_of_mem _ hz, h⟩
theorem ats_free {d c : Nat} (as : List At) (ha : ∀ a ∈ as, okT a) (hcd : c ≠ d) (hc : c ≠ 42 ∧ c ≠ 45 ∧ (c < 48 ∨ 57 < c) ∧ (c < 97 ∨ 122 < c)) : c ∉ (Str.join ⟨#[d]⟩ (as.map tA)).cps.toList := fun h => by
  rcases join_mem _ h with h | ⟨z, hz, h⟩
  · exact hcd h
  · obtain ⟨a, hm, rfl⟩ := List.mem_map.mp hz
    have := tA_signs a (ha a hm) c h
    omega
theorem tA_free {c : Nat} {a : At} (ha : okT a) (hc : c ≠ 42 ∧ c ≠ 45 ∧ (c < 48 ∨ 57 < c) ∧ (c < 97 ∨ 122 < c)) : c ∉ (tA a).cps.toList := fun h => by
  have := tA_signs a ha c h
  omega
theorem sum61 : ∀ (as : List At), (∀ a ∈ as, okT a) → ((as.map tA).map (·.length)).sum ≤ as.length * 61
  | [], _ => by simp
  | a :: as, ha => by
    have := sum61 as fun x hx => ha x (List.mem_cons_of_mem _ hx)
    have h1 := tA_len a (ha a List.mem_cons_self)
    simp only [List.map_cons, List.sum_cons, List.length_cons]
    omega
theorem joinA_len (sep : Str) (hs : sep.length = 1) (as : List At) (ha : ∀ a ∈ as, okT a) (hl : as.length ≤ 10) : (Str.join sep (as.map tA)).length ≤ 1000 := by
  have h1 := StrLaws.join_length_le sep (as.map tA)
  have h2 := sum61 as ha
  rw [List.length_map, hs] at h1
  omega
theorem spl {c : Nat} (sep : Str) (hsep : sep = ⟨#[c]⟩) (hc : c < 256) (zs : List Str) (h0 : zs ≠ []) (hz : ∀ z ∈ zs, c ∉ z.cps.toList) (hl : (Str.join sep zs).length ≤ 100000) (hn : zs.length ≤ 1000) : splitD (Str.join sep zs) [.str sep] = some (.lst (zs.map D.str)) := by
  subst hsep
  have hsp := split_join hc zs h0 hz
  have h1 : ((⟨#[c]⟩ : Str).length == 0) = false := rfl
  have h2 : (Str.join ⟨#[c]⟩ zs).length ≤ sizeLine := Nat.le_trans hl (by decide)
  have h3 : (Txt.split (Str.join ⟨#[c]⟩ zs) ⟨#[c]⟩).length ≤ sizeLine := by rw [hsp]; exact Nat.le_trans hn (by decide)
  simp only [splitD]
  rw [if_pos ⟨h1, h2, h3⟩, hsp]
theorem parts_of_eq {J sep : Str} {L : List D} (hd : splitD J [.str sep] = some (.lst L)) : F_parts_of [.val (.str J), .val (.str sep)] = some (.val (.lst L)) := by
  have hi : isD [.str J, .ty "str"] = some (.bl true) := by simp
  refine fn_ret rfl ?_
  show g_parts_of [.val (.str J), .val (.str sep)] = _
  simp only [g_parts_of, seqR, iteR, retO, notO, truD, mtO, rdP, rdA, bltO, consO, valO, pks, pk, List.getElem?_cons_succ, List.getElem?_cons_zero, Option.bind, Option.map, hi, Bool.not_true, hd]
def pT (ax lv : Nat) (vs : List At) : Str := iT (ax : Int) ++ "@" ++ iT (lv : Int) ++ "=" ++ Str.join "," (vs.map tA)
theorem okI {m : Nat} (h : m < 10 ^ 60) : okT (.int (m : Int)) := (by simpa using h : ((m : Int)).natAbs < 10 ^ 60)
theorem fmt_int {m : Nat} (h : m < 10 ^ 60) : fmtD (some (.int (m : Int))) = some (.str (iT (m : Int))) := by
  have : ((m : Int)).natAbs.log2 < 1920 := log_ok (by simpa using h)
  simp only [fmtD]; rw [if_pos this]; rfl
theorem pT_len (ax lv : Nat) (vs : List At) (h1 : ax < 10 ^ 60) (h2 : lv < 10 ^ 60) (h6 : vs.length ≤ 6) (ha : ∀ a ∈ vs, okT a) : (pT ax lv vs).length ≤ 2000 := by
  have e1 := tA_len (.int (ax : Int)) (okI h1)
  have e2 := tA_len (.int (lv : Int)) (okI h2)
  have e3 := joinA_len "," (by decide +kernel) vs ha (by omega)
  have c1 : (Str.ofString "@").length = 1 := by decide +kernel
  have c2 : (Str.ofString "=").length = 1 := by decide +kernel
  unfold pT
  simp only [strLen_append, c1, c2]
  simp only [tA] at e1 e2
  omega
theorem show_pick_eq (ax lv : Nat) (vs : List At) (h1 : ax < 10 ^ 60) (h2 : lv < 10 ^ 60) (h6 : vs.length ≤ 6) (ha : ∀ a ∈ vs, okT a) (v : D) (hv : v = .lst (vs.map aD) ∨ v = .tup (vs.map aD)) : F_show_pick [.val (.tup [.int (ax : Int), .int (lv : Int), v])] = some (.val (.str (pT ax lv vs))) := by
  obtain ⟨hc, hj⟩ := glueS "," (by decide +kernel) (C := C_show_pick_0) (fun a h => by
    have := show_value_eq a h
    simp only [C_show_pick_0, callO, consO, rdA, List.getElem?_cons_zero, Option.bind, Option.map, this, rvD_v]) vs (by omega) ha
  have q1 : shortO (some (vs.map aD)) = some (vs.map aD) := short_le _ (by simp; omega)
  have hq : seqItems v = some (vs.map aD) := by rcases hv with rfl | rfl <;> rfl
  have i0 : ixD (.tup [.int (ax : Int), .int (lv : Int), v]) (.int 0) = some (.int (ax : Int)) := rfl
  have i1 : ixD (.tup [.int (ax : Int), .int (lv : Int), v]) (.int 1) = some (.int (lv : Int)) := rfl
  have i2 : ixD (.tup [.int (ax : Int), .int (lv : Int), v]) (.int 2) = some v := rfl
  have f1 := fmt_int h1
  have f2 := fmt_int h2
  have f3 : fmtD (some (.str (Str.join "," (vs.map tA)))) = some (.str (Str.join "," (vs.map tA))) := by
    have := joinA_len "," (by decide +kernel) vs ha (by omega)
    simp only [fmtD]; rw [if_pos (Nat.le_trans this (by decide))]
  have hcat : catF Str.empty [iT (ax : Int), "@", iT (lv : Int), "=", Str.join "," (vs.map tA)] = pT ax lv vs := by
    show Str.empty ++ iT (ax : Int) ++ "@" ++ iT (lv : Int) ++ "=" ++ Str.join "," (vs.map tA) = _
    rw [Str.empty_append]; rfl
  have hlen : (pT ax lv vs).length ≤ sizeLine := Nat.le_trans (pT_len ax lv vs h1 h2 h6 ha) (by decide)
  have hco : catO (some [iT (ax : Int), "@", iT (lv : Int), "=", Str.join "," (vs.map tA)]) = some (.str (pT ax lv vs)) := by
    simp only [catO, hcat]; rw [if_pos hlen]
  generalize (vs.map tA).map D.str = TS at *
  generalize Str.join "," (vs.map tA) = J at *
  generalize vs.map aD = VS at *
  generalize D.tup [.int (ax : Int), .int (lv : Int), v] = PP at *
  refine fn_ret rfl ?_
  show S_show_pick_0 [.val PP, .no, .no, .no] = _
  have hin : ∀ ρ : VE, compIn 1 [] ρ = [.no] := fun _ => rfl
  simp only [S_show_pick_0, P_show_pick_0, S_show_pick_1, P_show_pick_1, S_show_pick_2, P_show_pick_2, S_show_pick_3, P_show_pick_3, seqR, setR, retO, mtO, strO, bin2, rdP, consO, valO, lstO, compF, hin, pks, pk, List.getElem?_cons_succ, List.getElem?_cons_zero, List.set_cons_succ, List.set_cons_zero, Option.bind, Option.map, i0, i1, i2, hq, q1, hc, hj, f1, f2, f3, hco]
theorem read_pick_eq (ax lv : Nat) (vs : List At) (h1 : ax < 10 ^ 60) (h2 : lv < 10 ^ 60) (h0 : vs ≠ []) (h6 : vs.length ≤ 6) (ha : ∀ a ∈ vs, okT a) : F_read_pick [.val (.str (pT ax lv vs))] = some (.val (.tup [.int (ax : Int), .int (lv : Int), .lst (vs.map aD)])) := by
  have hJ44 := joinA_len "," (by decide +kernel) vs ha (by omega)
  have hpl := pT_len ax lv vs h1 h2 h6 ha
  -- at =
  have e1 : pT ax lv vs = Str.join "=" [iT (ax : Int) ++ "@" ++ iT (lv : Int), Str.join "," (vs.map tA)] := rfl
  have p1 : splitD (pT ax lv vs) [.str "="] = some (.lst [.str (iT (ax : Int) ++ "@" ++ iT (lv : Int)), .str (Str.join "," (vs.map tA))]) := by
    rw [e1]
    refine spl "=" ch61 (by decide) _ (by simp) (fun z hz => ?_) (by rw [← e1]; omega) (by simp)
    simp only [List.mem_cons, List.not_mem_nil, or_false] at hz
    rcases hz with rfl | rfl
    · rw [app_cps, app_cps, ch64, one_cps]
      intro h
      rcases List.mem_append.mp h with h | h
      · rcases List.mem_append.mp h with h | h
        · exact tA_free (a := .int (ax : Int)) (okI h1) (by omega) h
        · simp at h
      · exact tA_free (a := .int (lv : Int)) (okI h2) (by omega) h
    · rw [ch44]; exact ats_free vs ha (by omega) (by omega)
  have p1' := parts_of_eq p1
  -- at @
  have e2 : iT (ax : Int) ++ "@" ++ iT (lv : Int) = Str.join "@" [iT (ax : Int), iT (lv : Int)] := rfl
  have p2 : splitD (iT (ax : Int) ++ "@" ++ iT (lv : Int)) [.str "@"] = some (.lst [.str (iT (ax : Int)), .str (iT (lv : Int))]) := by
    rw [e2]
    refine spl "@" ch64 (by decide) _ (by simp) (fun z hz => ?_) ?_ (by simp)
    · simp only [List.mem_cons, List.not_mem_nil, or_false] at hz
      rcases hz with rfl | rfl
      · exact tA_free (a := .int (ax : Int)) (okI h1) (by omega)
      · exact tA_free (a := .int (lv : Int)) (okI h2) (by omega)
    · rw [← e2]
      unfold pT at hpl
      simp only [strLen_append] at hpl ⊢
      omega
  -- at ,
  have p3 : splitD (Str.join "," (vs.map tA)) [.str ","] = some (.lst ((vs.map tA).map D.str)) := by
    refine spl "," ch44 (by decide) _ (by simpa using h0) (fun z hz => ?_) (by omega) (by simp; omega)
    obtain ⟨a, hm, rfl⟩ := List.mem_map.mp hz
    exact tA_free (ha a hm) (by omega)
  have hc := compL_map (b := bName 0) (e := C_read_pick_0) (ρ := [.no]) (fun a => D.str (tA a)) aD vs fun a hm => ⟨[.val (.str (tA a))], rfl, by
    have := read_vw_eq a (ha a hm)
    simp only [C_read_pick_0, callO, consO, rdA, List.getElem?_cons_zero, Option.bind, Option.map, this, rvD_v]⟩
  have e3 : (vs.map fun a => D.str (tA a)) = (vs.map tA).map D.str := by rw [List.map_map]; rfl
  rw [e3] at hc
  have q1 : shortO (some ((vs.map tA).map D.str)) = some ((vs.map tA).map D.str) := short_le _ (by simp; omega)
  have hq : seqItems (.lst ((vs.map tA).map D.str)) = some ((vs.map tA).map D.str) := rfl
  have r1 := read_place_eq ax h1
  have r2 := read_place_eq lv h2
  have l2 : ∀ a b : D, lenD [.lst [a, b]] = some (.int 2) := fun _ _ => rfl
  have n2 : neO (.int 2) (.int 2) = some (.bl false) := by simp
  have x0 : ∀ a b : D, ixD (.lst [a, b]) (.int 0) = some a := fun _ _ => rfl
  have x1 : ∀ a b : D, ixD (.lst [a, b]) (.int 1) = some b := fun _ _ => rfl
  have hsh : ∀ a b c : D, shortO (some [a, b, c]) = some [a, b, c] := fun _ _ _ => short_le _ (by simp)
  have hv3 : ∀ a b c : D, vals [Sl.val a, Sl.val b, Sl.val c] = some [a, b, c] := fun _ _ _ => rfl
  generalize (vs.map tA).map D.str = TS at *
  generalize Str.join "," (vs.map tA) = J at *
  generalize vs.map aD = VS at *
  generalize iT (ax : Int) ++ "@" ++ iT (lv : Int) = XX at *
  generalize pT ax lv vs = PT at *
  refine fn_ret rfl ?_
  show S_read_pick_0 [.val (.str PT), .no, .no, .no] = _
  have hin : ∀ ρ : VE, compIn 1 [] ρ = [.no] := fun _ => rfl
  simp only [S_read_pick_0, P_read_pick_0, S_read_pick_1, P_read_pick_1, S_read_pick_2, P_read_pick_2, S_read_pick_3, P_read_pick_3, S_read_pick_4, P_read_pick_4, seqR, iteR, setR, retO, orB, asB, mtO, bin2, rdP, rdV, rdA, callO, bltO, consO, valO, lstO, compF, hin, pks, pk, List.getElem?_cons_succ, List.getElem?_cons_zero, List.set_cons_succ, List.set_cons_zero, Option.bind, Option.map, p1', rvD_v, x0, x1, p2, l2, n2, p3, hq, q1, hc, r1, r2, hv3, hsh]
theorem pick_good_eq (ax lv : Nat) (vs : List At) (h1 : ax < 10 ^ 60) (h2 : lv < 10 ^ 60) (h0 : vs ≠ []) (h6 : vs.length ≤ 6) (ha : ∀ a ∈ vs, okT a) : F_law_pick_good [.val (.tup [.int (ax : Int), .int (lv : Int), .lst (vs.map aD)])] = some (.val (.bl true)) := by
  have w1 := law_written_eq (.int (ax : Int)) (okI h1)
  have w2 := law_written_eq (.int (lv : Int)) (okI h2)
  simp only [aD, tA] at w1 w2
  obtain ⟨hc, hj⟩ := glueS "," (by decide +kernel) (C := C_law_pick_good_0) (fun a h => hC1 rfl a h) vs (by omega) ha
  have hpl := pT_len ax lv vs h1 h2 h6 ha
  have hJ44 := joinA_len "," (by decide +kernel) vs ha (by omega)
  have hall : ∀ x y : Str, x.length + y.length ≤ 100000 → addD (.str x) (.str y) = some (.str (x ++ y)) := fun x y h => addD_str x y (by omega)
  have e1 := tA_len (.int (ax : Int)) (okI h1)
  have e2 := tA_len (.int (lv : Int)) (okI h2)
  simp only [tA] at e1 e2
  have c1 : (Str.ofString "@").length = 1 := by decide +kernel
  have c2 : (Str.ofString "=").length = 1 := by decide +kernel
  have a1 := hall (iT (ax : Int)) "@" (by omega)
  have a2 := hall (iT (ax : Int) ++ "@") (iT (lv : Int)) (by rw [strLen_append]; omega)
  have a3 := hall (iT (ax : Int) ++ "@" ++ iT (lv : Int)) "=" (by rw [strLen_append, strLen_append]; omega)
  have a4 := hall (iT (ax : Int) ++ "@" ++ iT (lv : Int) ++ "=") (Str.join "," (vs.map tA)) (by rw [strLen_append, strLen_append, strLen_append]; omega)
  have s1 := show_pick_eq ax lv vs h1 h2 h6 ha (.lst (vs.map aD)) (.inl rfl)
  have s2 := show_pick_eq ax lv vs h1 h2 h6 ha (.tup (vs.map aD)) (.inr rfl)
  have rd := read_pick_eq ax lv vs h1 h2 h0 h6 ha
  change addD _ _ = some (.str (pT ax lv vs)) at a4
  have nn : neO (.str (pT ax lv vs)) (.str (pT ax lv vs)) = some (.bl false) := by simp [okD]
  have hok : okD 12 (.tup [.int (ax : Int), .int (lv : Int), .lst (vs.map aD)]) = true := by
    show ([D.int (ax : Int), .int (lv : Int), .lst (vs.map aD)].all (okD 11)) = true
    simp only [List.all_cons, List.all_nil, Bool.and_true, Bool.and_eq_true]
    refine ⟨rfl, rfl, ?_⟩
    show (vs.map aD).all (okD 10) = true
    rw [List.all_map, List.all_eq_true]
    exact fun a _ => okD_aD 10 a
  have n2 : neO (.tup [.int (ax : Int), .int (lv : Int), .lst (vs.map aD)]) (.tup [.int (ax : Int), .int (lv : Int), .lst (vs.map aD)]) = some (.bl false) := by
    have h := eqD_refl 12 _ hok
    simp only [neO, deep_eq, hok, h, Bool.and_self, if_true, Bool.not_true]
  have t1 : isD [.tup [.int (ax : Int), .int (lv : Int), .lst (vs.map aD)], .ty "tuple"] = some (.bl true) := by simp
  have t2 : lenD [.tup [.int (ax : Int), .int (lv : Int), .lst (vs.map aD)]] = some (.int 3) := rfl
  have t3 : neO (.int 3) (.int 3) = some (.bl false) := by simp
  have t4 : isD [.lst (vs.map aD), .ty "list"] = some (.bl true) := by simp
  have i0 : ixD (.tup [.int (ax : Int), .int (lv : Int), .lst (vs.map aD)]) (.int 0) = some (.int (ax : Int)) := rfl
  have i1 : ixD (.tup [.int (ax : Int), .int (lv : Int), .lst (vs.map aD)]) (.int 1) = some (.int (lv : Int)) := rfl
  have i2 : ixD (.tup [.int (ax : Int), .int (lv : Int), .lst (vs.map aD)]) (.int 2) = some (.lst (vs.map aD)) := rfl
  have ad := addD_lst [.int (ax : Int), .int (lv : Int)] (vs.map aD) (by simp; omega)
  have hcb : compL (bName 0) (fun _ => some true) C_law_pick_good_1 [.no] ([.int (ax : Int), .int (lv : Int)] ++ vs.map aD) = some (((At.int (ax : Int) :: At.int (lv : Int) :: vs).map fun _ => false).map D.bl) := by
    have e : ([.int (ax : Int), .int (lv : Int)] ++ vs.map aD) = (At.int (ax : Int) :: At.int (lv : Int) :: vs).map aD := rfl
    rw [e]
    exact no_bools (fun a => by cases a <;> simp [C_law_pick_good_1, aD]) _
  have hany := any_none (At.int (ax : Int) :: At.int (lv : Int) :: vs)
  have qb : shortO (some ([.int (ax : Int), .int (lv : Int)] ++ vs.map aD)) = some ([.int (ax : Int), .int (lv : Int)] ++ vs.map aD) := short_le _ (by simp; omega)
  have hsb : shortO (some [D.int (ax : Int), .int (lv : Int)]) = some [D.int (ax : Int), .int (lv : Int)] := short_le _ (by simp)
  have hv2 : vals [Sl.val (.int (ax : Int)), Sl.val (.int (lv : Int))] = some [D.int (ax : Int), .int (lv : Int)] := rfl
  have q1 : shortO (some (vs.map aD)) = some (vs.map aD) := short_le _ (by simp; omega)
  have sq : ∀ xs : List D, seqItems (.lst xs) = some xs := fun _ => rfl
  have tp : ∀ xs : List D, tupD [.lst xs] = some (.tup xs) := fun _ => rfl
  have hsh : ∀ a b c : D, shortO (some [a, b, c]) = some [a, b, c] := fun _ _ _ => short_le _ (by simp)
  have hv3 : ∀ a b c : D, vals [Sl.val a, Sl.val b, Sl.val c] = some [a, b, c] := fun _ _ _ => rfl
  have hbind : ∀ s4 s5 : Sl, bTup 3 (bCons (bName 1) (bCons (bName 2) (bCons (bName 3) bNil))) (.tup [.int (ax : Int), .int (lv : Int), .lst (vs.map aD)]) [.val (.tup [.int (ax : Int), .int (lv : Int), .lst (vs.map aD)]), .no, .no, .no, s4, s5] = some [.val (.tup [.int (ax : Int), .int (lv : Int), .lst (vs.map aD)]), .val (.int (ax : Int)), .val (.int (lv : Int)), .val (.lst (vs.map aD)), s4, s5] := fun _ _ => rfl
  generalize ((At.int (ax : Int) :: At.int (lv : Int) :: vs).map fun _ => false).map D.bl = BB at *
  generalize [D.int (ax : Int), .int (lv : Int)] ++ vs.map aD = CB at *
  generalize hPP : D.tup [.int (ax : Int), .int (lv : Int), .lst (vs.map aD)] = PP at *
  generalize (vs.map tA).map D.str = TS at *
  generalize Str.join "," (vs.map tA) = J at *
  generalize vs.map aD = VS at *
  generalize pT ax lv vs = PT at *
  refine fn_ret rfl ?_
  show S_law_pick_good_0 [.val PP, .no, .no, .no, .no, .no] = _
  have hin : ∀ ρ : VE, compIn 1 [] ρ = [.no] := fun _ => rfl
  simp only [S_law_pick_good_0, P_law_pick_good_0, S_law_pick_good_1, P_law_pick_good_1, S_law_pick_good_2, P_law_pick_good_2, S_law_pick_good_3, P_law_pick_good_3, S_law_pick_good_4, P_law_pick_good_4, S_law_pick_good_5, P_law_pick_good_5, asgR, seqR, iteR, setR, retO, orB, notO, blO, asB, truD, mtO, bin2, rdP, rdV, rdQ, rdA, callO, bltO, consO, valO, lstO, compF, hin, pks, pk, List.getElem?_cons_succ, List.getElem?_cons_zero, List.set_cons_succ, List.set_cons_zero, Option.bind, Option.map, hbind, w1, w2, rvD_v, sq, q1, hc, hj, a1, a2, a3, a4, s1, s2, nn, tp, hv3, hsh, rd, t1, t2, t3, i2, t4, n2, Bool.not_true, i0, i1, hv2, hsb, ad, qb, hcb, hany, Bool.not_false]
def rT (as : List At) (i : Int) : Str := Str.join "/" (as.map tA) ++ " " ++ iT i
theorem show_row_eq (as : List At) (h4 : as.length ≤ 4) (ha : ∀ a ∈ as, okT a) (i : Int) (hi : i.natAbs < 10 ^ 60) : F_show_row [.val (.tup [.tup (as.map aD), .int i])] = some (.val (.str (rT as i))) ∧ (rT as i).length ≤ 2000 := by
  have hk := show_key_eq as h4 ha
  have hJ := joinA_len "/" (by decide +kernel) as ha (by omega)
  have e1 := tA_len (.int i) hi
  simp only [tA] at e1
  have c1 : (Str.ofString " ").length = 1 := by decide +kernel
  have hlen : (rT as i).length ≤ 2000 := by
    unfold rT
    rw [strLen_append, strLen_append, c1]; omega
  refine ⟨?_, hlen⟩
  have i0 : ixD (.tup [.tup (as.map aD), .int i]) (.int 0) = some (.tup (as.map aD)) := rfl
  have i1 : ixD (.tup [.tup (as.map aD), .int i]) (.int 1) = some (.int i) := rfl
  have f1 : fmtD (some (.str (Str.join "/" (as.map tA)))) = some (.str (Str.join "/" (as.map tA))) := by
    simp only [fmtD]; rw [if_pos (Nat.le_trans hJ (by decide))]
  have f2 : fmtD (some (.int i)) = some (.str (iT i)) := by
    simp only [fmtD]; rw [if_pos (log_ok hi)]; rfl
  have hcat : catF Str.empty [Str.join "/" (as.map tA), " ", iT i] = rT as i := by
    show Str.empty ++ Str.join "/" (as.map tA) ++ " " ++ iT i = _
    rw [Str.empty_append]; rfl
  have hco : catO (some [Str.join "/" (as.map tA), " ", iT i]) = some (.str (rT as i)) := by
    simp only [catO, hcat]; rw [if_pos (Nat.le_trans hlen (by decide))]
  generalize Str.join "/" (as.map tA) = J at *
  generalize hR : D.tup [.tup (as.map aD), .int i] = RR at *
  generalize as.map aD = AA at *
  refine fn_ret rfl ?_
  show g_show_row [.val RR, .no, .no] = _
  simp only [g_show_row, seqR, setR, retO, strO, bin2, rdP, callO, consO, valO, List.getElem?_cons_succ, List.getElem?_cons_zero, List.set_cons_succ, List.set_cons_zero, Option.bind, Option.map, i0, hk, rvD_v, i1, f1, f2, hco]
theorem read_row_eq (as : List At) (h0 : as ≠ []) (h4 : as.length ≤ 4) (ha : ∀ a ∈ as, okT a) (hn : ∀ a ∈ as, a ≠ .non) (i : Int) (hi : i.natAbs < 10 ^ 60) (hlen : (rT as i).length ≤ 2000) : F_read_row [.val (.str (rT as i))] = some (.val (.tup [.tup (as.map aD), .int i])) := by
  have hl := read_line_eq as h0 h4 ha hn
  have hw := read_whole_eq i hi
  have e1 : rT as i = Str.join " " [Str.join "/" (as.map tA), iT i] := rfl
  have p1 : splitD (rT as i) [.str " "] = some (.lst [.str (Str.join "/" (as.map tA)), .str (iT i)]) := by
    rw [e1]
    refine spl " " ch32 (by decide) _ (by simp) (fun z hz => ?_) (by rw [← e1]; omega) (by simp)
    simp only [List.mem_cons, List.not_mem_nil, or_false] at hz
    rcases hz with rfl | rfl
    · rw [sl47]; exact ats_free as ha (by omega) (by omega)
    · exact tA_free (a := .int i) hi (by omega)
  have p1' := parts_of_eq p1
  have l2 : ∀ a b : D, lenD [.lst [a, b]] = some (.int 2) := fun _ _ => rfl
  have n2 : neO (.int 2) (.int 2) = some (.bl false) := by simp
  have x0 : ∀ a b : D, ixD (.lst [a, b]) (.int 0) = some a := fun _ _ => rfl
  have x1 : ∀ a b : D, ixD (.lst [a, b]) (.int 1) = some b := fun _ _ => rfl
  have hsh : ∀ a b : D, shortO (some [a, b]) = some [a, b] := fun _ _ => short_le _ (by simp)
  have hv2 : ∀ a b : D, vals [Sl.val a, Sl.val b] = some [a, b] := fun _ _ => rfl
  generalize rT as i = RT at *
  generalize Str.join "/" (as.map tA) = J at *
  generalize as.map aD = AA at *
  refine fn_ret rfl ?_
  show g_read_row [.val (.str RT), .no] = _
  simp only [g_read_row, seqR, iteR, setR, retO, asB, bin2, rdP, rdA, callO, bltO, consO, valO, pks, pk, List.getElem?_cons_succ, List.getElem?_cons_zero, List.set_cons_succ, List.set_cons_zero, Option.bind, Option.map, p1', rvD_v, l2, n2, x0, x1, hl, hw, hv2, hsh]
theorem row_good_eq (as : List At) (h0 : as ≠ []) (h4 : as.length ≤ 4) (ha : ∀ a ∈ as, okT a) (hn : ∀ a ∈ as, a ≠ .non) (i : Int) (hi : i.natAbs < 10 ^ 60) : F_law_row_good [.val (.tup (as.map aD)), .val (.int i)] = some (.val (.bl true)) := by
  obtain ⟨s1, hlen⟩ := show_row_eq as h4 ha i hi
  have rd := read_row_eq as h0 h4 ha hn i hi hlen
  obtain ⟨hc, hj⟩ := glue (C := C_law_row_good_0) (fun a h => hC1 rfl a h) as h4 ha
  have w1 := law_written_eq (.int i) hi
  simp only [aD, tA] at w1
  have hJ := joinA_len "/" (by decide +kernel) as ha (by omega)
  have e1 := tA_len (.int i) hi
  simp only [tA] at e1
  have c1 : (Str.ofString " ").length = 1 := by decide +kernel
  have a1 := addD_str (Str.join "/" (as.map tA)) " " (by omega)
  have a2 := addD_str (Str.join "/" (as.map tA) ++ " ") (iT i) (by rw [strLen_append]; omega)
  change addD _ _ = some (.str (rT as i)) at a2
  have nn : neO (.str (rT as i)) (.str (rT as i)) = some (.bl false) := by simp [okD]
  have hok : okD 12 (.tup [.tup (as.map aD), .int i]) = true := by
    show ([D.tup (as.map aD), .int i].all (okD 11)) = true
    simp only [List.all_cons, List.all_nil, Bool.and_true, Bool.and_eq_true]
    refine ⟨?_, rfl⟩
    show (as.map aD).all (okD 10) = true
    rw [List.all_map, List.all_eq_true]
    exact fun a _ => okD_aD 10 a
  have ee : eqO (.tup [.tup (as.map aD), .int i]) (.tup [.tup (as.map aD), .int i]) = some (.bl true) := by
    have h := eqD_refl 12 _ hok
    simp only [eqO, deep_eq, hok, h, Bool.and_self, if_true]
  have t1 : isD [.tup [.tup (as.map aD), .int i], .ty "tuple"] = some (.bl true) := by simp
  have t2 : lenD [.tup [.tup (as.map aD), .int i]] = some (.int 2) := rfl
  have t3 : neO (.int 2) (.int 2) = some (.bl false) := by simp
  have t4 : isD [.tup (as.map aD), .ty "tuple"] = some (.bl true) := by simp
  have i0 : ixD (.tup [.tup (as.map aD), .int i]) (.int 0) = some (.tup (as.map aD)) := rfl
  have i1 : ixD (.tup [.tup (as.map aD), .int i]) (.int 1) = some (.int i) := rfl
  have hwl : F_law_whole [.val (.int i)] = some (.val (.bl true)) := by simp [F_law_whole, fnP, g_law_whole]
  have hcb := no_bools (C := C_law_row_good_1) (fun a => by cases a <;> simp [C_law_row_good_1, aD]) as
  have hany := any_none as
  have q1 : shortO (some (as.map aD)) = some (as.map aD) := short_le _ (by simp; omega)
  have sq : ∀ xs : List D, seqItems (.tup xs) = some xs := fun _ => rfl
  have hsh : ∀ a b : D, shortO (some [a, b]) = some [a, b] := fun _ _ => short_le _ (by simp)
  have hv2 : ∀ a b : D, vals [Sl.val a, Sl.val b] = some [a, b] := fun _ _ => rfl
  generalize (as.map fun _ => false).map D.bl = BB at *
  generalize hPP : D.tup [.tup (as.map aD), .int i] = PP at *
  generalize (as.map tA).map D.str = TS at *
  generalize Str.join "/" (as.map tA) = J at *
  generalize as.map aD = AA at *
  generalize rT as i = RT at *
  refine fn_ret rfl ?_
  show S_law_row_good_0 [.val (.tup AA), .val (.int i), .no, .no] = _
  have hin : ∀ ρ : VE, compIn 1 [] ρ = [.no] := fun _ => rfl
  simp only [S_law_row_good_0, P_law_row_good_0, S_law_row_good_1, P_law_row_good_1, S_law_row_good_2, P_law_row_good_2, S_law_row_good_3, P_law_row_good_3, S_law_row_good_4, P_law_row_good_4, seqR, iteR, setR, retO, orB, andO, notO, blO, asB, truD, mtO, bin2, rdP, rdV, rdQ, rdA, callO, bltO, consO, valO, lstO, compF, hin, pks, pk, List.getElem?_cons_succ, List.getElem?_cons_zero, List.set_cons_succ, List.set_cons_zero, Option.bind, Option.map, sq, q1, hc, hj, w1, rvD_v, a1, a2, hv2, hsh, hPP, s1, nn, rd, t1, t2, t3, i0, t4, Bool.not_true, ee, i1, hwl, hcb, hany, Bool.not_false]
theorem pick_eq (ns : List Int) (at_ : Nat) : ∃ (ax lv : Nat) (vs : List At), F_law_pick [.val (.lst (ns.map D.int)), .val (.int (at_ : Int))] = some (.val (.tup [.int (ax : Int), .int (lv : Int), .lst (vs.map aD)])) ∧ ax < 10 ^ 60 ∧ lv < 10 ^ 60 ∧ vs ≠ [] ∧ vs.length ≤ 6 ∧ ∀ a ∈ vs, okT a := by
  have hcell := cell_at_eq (.val (.lst (ns.map D.int))) ns (.inl rfl) (at_ : Int) (by omega)
  generalize ns.getD (at_ : Int).toNat 0 = c at hcell
  have pw : powD (.int 10) (.int 30) = some (.int (10 ^ 30)) := by simp [CPow]
  have hv : vals [Sl.val (.int 5), Sl.val (.int (10 ^ 30))] = some [D.int 5, .int (10 ^ 30)] := rfl
  have hsh : shortO (some [D.int 5, .int (10 ^ 30)]) = some [D.int 5, .int (10 ^ 30)] := short_le _ (by simp)
  have d2 : fdivD (.int c) (.int 2) = some (.int (c / 2)) := by
    show (if CDiv c 2 then some (D.int (c / 2)) else none) = _
    rw [if_pos (by constructor <;> decide)]
  have n2 : modD (.int (c / 2)) (.int 2) = some (.int (c / 2 % 2)) := rfl
  obtain ⟨b, hb, hb0, hb1⟩ : ∃ b : Int, ixD (.lst [D.int 5, .int (10 ^ 30)]) (.int (c / 2 % 2)) = some (.int b) ∧ 0 < b ∧ b ≤ 10 ^ 30 := by
    have : c / 2 % 2 = 0 ∨ c / 2 % 2 = 1 := by omega
    rcases this with h | h <;> rw [h]
    · exact ⟨5, rfl, by decide, by decide⟩
    · exact ⟨10 ^ 30, rfl, by decide, by decide⟩
  -- one number
  have num : ∀ (k : Nat) (xs : List D) (_ : k < 2) (_ : xs.length < 10), ∃ m : Nat, m < 10 ^ 60 ∧ L_law_pick_0 [.val (.lst (ns.map D.int)), .val (.int (at_ : Int)), .val (.int c), .own xs, .val (.int (k : Int))] = .next [.val (.lst (ns.map D.int)), .val (.int (at_ : Int)), .val (.int c), .own (xs ++ [.int (m : Int)]), .val (.int (k : Int))] := fun k xs hk hx => by
    have h1 := cell_at_eq (.val (.lst (ns.map D.int))) ns (.inl rfl) ((at_ : Int) + (k : Int)) (by omega)
    generalize ns.getD ((at_ : Int) + (k : Int)).toNat 0 = c1 at *
    have a1 : addD (.int (at_ : Int)) (.int (k : Int)) = some (.int ((at_ : Int) + (k : Int))) := rfl
    have a2 : addD (.int 6) (.int (k : Int)) = some (.int (6 + (k : Int))) := rfl
    have dd : fdivD (.int c1) (.int (6 + (k : Int))) = some (.int (c1 / (6 + (k : Int)))) := by
      show (if CDiv c1 (6 + (k : Int)) then some (D.int (c1 / (6 + (k : Int)))) else none) = _
      rw [if_pos ⟨by omega, by omega⟩]
    have hmd := modD_pos (c1 / (6 + (k : Int))) b hb0
    have g0 := Int.emod_nonneg (c1 / (6 + (k : Int))) (show b ≠ 0 by omega)
    have g1 := Int.emod_lt_of_pos (c1 / (6 + (k : Int))) hb0
    generalize c1 / (6 + (k : Int)) % b = v at *
    have hz : xs.length < sizeLine := Nat.lt_of_lt_of_le hx (by decide)
    refine ⟨v.toNat, Nat.lt_of_lt_of_le (show v.toNat < 10 ^ 30 by omega) (by decide), ?_⟩
    rw [show ((v.toNat : Nat) : Int) = v by omega]
    generalize ns.map D.int = NS at *
    generalize (10 : Int) ^ 30 = tt at *
    simp only [L_law_pick_0, seqR, appR, bin2, rdP, rdA, rdO, callO, consO, valO, lstO, List.getElem?_cons_succ, List.getElem?_cons_zero, List.set_cons_succ, List.set_cons_zero, Option.bind, Option.map, a1, h1, rvD_v, a2, dd, pw, hv, hsh, d2, n2, hb, hmd, hz, if_true]
  obtain ⟨ax, hax, t0⟩ := num 0 [] (by omega) (by simp)
  obtain ⟨lv, hlv, t1⟩ := num 1 [.int (ax : Int)] (by omega) (by simp)
  obtain ⟨m, hm, hm1, hm6⟩ : ∃ m : Nat, 1 + c % 6 = (m : Int) ∧ 1 ≤ m ∧ m ≤ 6 := ⟨(1 + c % 6).toNat, by omega, by omega, by omega⟩
  have n6 : modD (.int c) (.int 6) = some (.int (c % 6)) := rfl
  have a1 : addD (.int 1) (.int (c % 6)) = some (.int (m : Int)) := by rw [← hm]; rfl
  have hr := rng1_nat m (by omega)
  have hr2 : rng1 [.int 2] = some [.int 0, .int 1] := rng1_nat 2 (by omega)
  obtain ⟨vs, hk, hkl, hkp⟩ := comp_gen (e := C_law_pick_0) (b := bName 0) (ρ := [.no, .val (.lst (ns.map D.int)), .val (.int (at_ : Int))]) (P := fun d => ∃ a, d = aD a ∧ okT a) ((List.range m).map fun (k : Nat) => D.int (k : Int)) (fun d hd => by
    obtain ⟨k, _, rfl⟩ := List.mem_map.mp hd
    have h1 := cell_at_eq (.val (.lst (ns.map D.int))) ns (.inl rfl) ((at_ : Int) + (k : Int)) (by omega)
    obtain ⟨a, ha, hok⟩ := thing_eq (ns.getD ((at_ : Int) + (k : Int)).toNat 0) (7 * (k : Int))
    have ad : addD (.int (at_ : Int)) (.int (k : Int)) = some (.int ((at_ : Int) + (k : Int))) := rfl
    have mu : mulD (.int 7) (.int (k : Int)) = some (.int (7 * (k : Int))) := by
      show (if CMul 7 (k : Int) then some (D.int (7 * (k : Int))) else none) = _
      rw [if_pos (.inl (by decide))]
    refine ⟨[.val (.int (k : Int)), .val (.lst (ns.map D.int)), .val (.int (at_ : Int))], aD a, rfl, ?_, a, rfl, hok⟩
    generalize ns.map D.int = NS at *
    simp only [C_law_pick_0, callO, consO, valO, bin2, rdP, rdA, List.getElem?_cons_succ, List.getElem?_cons_zero, Option.bind, Option.map, ad, h1, rvD_v, mu, ha])
  obtain ⟨as, rfl, hok⟩ := ats_of hkp
  have hal : as.length = m := by simpa using hkl
  refine ⟨ax, lv, as, ?_, hax, hlv, by intro z; rw [z] at hal; simp at hal; omega, by omega, hok⟩
  have q1 : shortO (some ((List.range m).map fun (k : Nat) => D.int (k : Int))) = some ((List.range m).map fun (k : Nat) => D.int (k : Int)) := short_le _ (by simp; omega)
  have hfor : forR (bName 4) L_law_pick_0 [.int 0, .int 1] [.val (.lst (ns.map D.int)), .val (.int (at_ : Int)), .val (.int c), .own [], .no] = .next [.val (.lst (ns.map D.int)), .val (.int (at_ : Int)), .val (.int c), .own [.int (ax : Int), .int (lv : Int)], .val (.int 1)] := by
    have t0 : L_law_pick_0 [.val (.lst (ns.map D.int)), .val (.int (at_ : Int)), .val (.int c), .own [], .val (.int 0)] = .next [.val (.lst (ns.map D.int)), .val (.int (at_ : Int)), .val (.int c), .own [.int (ax : Int)], .val (.int 0)] := t0
    have t1 : L_law_pick_0 [.val (.lst (ns.map D.int)), .val (.int (at_ : Int)), .val (.int c), .own [.int (ax : Int)], .val (.int 1)] = .next [.val (.lst (ns.map D.int)), .val (.int (at_ : Int)), .val (.int c), .own [.int (ax : Int), .int (lv : Int)], .val (.int 1)] := t1
    simp only [forR, bName, List.set_cons_succ, List.set_cons_zero, t0, t1]
  have x0 : ixD (.lst [D.int (ax : Int), .int (lv : Int)]) (.int 0) = some (.int (ax : Int)) := rfl
  have x1 : ixD (.lst [D.int (ax : Int), .int (lv : Int)]) (.int 1) = some (.int (lv : Int)) := rfl
  have hv0 : vals [] = some [] := rfl
  have hv1 : ∀ a : D, vals [Sl.val a] = some [a] := fun _ => rfl
  have hv3 : ∀ a b c : D, vals [Sl.val a, Sl.val b, Sl.val c] = some [a, b, c] := fun _ _ _ => rfl
  have hs0 : shortO (some ([] : List D)) = some [] := rfl
  have hs3 : ∀ a b c : D, shortO (some [a, b, c]) = some [a, b, c] := fun _ _ _ => short_le _ (by simp)
  generalize (List.range m).map (fun (k : Nat) => D.int (k : Int)) = RM at *
  generalize as.map aD = AA at *
  generalize ns.map D.int = NS at *
  refine fn_ret rfl ?_
  show S_law_pick_0 [.val (.lst NS), .val (.int (at_ : Int)), .no, .no, .no] = _
  have hin : ∀ c d e : Sl, compIn 1 [0, 1] [.val (.lst NS), .val (.int (at_ : Int)), c, d, e] = [.no, .val (.lst NS), .val (.int (at_ : Int))] := fun _ _ _ => rfl
  simp only [S_law_pick_0, P_law_pick_0, S_law_pick_1, P_law_pick_1, S_law_pick_2, P_law_pick_2, S_law_pick_3, P_law_pick_3, seqR, setR, setRF, forO, retO, bin2, rdP, rdA, callO, consO, valO, lstO, compF, hin, List.getElem?_cons_succ, List.getElem?_cons_zero, List.set_cons_succ, List.set_cons_zero, Option.bind, Option.map, hcell, rvD_v, hv0, hs0, hv1, hr2, hfor, x0, x1, n6, a1, hr, q1, hk, hv3, hs3]
theorem key_run (ns : List Int) (at_ : Nat) (s2 s6 s7 s8 : Sl) : ∀ (ks : List Nat) (as : List At) (s4 s5 : Sl), as.length + ks.length < 100 → (∀ k ∈ ks, k < 100) → (∀ a ∈ as, okT a ∧ a ≠ .non) →
    ∃ (as' : List At) (s4' s5' : Sl), forR (bName 4) L_law_0 (ks.map fun (k : Nat) => D.int (k : Int)) [.val (.lst (ns.map D.int)), .val (.int (at_ : Int)), s2, .own (as.map aD), s4, s5, s6, s7, s8] =
      .next [.val (.lst (ns.map D.int)), .val (.int (at_ : Int)), s2, .own (as'.map aD), s4', s5', s6, s7, s8] ∧ as'.length = as.length + ks.length ∧ ∀ a ∈ as', okT a ∧ a ≠ .non
  | [], as, s4, s5, _, _, h => ⟨as, s4, s5, rfl, rfl, h⟩
  | k :: ks, as, s4, s5, hz, hk, h => by
    simp only [List.length_cons] at hz
    have hk1 := hk k List.mem_cons_self
    have h1 := cell_at_eq (.val (.lst (ns.map D.int))) ns (.inl rfl) ((at_ : Int) + (k : Int)) (by omega)
    obtain ⟨a, ha, hok⟩ := thing_eq (ns.getD ((at_ : Int) + (k : Int)).toNat 0) (3 + (k : Int))
    generalize ns.getD ((at_ : Int) + (k : Int)).toNat 0 = c1 at *
    have a1 : addD (.int (at_ : Int)) (.int (k : Int)) = some (.int ((at_ : Int) + (k : Int))) := rfl
    have a2 : addD (.int 3) (.int (k : Int)) = some (.int (3 + (k : Int))) := rfl
    have sb : subD (.int (k : Int)) (.int 2) = some (.int ((k : Int) - 2)) := rfl
    have hi := isN_aD a
    obtain ⟨b, hb, hbo, hbn⟩ : ∃ b, iteO (notO (some (isN (aD a)))) (some (aD a)) (some (.int ((k : Int) - 2))) = some (aD b) ∧ okT b ∧ b ≠ .non := by
      rw [hi]
      by_cases hn : a = .non
      · rw [decide_eq_true hn]
        refine ⟨.int ((k : Int) - 2), rfl, ?_, fun z => by cases z⟩
        show ((k : Int) - 2).natAbs < 10 ^ 60
        exact Nat.lt_of_lt_of_le (show ((k : Int) - 2).natAbs < 200 by omega) (by decide)
      · rw [decide_eq_false hn]
        exact ⟨a, rfl, hok, hn⟩
    have hzz : (as.map aD).length < sizeLine := Nat.lt_of_lt_of_le (show (as.map aD).length < 1000 by simp; omega) (by decide)
    obtain ⟨as', s4', s5', e, e1, e2⟩ := key_run ns at_ s2 s6 s7 s8 ks (as ++ [b]) (.val (.int (k : Int))) (.val (aD a)) (by simp; omega) (fun j hj => hk j (List.mem_cons_of_mem _ hj)) (fun x hx => by
      rcases List.mem_append.mp hx with hx | hx
      · exact h x hx
      · simp at hx; subst hx; exact ⟨hbo, hbn⟩)
    refine ⟨as', s4', s5', ?_, by rw [e1]; simp; omega, e2⟩
    rw [List.map_append, List.map_cons, List.map_nil] at e
    have hbd : L_law_0 [.val (.lst (ns.map D.int)), .val (.int (at_ : Int)), s2, .own (as.map aD), .val (.int (k : Int)), s5, s6, s7, s8] = .next [.val (.lst (ns.map D.int)), .val (.int (at_ : Int)), s2, .own (as.map aD ++ [aD b]), .val (.int (k : Int)), .val (aD a), s6, s7, s8] := by
      generalize as.map aD = LV at *
      generalize ns.map D.int = NS at *
      generalize aD a = VA at *
      simp only [L_law_0, seqR, setR, appR, bin2, isNO, rdP, rdV, rdA, rdO, callO, consO, valO, List.getElem?_cons_succ, List.getElem?_cons_zero, List.set_cons_succ, List.set_cons_zero, Option.bind, Option.map, a1, h1, rvD_v, a2, ha, sb, hb, hzz, if_true]
    simp only [List.map_cons, forR, bName, List.set_cons_succ, List.set_cons_zero]
    rw [hbd]
    exact e
theorem show_cell_eq (is : List Int) (h4 : is.length ≤ 10) (hm : ∀ i ∈ is, i.natAbs < 10 ^ 60) : F_show_cell [.val (.tup (is.map D.int))] = some (.val (.str (Str.join " " ((is.map At.int).map tA)))) ∧ joinD " " [.lst (((is.map At.int).map tA).map D.str)] = some (.str (Str.join " " ((is.map At.int).map tA))) := by
  have ha : ∀ a ∈ is.map At.int, okT a := fun a ha => by
    obtain ⟨i, h1, rfl⟩ := List.mem_map.mp ha
    exact hm i h1
  have hj := join_eq " " (is.map At.int) (by decide +kernel) (by simp; omega) ha
  refine ⟨?_, hj⟩
  have hc : compL (bName 0) (fun _ => some true) C_show_cell_0 [.no] (is.map D.int) = some (((is.map At.int).map tA).map D.str) := by
    rw [compL_map D.int (fun i => D.str (iT i)) is fun i h1 => ⟨[.val (.int i)], rfl, by
      have : strA [.int i] = some (.str (iT i)) := by simp only [strA]; rw [if_pos (log_ok (hm i h1))]; rfl
      simp only [C_show_cell_0, bltO, consO, rdA, pks, pk, List.getElem?_cons_zero, Option.bind, this]⟩]
    rw [List.map_map, List.map_map]
    rfl
  have q1 : shortO (some (is.map D.int)) = some (is.map D.int) := short_le _ (by simp; omega)
  have hq : seqItems (.tup (is.map D.int)) = some (is.map D.int) := rfl
  generalize ((is.map At.int).map tA).map D.str = L at *
  generalize is.map D.int = M at *
  refine fn_ret rfl ?_
  show g_show_cell [.val (.tup M)] = _
  have hin : ∀ ρ : VE, compIn 1 [] ρ = [.no] := fun _ => rfl
  simp only [g_show_cell, seqR, retO, mtO, consO, valO, lstO, compF, hin, rdQ, pks, pk, List.getElem?_cons_zero, Option.bind, Option.map, hq, q1, hc, hj]
theorem sum_bnd (B : Int) : ∀ (xs : List Int), (∀ x ∈ xs, -B ≤ x ∧ x ≤ B) → -(B * (xs.length : Int)) ≤ xs.sum ∧ xs.sum ≤ B * (xs.length : Int)
  | [], _ => by simp
  | x :: xs, h => by
    have h1 := h x List.mem_cons_self
    have h2 := sum_bnd B xs fun y hy => h y (List.mem_cons_of_mem _ hy)
    rw [List.sum_cons, List.length_cons, Int.natCast_succ, Int.mul_add]
    omega
theorem div_bnd (i : Int) (k : Nat) (hk : k < 3) (B : Int) (hi : -B < i ∧ i < B) : -(B + 3) ≤ i / ((k : Int) + 3) - (k : Int) ∧ i / ((k : Int) + 3) - (k : Int) ≤ B + 3 := by
  have : k = 0 ∨ k = 1 ∨ k = 2 := by omega
  rcases this with rfl | rfl | rfl <;> constructor <;> simp <;> omega
theorem amount_bnd (c : Int) : -(10 ^ 59) < c / 3 % 10 ^ 59 * (1 - 2 * (c % 2)) ∧ c / 3 % 10 ^ 59 * (1 - 2 * (c % 2)) < 10 ^ 59 := by
  have h0 : 0 ≤ c / 3 % 10 ^ 59 := Int.emod_nonneg _ (by decide)
  have h1 : c / 3 % 10 ^ 59 < 10 ^ 59 := Int.emod_lt_of_pos _ (by decide)
  generalize c / 3 % 10 ^ 59 = v at *
  have : c % 2 = 0 ∨ c % 2 = 1 := by omega
  rcases this with h | h <;> rw [h] <;> simp <;> omega
theorem turn_eq (ns : List Int) (at_ : Nat) (s2 s3 s4 s5 s6 s7 s8 : Sl) : ∃ s2' s3' s4' s5' s6' s7' s8', L_law_1 [.val (.lst (ns.map D.int)), .val (.int (at_ : Int)), s2, s3, s4, s5, s6, s7, s8] = .next [.val (.lst (ns.map D.int)), .val (.int (at_ : Int)), s2', s3', s4', s5', s6', s7', s8'] := by
  have hcell := cell_at_eq (.val (.lst (ns.map D.int))) ns (.inl rfl) (at_ : Int) (by omega)
  generalize ns.getD (at_ : Int).toNat 0 = c at hcell
  obtain ⟨ax, lv, vs, hp, hax, hlv, hv0, hv6, hvo⟩ := pick_eq ns at_
  have hpg := pick_good_eq ax lv vs hax hlv hv0 hv6 hvo
  generalize D.tup [.int (ax : Int), .int (lv : Int), .lst (vs.map aD)] = PK at *
  obtain ⟨m, hm, hm1, hm4⟩ : ∃ m : Nat, 1 + (c + (at_ : Int)) % 4 = (m : Int) ∧ 1 ≤ m ∧ m ≤ 4 := ⟨(1 + (c + (at_ : Int)) % 4).toNat, by omega, by omega, by omega⟩
  have a1 : addD (.int c) (.int (at_ : Int)) = some (.int (c + (at_ : Int))) := rfl
  have n4 : modD (.int (c + (at_ : Int))) (.int 4) = some (.int ((c + (at_ : Int)) % 4)) := rfl
  have a2 : addD (.int 1) (.int ((c + (at_ : Int)) % 4)) = some (.int (m : Int)) := by rw [← hm]; rfl
  have hr := rng1_nat m (by omega)
  obtain ⟨as, s4', s5', ek, ekl, eko⟩ := key_run ns at_ (.val (.int c)) s6 s7 s8 (List.range m) [] s4 s5 (by simp; omega) (fun k hk => by have := List.mem_range.mp hk; omega) (fun _ h => nomatch h)
  have hal : as.length = m := by simpa using ekl
  have ek : forR (bName 4) L_law_0 ((List.range m).map fun (k : Nat) => D.int (k : Int)) [.val (.lst (ns.map D.int)), .val (.int (at_ : Int)), .val (.int c), .own [], s4, s5, s6, s7, s8] = .next [.val (.lst (ns.map D.int)), .val (.int (at_ : Int)), .val (.int c), .own (as.map aD), s4', s5', s6, s7, s8] := ek
  -- the amount
  have d3 : fdivD (.int c) (.int 3) = some (.int (c / 3)) := by
    show (if CDiv c 3 then some (D.int (c / 3)) else none) = _
    rw [if_pos (by constructor <;> decide)]
  have pw : powD (.int 10) (.int 59) = some (.int (10 ^ 59)) := by simp [CPow]
  have n59 := modD_pos (c / 3) (10 ^ 59) (by decide)
  have n2 : modD (.int c) (.int 2) = some (.int (c % 2)) := rfl
  have u1 : mulD (.int 2) (.int (c % 2)) = some (.int (2 * (c % 2))) := by
    show (if CMul 2 (c % 2) then some (D.int (2 * (c % 2))) else none) = _
    rw [if_pos (.inl (by decide))]
  have sb : subD (.int 1) (.int (2 * (c % 2))) = some (.int (1 - 2 * (c % 2))) := rfl
  have u2 : mulD (.int (c / 3 % 10 ^ 59)) (.int (1 - 2 * (c % 2))) = some (.int (c / 3 % 10 ^ 59 * (1 - 2 * (c % 2)))) := by
    show (if CMul (c / 3 % 10 ^ 59) (1 - 2 * (c % 2)) then some (D.int (c / 3 % 10 ^ 59 * (1 - 2 * (c % 2)))) else none) = _
    rw [if_pos (.inr ⟨by omega, by omega⟩)]
  have hab := amount_bnd c
  generalize c / 3 % 10 ^ 59 * (1 - 2 * (c % 2)) = i at *
  have hi60 : i.natAbs < 10 ^ 60 := by
    have : i.natAbs < 10 ^ 59 := by omega
    exact Nat.lt_of_lt_of_le this (by decide)
  have hrg := row_good_eq as (by intro z; rw [z] at hal; simp at hal; omega) (by omega) (fun a ha => (eko a ha).1) (fun a ha => (eko a ha).2) i hi60
  have tp : ∀ xs : List D, tupD [.lst xs] = some (.tup xs) := fun _ => rfl
  -- some amounts
  obtain ⟨q, hq, hq3⟩ : ∃ q : Nat, c % 4 = (q : Int) ∧ q ≤ 3 := ⟨(c % 4).toNat, by omega, by omega⟩
  have n44 : modD (.int c) (.int 4) = some (.int (q : Int)) := by rw [← hq]; rfl
  have hrq := rng1_nat q (by omega)
  have hc0 : compL (bName 0) (fun _ => some true) C_law_0 [.no, .val (.int i)] ((List.range q).map fun (k : Nat) => D.int (k : Int)) = some (((List.range q).map fun (k : Nat) => i / ((k : Int) + 3) - (k : Int)).map D.int) := by
    rw [compL_map (fun (k : Nat) => D.int (k : Int)) (fun (k : Nat) => D.int (i / ((k : Int) + 3) - (k : Int))) (List.range q) fun k _ => ⟨[.val (.int (k : Int)), .val (.int i)], rfl, by
      have b1 : addD (.int (k : Int)) (.int 3) = some (.int ((k : Int) + 3)) := rfl
      have b2 : fdivD (.int i) (.int ((k : Int) + 3)) = some (.int (i / ((k : Int) + 3))) := by
        have hk : k < 1000 := by have := List.mem_range.mp ‹_›; omega
        show (if CDiv i ((k : Int) + 3) then some (D.int (i / ((k : Int) + 3))) else none) = _
        rw [if_pos ⟨by omega, by omega⟩]
      have b3 : ∀ x y : Int, subD (.int x) (.int y) = some (.int (x - y)) := fun _ _ => rfl
      simp only [C_law_0, bin2, rdP, List.getElem?_cons_succ, List.getElem?_cons_zero, Option.bind, b1, b2, b3]⟩, List.map_map]
    rfl
  have hbd : ∀ x ∈ i :: (List.range q).map (fun (k : Nat) => i / ((k : Int) + 3) - (k : Int)), -(10 ^ 59 + 3 : Int) ≤ x ∧ x ≤ 10 ^ 59 + 3 := fun x hx => by
    rcases List.mem_cons.mp hx with rfl | hx
    · omega
    · obtain ⟨k, hk, rfl⟩ := List.mem_map.mp hx
      exact div_bnd i k (by have := List.mem_range.mp hk; omega) (10 ^ 59) hab
  have hsl : (i :: (List.range q).map (fun (k : Nat) => i / ((k : Int) + 3) - (k : Int))).length = q + 1 := by simp
  have hone : shortO (some [D.int i]) = some [D.int i] := short_le _ (by simp)
  have hv1 : ∀ a : D, vals [Sl.val a] = some [a] := fun _ => rfl
  have ad : addD (.lst [D.int i]) (.lst (((List.range q).map fun (k : Nat) => i / ((k : Int) + 3) - (k : Int)).map D.int)) = some (.lst ((i :: (List.range q).map (fun (k : Nat) => i / ((k : Int) + 3) - (k : Int))).map D.int)) := by
    rw [addD_lst _ _ (by simp; omega)]; rfl
  generalize hxs : (List.range q).map (fun (k : Nat) => i / ((k : Int) + 3) - (k : Int)) = xs at *
  -- its cell
  have l1 : lenD [.lst ((i :: xs).map D.int)] = some (.int ((q : Int) + 1)) := by
    show some (D.int (((i :: xs).map D.int).length : Int)) = _
    rw [List.length_map, hsl]; rfl
  have l2 : sumD [.lst ((i :: xs).map D.int)] = some (.int (i :: xs).sum) := by simp only [sumD, asIs_eq, Option.map]
  have mn := minF_mem xs i
  have mx := maxF_mem xs i
  have l3 : min1D [.lst ((i :: xs).map D.int)] = some (.int (xs.foldl (fun m y => if y < m then y else m) i)) := by simp only [min1D, asIs_eq, Option.bind, minL, Option.map]
  have l4 : max1D [.lst ((i :: xs).map D.int)] = some (.int (xs.foldl (fun m y => if y > m then y else m) i)) := by simp only [max1D, asIs_eq, Option.bind, maxL, Option.map]
  have hsum := sum_bnd (10 ^ 59 + 3) (i :: xs) hbd
  rw [hsl] at hsum
  have hmn := hbd _ mn.1
  have hmx := hbd _ mx.1
  generalize xs.foldl (fun m y => if y < m then y else m) i = mi at *
  generalize xs.foldl (fun m y => if y > m then y else m) i = ma at *
  generalize (i :: xs).sum = su at *
  have hall : ∀ j ∈ [(q : Int) + 1, su, mi, ma], j.natAbs < 10 ^ 60 := fun j hj => by
    have key : ∀ j : Int, -(4 * (10 ^ 59 + 3)) ≤ j → j ≤ 4 * (10 ^ 59 + 3) → j.natAbs < 10 ^ 60 := fun j h1 h2 => by
      have : j.natAbs ≤ 4 * (10 ^ 59 + 3) := by omega
      exact Nat.lt_of_le_of_lt this (by decide)
    simp only [List.mem_cons, List.not_mem_nil, or_false] at hj
    have hq' : (((q + 1 : Nat)) : Int) = 1 ∨ ((q + 1 : Nat) : Int) = 2 ∨ ((q + 1 : Nat) : Int) = 3 ∨ ((q + 1 : Nat) : Int) = 4 := by omega
    rcases hj with rfl | rfl | rfl | rfl
    · exact key _ (by omega) (by omega)
    · refine key _ ?_ ?_ <;> rcases hq' with h | h | h | h <;> rw [h] at hsum <;> omega
    · exact key _ (by omega) (by omega)
    · exact key _ (by omega) (by omega)
  obtain ⟨hsc, hjn⟩ := show_cell_eq [(q : Int) + 1, su, mi, ma] (by simp) hall
  have hcw : compL (bName 0) (fun _ => some true) C_law_1 [.no] ([(q : Int) + 1, su, mi, ma].map D.int) = some ((([(q : Int) + 1, su, mi, ma].map At.int).map tA).map D.str) := by
    have := (glueS " " (by decide +kernel) (C := C_law_1) (fun a h => hC1 rfl a h) ([(q : Int) + 1, su, mi, ma].map At.int) (by simp) (fun a ha => by
      obtain ⟨j, hj, rfl⟩ := List.mem_map.mp ha
      exact hall j hj)).1
    exact this
  have nn : ∀ z : Str, neO (.str z) (.str z) = some (.bl false) := fun z => by simp [okD]
  have nn := nn (Str.join " " (([(q : Int) + 1, su, mi, ma].map At.int).map tA))
  generalize (([(q : Int) + 1, su, mi, ma].map At.int).map tA).map D.str = TS at *
  generalize Str.join " " (([(q : Int) + 1, su, mi, ma].map At.int).map tA) = JJ at *
  have hm4' : [(q : Int) + 1, su, mi, ma].map D.int = [.int ((q : Int) + 1), .int su, .int mi, .int ma] := rfl
  rw [hm4'] at hsc hcw
  have hv4 : ∀ a b c d : D, vals [Sl.val a, Sl.val b, Sl.val c, Sl.val d] = some [a, b, c, d] := fun _ _ _ _ => rfl
  have hs4 : ∀ a b c d : D, shortO (some [a, b, c, d]) = some [a, b, c, d] := fun _ _ _ _ => short_le _ (by simp)
  have sq : ∀ xs : List D, seqItems (.lst xs) = some xs := fun _ => rfl
  have hv0 : vals [] = some [] := rfl
  have hs0 : shortO (some ([] : List D)) = some [] := rfl
  have qq : shortO (some ((List.range q).map fun (k : Nat) => D.int (k : Int))) = some ((List.range q).map fun (k : Nat) => D.int (k : Int)) := short_le _ (by simp; omega)
  refine ⟨.val (.int c), .own (as.map aD), s4', s5', .val (.int i), .val (.lst ((i :: xs).map D.int)), .val (.lst [.int ((q : Int) + 1), .int su, .int mi, .int ma]), ?_⟩
  generalize (List.range m).map (fun (k : Nat) => D.int (k : Int)) = RM at *
  generalize (List.range q).map (fun (k : Nat) => D.int (k : Int)) = RQ at *
  generalize as.map aD = AA at *
  generalize (i :: xs).map D.int = IX at *
  generalize xs.map D.int = XD at *
  generalize ns.map D.int = NS at *
  generalize (10 : Int) ^ 59 = tt at *
  have hinA : ∀ ρ : VE, compIn 1 [] ρ = [.no] := fun _ => rfl
  have hinB : ∀ a b c d e f h k : Sl, compIn 1 [6] [a, b, c, d, e, f, .val (.int i), h, k] = [.no, .val (.int i)] := fun _ _ _ _ _ _ _ _ => rfl
  simp only [L_law_1, seqR, iteR, setR, setRF, forO, notO, asB, truD, bin2, mtO, rdP, rdV, rdA, rdQ, callO, bltO, consO, valO, lstO, pks, pk, compF, hinA, hinB, List.getElem?_cons_succ, List.getElem?_cons_zero, List.set_cons_succ, List.set_cons_zero, Option.bind, Option.map, hp, rvD_v, hpg, Bool.not_true, hcell, hv0, hs0, a1, n4, a2, hv1, hr, ek, d3, pw, n59, n2, u1, sb, u2, tp, hrg, hone, n44, hrq, qq, hc0, ad, l1, l2, l3, l4, hv4, hs4, hsc, sq, hcw, hjn, nn]
theorem turns (ns : List Int) : ∀ (ks : List Nat) (s1 s2 s3 s4 s5 s6 s7 s8 : Sl), ∃ s1' s2' s3' s4' s5' s6' s7' s8', forR (bName 1) L_law_1 (ks.map fun (k : Nat) => D.int (k : Int)) [.val (.lst (ns.map D.int)), s1, s2, s3, s4, s5, s6, s7, s8] = .next [.val (.lst (ns.map D.int)), s1', s2', s3', s4', s5', s6', s7', s8']
  | [], s1, s2, s3, s4, s5, s6, s7, s8 => ⟨s1, s2, s3, s4, s5, s6, s7, s8, rfl⟩
  | k :: ks, s1, s2, s3, s4, s5, s6, s7, s8 => by
    obtain ⟨a, b, c, d, e, f, g, h⟩ := turn_eq ns k s2 s3 s4 s5 s6 s7 s8
    obtain ⟨a1, b1, c1, d1, e1, f1, g1, h1, i1⟩ := turns ns ks (.val (.int (k : Int))) a b c d e f g
    refine ⟨a1, b1, c1, d1, e1, f1, g1, h1, ?_⟩
    simp only [List.map_cons, forR, bName, List.set_cons_succ, List.set_cons_zero]
    rw [h]
    exact i1
theorem law_true (ns : List Int) (hl : ns.length ≤ 63) : F_law [.val (.lst (ns.map D.int))] = some (.val (.bl true)) := by
  have hcut : slD (.lst (ns.map D.int)) none (some 20) = some (.lst ((ns.take 20).map D.int)) := by
    show some (D.lst (cutD (ns.map D.int) none (some 20))) = _
    rw [cutD_map, cut_to _ _ (by omega)]; rfl
  have hlen : lenD [.lst ((ns.take 20).map D.int)] = some (.int ((ns.take 20).length : Int)) := by simp
  obtain ⟨n, hn, hn30⟩ : ∃ n : Nat, max2D [.int 1, .int ((ns.take 20).length : Int)] = some (.int (n : Int)) ∧ n ≤ 63 := by
    refine ⟨if (ns.take 20).length > 1 then (ns.take 20).length else 1, ?_, ?_⟩
    · show some (D.int (if ((ns.take 20).length : Int) > 1 then ((ns.take 20).length : Int) else 1)) = _
      congr 2
      split <;> split <;> omega
    · split
      · rw [List.length_take]; omega
      · omega
  have hr := rng1_nat n (by omega)
  have hv : vals [Sl.val (.int (n : Int))] = some [.int (n : Int)] := rfl
  obtain ⟨a, b, c, d, e, f, g, h, ht⟩ := turns ns (List.range n) .no .no .no .no .no .no .no .no
  generalize (List.range n).map (fun (k : Nat) => D.int (k : Int)) = R at *
  refine fn_ret rfl ?_
  show g_law [.val (.lst (ns.map D.int)), .no, .no, .no, .no, .no, .no, .no, .no] = _
  generalize ns.map D.int = NS at *
  simp only [g_law, seqR, forO, retO, sl3, asI, bltO, consO, valO, pks, pk, rdP, List.getElem?_cons_zero, Option.bind, Option.map, hcut, hlen, hn, hv, hr, ht]
def top (i : Nat) : Stmt := PySem.Challenge.pw_cubebook_k81_picks_rows_and_cells.main.body.getD i (.Pass ⟨0, 0, 0, 0⟩)
abbrev s_is_word : Stmt := top 7
abbrev s_show_value : Stmt := top 11
abbrev s_show_key : Stmt := top 12
abbrev s_show_pick : Stmt := top 13
abbrev s_show_row : Stmt := top 14
abbrev s_show_cell : Stmt := top 15
abbrev s_is_written_whole : Stmt := top 16
abbrev s_read_whole : Stmt := top 17
abbrev s_read_place : Stmt := top 18
abbrev s_read_value : Stmt := top 19
abbrev s_read_value_or_whole : Stmt := top 20
abbrev s_parts_of : Stmt := top 21
abbrev s_few_parts_of : Stmt := top 22
abbrev s_read_line : Stmt := top 23
abbrev s_read_pick : Stmt := top 24
abbrev s_read_row : Stmt := top 25
abbrev s_law_cell_at : Stmt := top 27
abbrev s_law_stream : Stmt := top 28
abbrev s_law_word : Stmt := top 29
abbrev s_law_thing : Stmt := top 30
abbrev s_law_written : Stmt := top 31
abbrev s_law_whole : Stmt := top 32
abbrev s_law_pick : Stmt := top 33
abbrev s_law_pick_good : Stmt := top 34
abbrev s_law_row_good : Stmt := top 35
abbrev s_law : Stmt := top 36
structure AD where
  a_is_word : Addr
  d_is_word : FuncData
  a_show_value : Addr
  d_show_value : FuncData
  a_show_key : Addr
  d_show_key : FuncData
  a_show_pick : Addr
  d_show_pick : FuncData
  a_show_row : Addr
  d_show_row : FuncData
  a_show_cell : Addr
  d_show_cell : FuncData
  a_is_written_whole : Addr
  d_is_written_whole : FuncData
  a_read_whole : Addr
  d_read_whole : FuncData
  a_read_place : Addr
  d_read_place : FuncData
  a_read_value : Addr
  d_read_value : FuncData
  a_read_value_or_whole : Addr
  d_read_value_or_whole : FuncData
  a_parts_of : Addr
  d_parts_of : FuncData
  a_few_parts_of : Addr
  d_few_parts_of : FuncData
  a_read_line : Addr
  d_read_line : FuncData
  a_read_pick : Addr
  d_read_pick : FuncData
  a_read_row : Addr
  d_read_row : FuncData
  a_law_cell_at : Addr
  d_law_cell_at : FuncData
  a_law_stream : Addr
  d_law_stream : FuncData
  a_law_word : Addr
  d_law_word : FuncData
  a_law_thing : Addr
  d_law_thing : FuncData
  a_law_written : Addr
  d_law_written : FuncData
  a_law_whole : Addr
  d_law_whole : FuncData
  a_law_pick : Addr
  d_law_pick : FuncData
  a_law_pick_good : Addr
  d_law_pick_good : FuncData
  a_law_row_good : Addr
  d_law_row_good : FuncData
  a_law : Addr
  d_law : FuncData
structure Tx (K : PySem.W.Frag) (mg : Str → Option Value) (d : AD) : Prop where
  m_is_word : mg "is_word" = some (.ref d.a_is_word)
  F_is_word : Fun K "is_word" "is_word" s_is_word d.a_is_word d.d_is_word
  b_is_word : Binds K d.d_is_word ["thing"] []
  m_show_value : mg "show_value" = some (.ref d.a_show_value)
  F_show_value : Fun K "show_value" "show_value" s_show_value d.a_show_value d.d_show_value
  b_show_value : Binds K d.d_show_value ["thing"] []
  m_show_key : mg "show_key" = some (.ref d.a_show_key)
  F_show_key : Fun K "show_key" "show_key" s_show_key d.a_show_key d.d_show_key
  b_show_key : Binds K d.d_show_key ["key"] []
  m_show_pick : mg "show_pick" = some (.ref d.a_show_pick)
  F_show_pick : Fun K "show_pick" "show_pick" s_show_pick d.a_show_pick d.d_show_pick
  b_show_pick : Binds K d.d_show_pick ["pick"] []
  m_show_row : mg "show_row" = some (.ref d.a_show_row)
  F_show_row : Fun K "show_row" "show_row" s_show_row d.a_show_row d.d_show_row
  b_show_row : Binds K d.d_show_row ["row"] []
  m_show_cell : mg "show_cell" = some (.ref d.a_show_cell)
  F_show_cell : Fun K "show_cell" "show_cell" s_show_cell d.a_show_cell d.d_show_cell
  b_show_cell : Binds K d.d_show_cell ["cell"] []
  m_is_written_whole : mg "is_written_whole" = some (.ref d.a_is_written_whole)
  F_is_written_whole : Fun K "is_written_whole" "is_written_whole" s_is_written_whole d.a_is_written_whole d.d_is_written_whole
  b_is_written_whole : Binds K d.d_is_written_whole ["text"] []
  m_read_whole : mg "read_whole" = some (.ref d.a_read_whole)
  F_read_whole : Fun K "read_whole" "read_whole" s_read_whole d.a_read_whole d.d_read_whole
  b_read_whole : Binds K d.d_read_whole ["text"] []
  m_read_place : mg "read_place" = some (.ref d.a_read_place)
  F_read_place : Fun K "read_place" "read_place" s_read_place d.a_read_place d.d_read_place
  b_read_place : Binds K d.d_read_place ["text"] []
  m_read_value : mg "read_value" = some (.ref d.a_read_value)
  F_read_value : Fun K "read_value" "read_value" s_read_value d.a_read_value d.d_read_value
  b_read_value : Binds K d.d_read_value ["text"] []
  m_read_value_or_whole : mg "read_value_or_whole" = some (.ref d.a_read_value_or_whole)
  F_read_value_or_whole : Fun K "read_value_or_whole" "read_value_or_whole" s_read_value_or_whole d.a_read_value_or_whole d.d_read_value_or_whole
  b_read_value_or_whole : Binds K d.d_read_value_or_whole ["text"] []
  m_parts_of : mg "parts_of" = some (.ref d.a_parts_of)
  F_parts_of : Fun K "parts_of" "parts_of" s_parts_of d.a_parts_of d.d_parts_of
  b_parts_of : Binds K d.d_parts_of ["text", "sign"] []
  m_few_parts_of : mg "few_parts_of" = some (.ref d.a_few_parts_of)
  F_few_parts_of : Fun K "few_parts_of" "few_parts_of" s_few_parts_of d.a_few_parts_of d.d_few_parts_of
  b_few_parts_of : Binds K d.d_few_parts_of ["text"] []
  m_read_line : mg "read_line" = some (.ref d.a_read_line)
  F_read_line : Fun K "read_line" "read_line" s_read_line d.a_read_line d.d_read_line
  b_read_line : Binds K d.d_read_line ["text"] []
  m_read_pick : mg "read_pick" = some (.ref d.a_read_pick)
  F_read_pick : Fun K "read_pick" "read_pick" s_read_pick d.a_read_pick d.d_read_pick
  b_read_pick : Binds K d.d_read_pick ["text"] []
  m_read_row : mg "read_row" = some (.ref d.a_read_row)
  F_read_row : Fun K "read_row" "read_row" s_read_row d.a_read_row d.d_read_row
  b_read_row : Binds K d.d_read_row ["text"] []
  m_law_cell_at : mg "_law_cell_at" = some (.ref d.a_law_cell_at)
  F_law_cell_at : Fun K "_law_cell_at" "_law_cell_at" s_law_cell_at d.a_law_cell_at d.d_law_cell_at
  b_law_cell_at : Binds K d.d_law_cell_at ["_law_script", "_law_k"] []
  m_law_stream : mg "_law_stream" = some (.ref d.a_law_stream)
  F_law_stream : Fun K "_law_stream" "_law_stream" s_law_stream d.a_law_stream d.d_law_stream
  b_law_stream : Binds K d.d_law_stream ["_law_cell", "_law_place"] []
  m_law_word : mg "_law_word" = some (.ref d.a_law_word)
  F_law_word : Fun K "_law_word" "_law_word" s_law_word d.a_law_word d.d_law_word
  b_law_word : Binds K d.d_law_word ["_law_cell", "_law_many"] []
  m_law_thing : mg "_law_thing" = some (.ref d.a_law_thing)
  F_law_thing : Fun K "_law_thing" "_law_thing" s_law_thing d.a_law_thing d.d_law_thing
  b_law_thing : Binds K d.d_law_thing ["_law_cell", "_law_place"] []
  m_law_written : mg "_law_written" = some (.ref d.a_law_written)
  F_law_written : Fun K "_law_written" "_law_written" s_law_written d.a_law_written d.d_law_written
  b_law_written : Binds K d.d_law_written ["_law_thing_here"] []
  m_law_whole : mg "_law_whole" = some (.ref d.a_law_whole)
  F_law_whole : Fun K "_law_whole" "_law_whole" s_law_whole d.a_law_whole d.d_law_whole
  b_law_whole : Binds K d.d_law_whole ["_law_found"] []
  m_law_pick : mg "_law_pick" = some (.ref d.a_law_pick)
  F_law_pick : Fun K "_law_pick" "_law_pick" s_law_pick d.a_law_pick d.d_law_pick
  b_law_pick : Binds K d.d_law_pick ["_law_script", "_law_at"] []
  m_law_pick_good : mg "_law_pick_good" = some (.ref d.a_law_pick_good)
  F_law_pick_good : Fun K "_law_pick_good" "_law_pick_good" s_law_pick_good d.a_law_pick_good d.d_law_pick_good
  b_law_pick_good : Binds K d.d_law_pick_good ["_law_pick_here"] []
  m_law_row_good : mg "_law_row_good" = some (.ref d.a_law_row_good)
  F_law_row_good : Fun K "_law_row_good" "_law_row_good" s_law_row_good d.a_law_row_good d.d_law_row_good
  b_law_row_good : Binds K d.d_law_row_good ["_law_key", "_law_amount"] []
  m_law : mg "law" = some (.ref d.a_law)
  F_law : Fun K "law" "law" s_law d.a_law d.d_law
  b_law : Binds K d.d_law ["_law_script"] []
  n_abs : mg "abs" = none
  n_all : mg "all" = none
  n_any : mg "any" = none
  n_bool : mg "bool" = none
  n_int : mg "int" = none
  n_isinstance : mg "isinstance" = none
  n_len : mg "len" = none
  n_list : mg "list" = none
  n_max : mg "max" = none
  n_min : mg "min" = none
  n_range : mg "range" = none
  n_str : mg "str" = none
  n_sum : mg "sum" = none
  n_tuple : mg "tuple" = none
  g_FIGURES : ∃ u, mg "FIGURES" = some u ∧ RelV (.str "0123456789") u
  g_LETTERS : ∃ u, mg "LETTERS" = some u ∧ RelV (.str "abcdefghijklmnopqrstuvwxyz") u
  g_LONGEST_WORD : ∃ u, mg "LONGEST_WORD" = some u ∧ RelV (.int (12)) u
  g_MOST_FIGURES : ∃ u, mg "MOST_FIGURES" = some u ∧ RelV (.int (60)) u
  g_MOST_PARTS : ∃ u, mg "MOST_PARTS" = some u ∧ RelV (.int (4)) u
section
variable {P : Program} {w : World} {K : PySem.W.Frag} {mg : Str → Option Value} {base : Heap} {d : AD}
theorem sc_is_word : FnScope ["thing"] ["thing"] (defScope s_is_word) := ⟨rfl, rfl, rfl, by decide +kernel, rfl, by decide +kernel, by decide +kernel⟩
theorem ok_is_word (T : Tx K mg d) : FnOk P w K mg base CX0 1 d.a_is_word d.d_is_word ["thing"] (spD K F_is_word) :=
  by
  refine fn_okJ (N := ["thing"]) (ps := ["thing"]) T.F_is_word sc_is_word (by decide) (g := g_is_word) (fun cdv A outer s H E M H0 hr => ?_)
  refine j_conv (j_vs_cons (j_vs_if (j_vt_not (j_vt_tru (j_p (j_ve_callB call_isD rc_is (by rfl) T.n_isinstance (by rfl) (j_va_cons (j_va 0) (j_va_cons (j_va_e (j_ve_tyn (n := "str") (by rfl) T.n_str (by rfl))) j_va_nil))))))
      (j_vs_cons (j_vs_ret j_ve_bl)
      j_vs_nil)
      j_vs_nil)
      (j_vs_cons (j_vs_if (j_pt (j_vw_or (j_vtc_lt hr.units (j_p (j_ve_callB call_len rc_len (by rfl) T.n_len (by rfl) (j_va_cons (j_va 0) j_va_nil))) (j_p j_ve_int)) (j_vw_or1 (j_vtc_gt hr.units (j_p (j_ve_callB call_len rc_len (by rfl) T.n_len (by rfl) (j_va_cons (j_va 0) j_va_nil))) (j_p (j_ve_glob (d := .int (12)) (by rfl) T.g_LONGEST_WORD (fun _ _ => by simp only [Den])))))))
      (j_vs_cons (j_vs_ret j_ve_bl)
      j_vs_nil)
      j_vs_nil)
      (j_vs_cons (j_vs_ret (j_ve_and (j_vc_in hr.units (j_p (j_ve_item (j_vp 0) (j_p j_ve_int) (fun _ _ => rfl))) (j_p (j_ve_glob (d := .str "abcdefghijklmnopqrstuvwxyz") (by rfl) T.g_LETTERS (fun _ _ => by simp only [Den])))) (j_ve_one (j_ve_callB (call_all rfl) rc_all (by rfl) T.n_all (by rfl) (j_va_cons (j_va_e (j_fd (j_vf_comp ["sign"] [] [] (show CompSc ["sign"] [] _ (defScope s_is_word) from ⟨rfl, by decide +kernel, by decide +kernel, by decide +kernel, by decide +kernel, by decide +kernel⟩) rfl rfl  (j_vi_seq (j_vq 0)) (fun _ _ _ _ _ _ _ => (j_vg_name (i := 0) (show ((["sign"] : List Str) ++ ([] : List Str)).Nodup by decide +kernel) rfl (Or.inl rfl))) (fun _ _ _ _ _ _ _ => j_vf_nil) (fun _ _ _ _ _ _ _ => (j_ve_or (j_vc_in hr.units (j_vp 0) (j_p (j_ve_glob (d := .str "abcdefghijklmnopqrstuvwxyz") (by rfl) T.g_LETTERS (fun _ _ => by simp only [Den])))) (j_ve_one (j_vc_in hr.units (j_vp 0) (j_p (j_ve_glob (d := .str "0123456789") (by rfl) T.g_FIGURES (fun _ _ => by simp only [Den]))))))) (by decide)))) j_va_nil)))))
      j_vs_nil))) ?_
  rfl
theorem sc_show_value : FnScope ["thing"] ["thing"] (defScope s_show_value) := ⟨rfl, rfl, rfl, by decide +kernel, rfl, by decide +kernel, by decide +kernel⟩
theorem ok_show_value (T : Tx K mg d) : FnOk P w K mg base CX0 1 d.a_show_value d.d_show_value ["thing"] (spD K F_show_value) :=
  by
  refine fn_okJ (N := ["thing"]) (ps := ["thing"]) T.F_show_value sc_show_value (by decide) (g := g_show_value) (fun cdv A outer s H E M H0 hr => ?_)
  refine j_conv (j_vs_cons (j_vs_ret (j_ve_ifExp (j_vt_isN (j_vp 0)) j_ve_str (j_ve_callTy call_strA rc_strA (by rfl) T.n_str (by rfl) (j_va_cons (j_va 0) j_va_nil))))
      j_vs_nil) ?_
  rfl
theorem sc_show_cell : FnScope ["cell"] ["cell"] (defScope s_show_cell) := ⟨rfl, rfl, rfl, by decide +kernel, rfl, by decide +kernel, by decide +kernel⟩
theorem ok_show_cell (T : Tx K mg d) : FnOk P w K mg base CX0 1 d.a_show_cell d.d_show_cell ["cell"] (spD K F_show_cell) :=
  by
  refine fn_okJ (N := ["cell"]) (ps := ["cell"]) T.F_show_cell sc_show_cell (by decide) (g := g_show_cell) (fun cdv A outer s H E M H0 hr => ?_)
  refine j_conv (j_vs_cons (j_vs_ret (j_ve_bm PySem.F.plainAttrs_str PySem.F.slot_str_join PySem.F.type_str_join mt_join rm_join (j_p j_ve_str) (j_va_cons (j_va_e (j_fd (j_vf_comp ["number"] [] [] (show CompSc ["number"] [] _ (defScope s_show_cell) from ⟨rfl, by decide +kernel, by decide +kernel, by decide +kernel, by decide +kernel, by decide +kernel⟩) rfl rfl  (j_vi_seq (j_vq 0)) (fun _ _ _ _ _ _ _ => (j_vg_name (i := 0) (show ((["number"] : List Str) ++ ([] : List Str)).Nodup by decide +kernel) rfl (Or.inl rfl))) (fun _ _ _ _ _ _ _ => j_vf_nil) (fun _ _ _ _ _ _ _ => (j_ve_callTy call_strA rc_strA (by rfl) T.n_str (by rfl) (j_va_cons (j_va 0) j_va_nil))) (by decide)))) j_va_nil)))
      j_vs_nil) ?_
  rfl
theorem sc_is_written_whole : FnScope ["text", "figures"] ["text"] (defScope s_is_written_whole) := ⟨rfl, rfl, rfl, by decide +kernel, rfl, by decide +kernel, by decide +kernel⟩
theorem ok_is_written_whole (T : Tx K mg d) : FnOk P w K mg base CX0 1 d.a_is_written_whole d.d_is_written_whole ["text"] (spD K F_is_written_whole) :=
  by
  refine fn_okJ (N := ["text", "figures"]) (ps := ["text"]) T.F_is_written_whole sc_is_written_whole (by decide) (g := g_is_written_whole) (fun cdv A outer s H E M H0 hr => ?_)
  refine j_conv (j_vs_cons (j_vs_set (i := 1) sc_is_written_whole.nd rfl (Or.inl rfl) (j_ve_ifExp (j_vt_tru (j_p (j_ve_bm PySem.F.plainAttrs_str PySem.F.slot_str_startswith PySem.F.type_str_startswith mt_startswith rm_startswith (j_vp 0) (j_va_cons (j_va_e j_ve_str) j_va_nil)))) (j_ve_slice (j_vp 0) (j_vo_some (j_p j_ve_int)) j_vo_none) (j_vv 0)))
      (j_vs_cons (j_vs_if (j_pt (j_vw_or (j_vtc_lt hr.units (j_p (j_ve_callB call_len rc_len (by rfl) T.n_len (by rfl) (j_va_cons (j_va 1) j_va_nil))) (j_p j_ve_int)) (j_vw_or1 (j_vtc_gt hr.units (j_p (j_ve_callB call_len rc_len (by rfl) T.n_len (by rfl) (j_va_cons (j_va 1) j_va_nil))) (j_p (j_ve_glob (d := .int (60)) (by rfl) T.g_MOST_FIGURES (fun _ _ => by simp only [Den])))))))
      (j_vs_cons (j_vs_ret j_ve_bl)
      j_vs_nil)
      j_vs_nil)
      (j_vs_cons (j_vs_if (j_pt (j_vw_and (j_vt_tru (j_p (j_ve_bm PySem.F.plainAttrs_str PySem.F.slot_str_startswith PySem.F.type_str_startswith mt_startswith rm_startswith (j_vp 1) (j_va_cons (j_va_e j_ve_str) j_va_nil)))) (j_vw_and1 (j_vtc_ne hr.units (j_vp 0) (j_p j_ve_str)))))
      (j_vs_cons (j_vs_ret j_ve_bl)
      j_vs_nil)
      j_vs_nil)
      (j_vs_cons (j_vs_ret (j_ve_callB (call_all rfl) rc_all (by rfl) T.n_all (by rfl) (j_va_cons (j_va_e (j_fd (j_vf_comp ["sign"] [] [] (show CompSc ["sign"] [] _ (defScope s_is_written_whole) from ⟨rfl, by decide +kernel, by decide +kernel, by decide +kernel, by decide +kernel, by decide +kernel⟩) rfl rfl  (j_vi_seq (j_vq 1)) (fun _ _ _ _ _ _ _ => (j_vg_name (i := 0) (show ((["sign"] : List Str) ++ ([] : List Str)).Nodup by decide +kernel) rfl (Or.inl rfl))) (fun _ _ _ _ _ _ _ => j_vf_nil) (fun _ _ _ _ _ _ _ => (j_vc_in hr.units (j_vp 0) (j_p (j_ve_glob (d := .str "0123456789") (by rfl) T.g_FIGURES (fun _ _ => by simp only [Den]))))) (by decide)))) j_va_nil)))
      j_vs_nil)))) ?_
  rfl
theorem sc_parts_of : FnScope ["text", "sign"] ["text", "sign"] (defScope s_parts_of) := ⟨rfl, rfl, rfl, by decide +kernel, rfl, by decide +kernel, by decide +kernel⟩
theorem ok_parts_of (T : Tx K mg d) : FnOk P w K mg base CX0 1 d.a_parts_of d.d_parts_of ["text", "sign"] (spD K F_parts_of) :=
  by
  refine fn_okJ (N := ["text", "sign"]) (ps := ["text", "sign"]) T.F_parts_of sc_parts_of (by decide) (g := g_parts_of) (fun cdv A outer s H E M H0 hr => ?_)
  refine j_conv (j_vs_cons (j_vs_if (j_vt_not (j_vt_tru (j_p (j_ve_callB call_isD rc_is (by rfl) T.n_isinstance (by rfl) (j_va_cons (j_va 0) (j_va_cons (j_va_e (j_ve_tyn (n := "str") (by rfl) T.n_str (by rfl))) j_va_nil))))))
      (j_vs_cons j_vs_never
      j_vs_nil)
      j_vs_nil)
      (j_vs_cons (j_vs_ret (j_ve_bm PySem.F.plainAttrs_str PySem.F.slot_str_split PySem.F.type_str_split mt_split rm_split (j_vp 0) (j_va_cons (j_va 1) j_va_nil)))
      j_vs_nil)) ?_
  rfl
theorem sc_law_cell_at : FnScope ["_law_script", "_law_k"] ["_law_script", "_law_k"] (defScope s_law_cell_at) := ⟨rfl, rfl, rfl, by decide +kernel, rfl, by decide +kernel, by decide +kernel⟩
theorem ok_law_cell_at (T : Tx K mg d) : FnOk P w K mg base CX0 1 d.a_law_cell_at d.d_law_cell_at ["_law_script", "_law_k"] (spD K F_law_cell_at) :=
  by
  refine fn_okJ (N := ["_law_script", "_law_k"]) (ps := ["_law_script", "_law_k"]) T.F_law_cell_at sc_law_cell_at (by decide) (g := g_law_cell_at) (fun cdv A outer s H E M H0 hr => ?_)
  refine j_conv (j_vs_cons (j_vs_if (j_vtc_lt hr.units (j_vp 1) (j_p (j_ve_callB call_len rc_len (by rfl) T.n_len (by rfl) (j_va_cons (j_va 0) j_va_nil))))
      (j_vs_cons (j_vs_ret (j_ve_item (j_vp 0) (j_vp 1) (fun _ _ => rfl)))
      j_vs_nil)
      j_vs_nil)
      (j_vs_cons (j_vs_ret j_ve_int)
      j_vs_nil)) ?_
  rfl
theorem sc_law_stream : FnScope ["_law_cell", "_law_place", "_law_number", "_law_some", "_law_k"] ["_law_cell", "_law_place"] (defScope s_law_stream) := ⟨rfl, rfl, rfl, by decide +kernel, rfl, by decide +kernel, by decide +kernel⟩
theorem ok_law_stream (T : Tx K mg d) : FnOk P w K mg base CX0 1 d.a_law_stream d.d_law_stream ["_law_cell", "_law_place"] (spD K F_law_stream) :=
  by
  refine fn_okJ (N := ["_law_cell", "_law_place", "_law_number", "_law_some", "_law_k"]) (ps := ["_law_cell", "_law_place"]) T.F_law_stream sc_law_stream (by decide) (g := g_law_stream) (fun cdv A outer s H E M H0 hr => ?_)
  refine j_conv (j_vs_cons (j_vs_set (i := 2) sc_law_stream.nd rfl (Or.inl rfl) (j_ve_mod (j_p (j_ve_add (j_vp 0) (j_p (j_ve_mul (j_p j_ve_int) (j_vp 1))))) (j_p j_ve_int)))
      (j_vs_cons (j_vs_setF (i := 3) sc_law_stream.nd rfl (Or.inl rfl) (j_vf_lst j_va_nil))
      (j_vs_cons (j_vs_for PassesOwn.never rfl (j_vi_range1 (by rfl) T.n_range (j_va_cons (j_va_e j_ve_int) j_va_nil)) (j_vg_name (i := 4) sc_law_stream.nd rfl (Or.inl rfl))
      (j_vs_cons (j_vs_set (i := 2) sc_law_stream.nd rfl (Or.inl rfl) (j_ve_mod (j_p (j_ve_add (j_p (j_ve_add (j_p (j_ve_mul (j_vp 2) (j_p j_ve_int))) (j_p (j_ve_mul (j_p j_ve_int) (j_vp 4))))) (j_p j_ve_int))) (j_p j_ve_int)))
      (j_vs_cons (j_vs_append (i := 3) rfl (by first | exact Or.inl rfl | exact Or.inr (Or.inl rfl)) (j_ve_fdiv (j_vp 2) (j_p j_ve_int)))
      j_vs_nil)))
      (j_vs_cons (j_vs_ret (j_ve_slice (j_vp 3) (j_vo_some (j_p j_ve_int)) j_vo_none))
      j_vs_nil)))) ?_
  rfl
theorem sc_law_word : FnScope ["_law_cell", "_law_many", "_law_signs", "_law_word_here", "_law_k"] ["_law_cell", "_law_many"] (defScope s_law_word) := ⟨rfl, rfl, rfl, by decide +kernel, rfl, by decide +kernel, by decide +kernel⟩
theorem ok_law_word (T : Tx K mg d) : FnOk P w K mg base CX0 1 d.a_law_word d.d_law_word ["_law_cell", "_law_many"] (spD K F_law_word) :=
  by
  refine fn_okJ (N := ["_law_cell", "_law_many", "_law_signs", "_law_word_here", "_law_k"]) (ps := ["_law_cell", "_law_many"]) T.F_law_word sc_law_word (by decide) (g := g_law_word) (fun cdv A outer s H E M H0 hr => ?_)
  refine j_conv (j_vs_cons (j_vs_set (i := 2) sc_law_word.nd rfl (Or.inl rfl) j_ve_str)
      (j_vs_cons (j_vs_set (i := 3) sc_law_word.nd rfl (Or.inl rfl) (j_ve_item (j_vp 2) (j_p (j_ve_mod (j_vp 0) (j_p j_ve_int))) (fun _ _ => rfl)))
      (j_vs_cons (j_vs_for PassesOwn.never rfl (j_vi_range1 (by rfl) T.n_range (j_va_cons (j_va_e (j_vv 1)) j_va_nil)) (j_vg_name (i := 4) sc_law_word.nd rfl (Or.inl rfl))
      (j_vs_cons (j_vs_set (i := 3) sc_law_word.nd rfl (Or.inl rfl) (j_ve_add (j_vp 3) (j_p (j_ve_item (j_vp 2) (j_p (j_ve_mod (j_p (j_ve_fdiv (j_vp 0) (j_p (j_ve_add (j_vp 4) (j_p j_ve_int))))) (j_p j_ve_int))) (fun _ _ => rfl)))))
      j_vs_nil))
      (j_vs_cons (j_vs_ret (j_vv 3))
      j_vs_nil)))) ?_
  rfl
theorem sc_law_written : FnScope ["_law_thing_here", "_law_figures", "_law_rest"] ["_law_thing_here"] (defScope s_law_written) := ⟨rfl, rfl, rfl, by decide +kernel, rfl, by decide +kernel, by decide +kernel⟩
theorem ok_law_written (T : Tx K mg d) : FnOk P w K mg base CX0 1 d.a_law_written d.d_law_written ["_law_thing_here"] (spD K F_law_written) :=
  by
  refine fn_okJ (N := ["_law_thing_here", "_law_figures", "_law_rest"]) (ps := ["_law_thing_here"]) T.F_law_written sc_law_written (by decide) (g := g_law_written) (fun cdv A outer s H E M H0 hr => ?_)
  refine j_conv (j_vs_cons (j_vs_if (j_vt_isN (j_vp 0))
      (j_vs_cons (j_vs_ret j_ve_str)
      j_vs_nil)
      j_vs_nil)
      (j_vs_cons (j_vs_if (j_vt_not (j_vt_tru (j_p (j_ve_callB call_isD rc_is (by rfl) T.n_isinstance (by rfl) (j_va_cons (j_va 0) (j_va_cons (j_va_e (j_ve_tyn (n := "int") (by rfl) T.n_int (by rfl))) j_va_nil))))))
      (j_vs_cons (j_vs_ret (j_vv 0))
      j_vs_nil)
      j_vs_nil)
      (j_vs_cons (j_vs_set (i := 1) sc_law_written.nd rfl (Or.inl rfl) j_ve_str)
      (j_vs_cons (j_vs_set (i := 2) sc_law_written.nd rfl (Or.inl rfl) (j_ve_callB call_abs rc_abs (by rfl) T.n_abs (by rfl) (j_va_cons (j_va 0) j_va_nil)))
      (j_vs_cons (j_vs_while (fun _ => 100) PassesOwn.never (j_pt (j_vw_or (j_vtc_gt hr.units (j_vp 2) (j_p j_ve_int)) (j_vw_or1 (j_vtc_eq hr.units (j_vp 1) (j_p j_ve_str)))))
      (j_vs_cons (j_vs_set (i := 1) sc_law_written.nd rfl (Or.inl rfl) (j_ve_add (j_p (j_ve_item (j_p j_ve_str) (j_p (j_ve_mod (j_vp 2) (j_p j_ve_int))) (fun _ _ => rfl))) (j_vp 1)))
      (j_vs_cons (j_vs_set (i := 2) sc_law_written.nd rfl (Or.inl rfl) (j_ve_fdiv (j_vp 2) (j_p j_ve_int)))
      j_vs_nil)))
      (j_vs_cons (j_vs_ret (j_ve_ifExp (j_vtc_ge hr.units (j_vp 0) (j_p j_ve_int)) (j_vv 1) (j_ve_add (j_p j_ve_str) (j_vp 1))))
      j_vs_nil)))))) ?_
  rfl
theorem sc_law_whole : FnScope ["_law_found"] ["_law_found"] (defScope s_law_whole) := ⟨rfl, rfl, rfl, by decide +kernel, rfl, by decide +kernel, by decide +kernel⟩
theorem ok_law_whole (T : Tx K mg d) : FnOk P w K mg base CX0 1 d.a_law_whole d.d_law_whole ["_law_found"] (spD K F_law_whole) :=
  by
  refine fn_okJ (N := ["_law_found"]) (ps := ["_law_found"]) T.F_law_whole sc_law_whole (by decide) (g := g_law_whole) (fun cdv A outer s H E M H0 hr => ?_)
  refine j_conv (j_vs_cons (j_vs_ret (j_ve_and (j_ve_callB call_isD rc_is (by rfl) T.n_isinstance (by rfl) (j_va_cons (j_va 0) (j_va_cons (j_va_e (j_ve_tyn (n := "int") (by rfl) T.n_int (by rfl))) j_va_nil))) (j_ve_one (j_ve_not (j_ve_callB call_isD rc_is (by rfl) T.n_isinstance (by rfl) (j_va_cons (j_va 0) (j_va_cons (j_va_e (j_ve_tyn (n := "bool") (by rfl) T.n_bool (by rfl))) j_va_nil)))))))
      j_vs_nil) ?_
  rfl
theorem sc_show_key : FnScope ["key"] ["key"] (defScope s_show_key) := ⟨rfl, rfl, rfl, by decide +kernel, rfl, by decide +kernel, by decide +kernel⟩
theorem ok_show_key (T : Tx K mg d) : FnOk P w K mg base CX0 2 d.a_show_key d.d_show_key ["key"] (spD K F_show_key) :=
  by
  refine fn_okJ (N := ["key"]) (ps := ["key"]) T.F_show_key sc_show_key (by decide) (g := g_show_key) (fun cdv A outer s H E M H0 hr => ?_)
  refine j_conv (j_vs_cons (j_vs_ret (j_ve_bm PySem.F.plainAttrs_str PySem.F.slot_str_join PySem.F.type_str_join mt_join rm_join (j_p j_ve_str) (j_va_cons (j_va_e (j_fd (j_vf_comp ["thing"] [] [] (show CompSc ["thing"] [] _ (defScope s_show_key) from ⟨rfl, by decide +kernel, by decide +kernel, by decide +kernel, by decide +kernel, by decide +kernel⟩) rfl rfl  (j_vi_seq (j_vq 0)) (fun _ _ _ _ _ _ _ => (j_vg_name (i := 0) (show ((["thing"] : List Str) ++ ([] : List Str)).Nodup by decide +kernel) rfl (Or.inl rfl))) (fun _ _ _ _ _ _ _ => j_vf_nil) (fun _ _ _ _ _ _ _ => (j_ve_call (ok_show_value T) (hr.mono (by decide)) (by rfl) T.m_show_value T.F_show_value.kp T.b_show_value (E := E0) pass0 (j_va_cons (j_va 0) j_va_nil))) (by decide)))) j_va_nil)))
      j_vs_nil) ?_
  rfl
theorem sc_show_pick : FnScope ["pick", "axis", "level", "values"] ["pick"] (defScope s_show_pick) := ⟨rfl, rfl, rfl, by decide +kernel, rfl, by decide +kernel, by decide +kernel⟩
theorem ok_show_pick (T : Tx K mg d) : FnOk P w K mg base CX0 2 d.a_show_pick d.d_show_pick ["pick"] (spD K F_show_pick) :=
  by
  refine fn_okJ (N := ["pick", "axis", "level", "values"]) (ps := ["pick"]) T.F_show_pick sc_show_pick (by decide) (g := g_show_pick) (fun cdv A outer s H E M H0 hr => ?_)
  refine j_conv (j_vs_cons (j_vs_set (i := 1) sc_show_pick.nd rfl (Or.inl rfl) (j_ve_item (j_vp 0) (j_p j_ve_int) (fun _ _ => rfl)))
      (j_vs_cons (j_vs_set (i := 2) sc_show_pick.nd rfl (Or.inl rfl) (j_ve_item (j_vp 0) (j_p j_ve_int) (fun _ _ => rfl)))
      (j_vs_cons (j_vs_set (i := 3) sc_show_pick.nd rfl (Or.inl rfl) (j_ve_bm PySem.F.plainAttrs_str PySem.F.slot_str_join PySem.F.type_str_join mt_join rm_join (j_p j_ve_str) (j_va_cons (j_va_e (j_fd (j_vf_comp ["thing"] [] [] (show CompSc ["thing"] [] _ (defScope s_show_pick) from ⟨rfl, by decide +kernel, by decide +kernel, by decide +kernel, by decide +kernel, by decide +kernel⟩) rfl rfl  (j_vi_seq (j_q (j_ve_item (j_vp 0) (j_p j_ve_int) (fun _ _ => rfl)))) (fun _ _ _ _ _ _ _ => (j_vg_name (i := 0) (show ((["thing"] : List Str) ++ ([] : List Str)).Nodup by decide +kernel) rfl (Or.inl rfl))) (fun _ _ _ _ _ _ _ => j_vf_nil) (fun _ _ _ _ _ _ _ => (j_ve_call (ok_show_value T) (hr.mono (by decide)) (by rfl) T.m_show_value T.F_show_value.kp T.b_show_value (E := E0) pass0 (j_va_cons (j_va 0) j_va_nil))) (by decide)))) j_va_nil)))
      (j_vs_cons (j_vs_ret (j_ve_fstr (j_pj_cons (j_ve_fmt (j_vp 1)) (j_pj_cons j_ve_str (j_pj_cons (j_ve_fmt (j_vp 2)) (j_pj_cons j_ve_str (j_pj_cons (j_ve_fmt (j_vp 3)) j_pj_nil)))))))
      j_vs_nil)))) ?_
  rfl
theorem sc_read_whole : FnScope ["text"] ["text"] (defScope s_read_whole) := ⟨rfl, rfl, rfl, by decide +kernel, rfl, by decide +kernel, by decide +kernel⟩
theorem ok_read_whole (T : Tx K mg d) : FnOk P w K mg base CX0 2 d.a_read_whole d.d_read_whole ["text"] (spD K F_read_whole) :=
  by
  refine fn_okJ (N := ["text"]) (ps := ["text"]) T.F_read_whole sc_read_whole (by decide) (g := g_read_whole) (fun cdv A outer s H E M H0 hr => ?_)
  refine j_conv (j_vs_cons (j_vs_if (j_pt (j_vw_or (j_vt_not (j_vt_tru (j_p (j_ve_callB call_isD rc_is (by rfl) T.n_isinstance (by rfl) (j_va_cons (j_va 0) (j_va_cons (j_va_e (j_ve_tyn (n := "str") (by rfl) T.n_str (by rfl))) j_va_nil)))))) (j_vw_or1 (j_vt_not (j_vt_tru (j_p (j_ve_call (ok_is_written_whole T) (hr.mono (by decide)) (by rfl) T.m_is_written_whole T.F_is_written_whole.kp T.b_is_written_whole (E := E0) pass0 (j_va_cons (j_va 0) j_va_nil))))))))
      (j_vs_cons j_vs_never
      j_vs_nil)
      j_vs_nil)
      (j_vs_cons (j_vs_ret (j_ve_callTy call_intT rc_intT (by rfl) T.n_int (by rfl) (j_va_cons (j_va 0) j_va_nil)))
      j_vs_nil)) ?_
  rfl
theorem sc_few_parts_of : FnScope ["text", "parts"] ["text"] (defScope s_few_parts_of) := ⟨rfl, rfl, rfl, by decide +kernel, rfl, by decide +kernel, by decide +kernel⟩
theorem ok_few_parts_of (T : Tx K mg d) : FnOk P w K mg base CX0 2 d.a_few_parts_of d.d_few_parts_of ["text"] (spD K F_few_parts_of) :=
  by
  refine fn_okJ (N := ["text", "parts"]) (ps := ["text"]) T.F_few_parts_of sc_few_parts_of (by decide) (g := g_few_parts_of) (fun cdv A outer s H E M H0 hr => ?_)
  refine j_conv (j_vs_cons (j_vs_set (i := 1) sc_few_parts_of.nd rfl (Or.inl rfl) (j_ve_call (ok_parts_of T) (hr.mono (by decide)) (by rfl) T.m_parts_of T.F_parts_of.kp T.b_parts_of (E := E0) pass0 (j_va_cons (j_va 0) (j_va_cons (j_va_e j_ve_str) j_va_nil))))
      (j_vs_cons (j_vs_if (j_vtc_gt hr.units (j_p (j_ve_callB call_len rc_len (by rfl) T.n_len (by rfl) (j_va_cons (j_va 1) j_va_nil))) (j_p (j_ve_glob (d := .int (4)) (by rfl) T.g_MOST_PARTS (fun _ _ => by simp only [Den]))))
      (j_vs_cons j_vs_never
      j_vs_nil)
      j_vs_nil)
      (j_vs_cons (j_vs_ret (j_vv 1))
      j_vs_nil))) ?_
  rfl
theorem sc_law_thing : FnScope ["_law_cell", "_law_place", "_law_s", "_law_way"] ["_law_cell", "_law_place"] (defScope s_law_thing) := ⟨rfl, rfl, rfl, by decide +kernel, rfl, by decide +kernel, by decide +kernel⟩
theorem ok_law_thing (T : Tx K mg d) : FnOk P w K mg base CX0 2 d.a_law_thing d.d_law_thing ["_law_cell", "_law_place"] (spD K F_law_thing) :=
  by
  refine fn_okJ (N := ["_law_cell", "_law_place", "_law_s", "_law_way"]) (ps := ["_law_cell", "_law_place"]) T.F_law_thing sc_law_thing (by decide) (g := g_law_thing) (fun cdv A outer s H E M H0 hr => ?_)
  refine j_conv (j_vs_cons (j_vs_set (i := 2) sc_law_thing.nd rfl (Or.inl rfl) (j_ve_call (ok_law_stream T) (hr.mono (by decide)) (by rfl) T.m_law_stream T.F_law_stream.kp T.b_law_stream (E := E0) pass0 (j_va_cons (j_va 0) (j_va_cons (j_va 1) j_va_nil))))
      (j_vs_cons (j_vs_set (i := 3) sc_law_thing.nd rfl (Or.inl rfl) (j_ve_mod (j_p (j_ve_item (j_vp 2) (j_p j_ve_int) (fun _ _ => rfl))) (j_p j_ve_int)))
      (j_vs_cons (j_vs_if (j_vtc_eq hr.units (j_vp 3) (j_p j_ve_int))
      (j_vs_cons (j_vs_ret j_ve_non)
      j_vs_nil)
      j_vs_nil)
      (j_vs_cons (j_vs_if (j_vtc_eq hr.units (j_vp 3) (j_p j_ve_int))
      (j_vs_cons (j_vs_ret (j_ve_mod (j_p (j_ve_fdiv (j_vp 0) (j_p j_ve_int))) (j_p (j_ve_pow (j_p j_ve_int) (j_p j_ve_int)))))
      j_vs_nil)
      j_vs_nil)
      (j_vs_cons (j_vs_if (j_vtc_eq hr.units (j_vp 3) (j_p j_ve_int))
      (j_vs_cons (j_vs_ret (j_ve_sub (j_p j_ve_int) (j_p (j_ve_mod (j_p (j_ve_fdiv (j_vp 0) (j_p j_ve_int))) (j_p (j_ve_pow (j_p j_ve_int) (j_p j_ve_int)))))))
      j_vs_nil)
      j_vs_nil)
      (j_vs_cons (j_vs_if (j_vtc_eq hr.units (j_vp 3) (j_p j_ve_int))
      (j_vs_cons (j_vs_ret (j_ve_sub (j_p (j_ve_mod (j_p (j_ve_item (j_vp 2) (j_p j_ve_int) (fun _ _ => rfl))) (j_p j_ve_int))) (j_p j_ve_int)))
      j_vs_nil)
      j_vs_nil)
      (j_vs_cons (j_vs_ret (j_ve_call (ok_law_word T) (hr.mono (by decide)) (by rfl) T.m_law_word T.F_law_word.kp T.b_law_word (E := E0) pass0 (j_va_cons (j_va_e (j_ve_add (j_vp 0) (j_p (j_ve_item (j_vp 2) (j_p j_ve_int) (fun _ _ => rfl))))) (j_va_cons (j_va_e (j_ve_mod (j_p (j_ve_item (j_vp 2) (j_p j_ve_int) (fun _ _ => rfl))) (j_p j_ve_int))) j_va_nil))))
      j_vs_nil))))))) ?_
  rfl
theorem sc_show_row : FnScope ["row", "key", "amount"] ["row"] (defScope s_show_row) := ⟨rfl, rfl, rfl, by decide +kernel, rfl, by decide +kernel, by decide +kernel⟩
theorem ok_show_row (T : Tx K mg d) : FnOk P w K mg base CX0 3 d.a_show_row d.d_show_row ["row"] (spD K F_show_row) :=
  by
  refine fn_okJ (N := ["row", "key", "amount"]) (ps := ["row"]) T.F_show_row sc_show_row (by decide) (g := g_show_row) (fun cdv A outer s H E M H0 hr => ?_)
  refine j_conv (j_vs_cons (j_vs_set (i := 1) sc_show_row.nd rfl (Or.inl rfl) (j_ve_call (ok_show_key T) (hr.mono (by decide)) (by rfl) T.m_show_key T.F_show_key.kp T.b_show_key (E := E0) pass0 (j_va_cons (j_va_e (j_ve_item (j_vp 0) (j_p j_ve_int) (fun _ _ => rfl))) j_va_nil)))
      (j_vs_cons (j_vs_set (i := 2) sc_show_row.nd rfl (Or.inl rfl) (j_ve_item (j_vp 0) (j_p j_ve_int) (fun _ _ => rfl)))
      (j_vs_cons (j_vs_ret (j_ve_fstr (j_pj_cons (j_ve_fmt (j_vp 1)) (j_pj_cons j_ve_str (j_pj_cons (j_ve_fmt (j_vp 2)) j_pj_nil)))))
      j_vs_nil))) ?_
  rfl
theorem sc_read_place : FnScope ["text", "number"] ["text"] (defScope s_read_place) := ⟨rfl, rfl, rfl, by decide +kernel, rfl, by decide +kernel, by decide +kernel⟩
theorem ok_read_place (T : Tx K mg d) : FnOk P w K mg base CX0 3 d.a_read_place d.d_read_place ["text"] (spD K F_read_place) :=
  by
  refine fn_okJ (N := ["text", "number"]) (ps := ["text"]) T.F_read_place sc_read_place (by decide) (g := g_read_place) (fun cdv A outer s H E M H0 hr => ?_)
  refine j_conv (j_vs_cons (j_vs_set (i := 1) sc_read_place.nd rfl (Or.inl rfl) (j_ve_call (ok_read_whole T) (hr.mono (by decide)) (by rfl) T.m_read_whole T.F_read_whole.kp T.b_read_whole (E := E0) pass0 (j_va_cons (j_va 0) j_va_nil)))
      (j_vs_cons (j_vs_if (j_vtc_lt hr.units (j_vp 1) (j_p j_ve_int))
      (j_vs_cons j_vs_never
      j_vs_nil)
      j_vs_nil)
      (j_vs_cons (j_vs_ret (j_vv 1))
      j_vs_nil))) ?_
  rfl
theorem sc_read_value : FnScope ["text"] ["text"] (defScope s_read_value) := ⟨rfl, rfl, rfl, by decide +kernel, rfl, by decide +kernel, by decide +kernel⟩
theorem ok_read_value (T : Tx K mg d) : FnOk P w K mg base CX0 3 d.a_read_value d.d_read_value ["text"] (spD K F_read_value) :=
  by
  refine fn_okJ (N := ["text"]) (ps := ["text"]) T.F_read_value sc_read_value (by decide) (g := g_read_value) (fun cdv A outer s H E M H0 hr => ?_)
  refine j_conv (j_vs_cons (j_vs_ret (j_ve_ifExp (j_vt_tru (j_p (j_ve_call (ok_is_word T) (hr.mono (by decide)) (by rfl) T.m_is_word T.F_is_word.kp T.b_is_word (E := E0) pass0 (j_va_cons (j_va 0) j_va_nil)))) (j_vv 0) (j_ve_call (ok_read_whole T) (hr.mono (by decide)) (by rfl) T.m_read_whole T.F_read_whole.kp T.b_read_whole (E := E0) pass0 (j_va_cons (j_va 0) j_va_nil))))
      j_vs_nil) ?_
  rfl
theorem sc_law_pick : FnScope ["_law_script", "_law_at", "_law_cell", "_law_numbers", "_law_k"] ["_law_script", "_law_at"] (defScope s_law_pick) := ⟨rfl, rfl, rfl, by decide +kernel, rfl, by decide +kernel, by decide +kernel⟩
theorem ok_law_pick (T : Tx K mg d) : FnOk P w K mg base CX0 3 d.a_law_pick d.d_law_pick ["_law_script", "_law_at"] (spD K F_law_pick) :=
  by
  refine fn_okJ (N := ["_law_script", "_law_at", "_law_cell", "_law_numbers", "_law_k"]) (ps := ["_law_script", "_law_at"]) T.F_law_pick sc_law_pick (by decide) (g := g_law_pick) (fun cdv A outer s H E M H0 hr => ?_)
  refine j_conv (j_vs_cons (j_vs_set (i := 2) sc_law_pick.nd rfl (Or.inl rfl) (j_ve_call (ok_law_cell_at T) (hr.mono (by decide)) (by rfl) T.m_law_cell_at T.F_law_cell_at.kp T.b_law_cell_at (E := E0) pass0 (j_va_cons (j_va 0) (j_va_cons (j_va 1) j_va_nil))))
      (j_vs_cons (j_vs_setF (i := 3) sc_law_pick.nd rfl (Or.inl rfl) (j_vf_lst j_va_nil))
      (j_vs_cons (j_vs_for PassesOwn.never rfl (j_vi_range1 (by rfl) T.n_range (j_va_cons (j_va_e j_ve_int) j_va_nil)) (j_vg_name (i := 4) sc_law_pick.nd rfl (Or.inl rfl))
      (j_vs_cons (j_vs_append (i := 3) rfl (by first | exact Or.inl rfl | exact Or.inr (Or.inl rfl)) (j_ve_mod (j_p (j_ve_fdiv (j_p (j_ve_call (ok_law_cell_at T) (hr.mono (by decide)) (by rfl) T.m_law_cell_at T.F_law_cell_at.kp T.b_law_cell_at (E := E0) pass0 (j_va_cons (j_va 0) (j_va_cons (j_va_e (j_ve_add (j_vp 1) (j_vp 4))) j_va_nil)))) (j_p (j_ve_add (j_p j_ve_int) (j_vp 4))))) (j_p (j_ve_item (j_p (j_fd (j_vf_lst (j_va_cons (j_va_e j_ve_int) (j_va_cons (j_va_e (j_ve_pow (j_p j_ve_int) (j_p j_ve_int))) j_va_nil))))) (j_p (j_ve_mod (j_p (j_ve_fdiv (j_vp 2) (j_p j_ve_int))) (j_p j_ve_int))) (fun _ _ => rfl)))))
      j_vs_nil))
      (j_vs_cons (j_vs_ret (j_ve_tup (j_va_cons (j_va_e (j_ve_item (j_vp 3) (j_p j_ve_int) (fun _ _ => rfl))) (j_va_cons (j_va_e (j_ve_item (j_vp 3) (j_p j_ve_int) (fun _ _ => rfl))) (j_va_cons (j_va_e (j_fd (j_vf_comp ["_law_k"] ["_law_script", "_law_at"] [0, 1] (show CompSc ["_law_k"] ["_law_script", "_law_at"] _ (defScope s_law_pick) from ⟨rfl, by decide +kernel, by decide +kernel, by decide +kernel, by decide +kernel, by decide +kernel⟩) rfl rfl  (j_vi_range1 (by rfl) T.n_range (j_va_cons (j_va_e (j_ve_add (j_p j_ve_int) (j_p (j_ve_mod (j_vp 2) (j_p j_ve_int))))) j_va_nil)) (fun _ _ _ _ _ _ _ => (j_vg_name (i := 0) (show ((["_law_k"] : List Str) ++ (["_law_script", "_law_at"] : List Str)).Nodup by decide +kernel) rfl (Or.inl rfl))) (fun _ _ _ _ _ _ _ => j_vf_nil) (fun _ _ _ _ _ _ _ => (j_ve_call (ok_law_thing T) (hr.mono (by decide)) (by rfl) T.m_law_thing T.F_law_thing.kp T.b_law_thing (E := E0) pass0 (j_va_cons (j_va_e (j_ve_call (ok_law_cell_at T) (hr.mono (by decide)) (by rfl) T.m_law_cell_at T.F_law_cell_at.kp T.b_law_cell_at (E := E0) pass0 (j_va_cons (j_va 1) (j_va_cons (j_va_e (j_ve_add (j_vp 2) (j_vp 0))) j_va_nil)))) (j_va_cons (j_va_e (j_ve_mul (j_p j_ve_int) (j_vp 0))) j_va_nil)))) (by decide)))) j_va_nil)))))
      j_vs_nil)))) ?_
  rfl
theorem sc_read_value_or_whole : FnScope ["text"] ["text"] (defScope s_read_value_or_whole) := ⟨rfl, rfl, rfl, by decide +kernel, rfl, by decide +kernel, by decide +kernel⟩
theorem ok_read_value_or_whole (T : Tx K mg d) : FnOk P w K mg base CX0 4 d.a_read_value_or_whole d.d_read_value_or_whole ["text"] (spD K F_read_value_or_whole) :=
  by
  refine fn_okJ (N := ["text"]) (ps := ["text"]) T.F_read_value_or_whole sc_read_value_or_whole (by decide) (g := g_read_value_or_whole) (fun cdv A outer s H E M H0 hr => ?_)
  refine j_conv (j_vs_cons (j_vs_ret (j_ve_ifExp (j_vtc_eq hr.units (j_vp 0) (j_p j_ve_str)) j_ve_non (j_ve_call (ok_read_value T) (hr.mono (by decide)) (by rfl) T.m_read_value T.F_read_value.kp T.b_read_value (E := E0) pass0 (j_va_cons (j_va 0) j_va_nil))))
      j_vs_nil) ?_
  rfl
theorem sc_read_line : FnScope ["text"] ["text"] (defScope s_read_line) := ⟨rfl, rfl, rfl, by decide +kernel, rfl, by decide +kernel, by decide +kernel⟩
theorem ok_read_line (T : Tx K mg d) : FnOk P w K mg base CX0 4 d.a_read_line d.d_read_line ["text"] (spD K F_read_line) :=
  by
  refine fn_okJ (N := ["text"]) (ps := ["text"]) T.F_read_line sc_read_line (by decide) (g := g_read_line) (fun cdv A outer s H E M H0 hr => ?_)
  refine j_conv (j_vs_cons (j_vs_ret (j_ve_callTy call_tuple_of rc_tuple (by rfl) T.n_tuple (by rfl) (j_va_cons (j_va_e (j_fd (j_vf_comp ["part"] [] [] (show CompSc ["part"] [] _ (defScope s_read_line) from ⟨rfl, by decide +kernel, by decide +kernel, by decide +kernel, by decide +kernel, by decide +kernel⟩) rfl rfl  (j_vi_seq (j_q (j_ve_call (ok_few_parts_of T) (hr.mono (by decide)) (by rfl) T.m_few_parts_of T.F_few_parts_of.kp T.b_few_parts_of (E := E0) pass0 (j_va_cons (j_va 0) j_va_nil)))) (fun _ _ _ _ _ _ _ => (j_vg_name (i := 0) (show ((["part"] : List Str) ++ ([] : List Str)).Nodup by decide +kernel) rfl (Or.inl rfl))) (fun _ _ _ _ _ _ _ => j_vf_nil) (fun _ _ _ _ _ _ _ => (j_ve_call (ok_read_value T) (hr.mono (by decide)) (by rfl) T.m_read_value T.F_read_value.kp T.b_read_value (E := E0) pass0 (j_va_cons (j_va 0) j_va_nil))) (by decide)))) j_va_nil)))
      j_vs_nil) ?_
  rfl
theorem sc_read_pick : FnScope ["text", "sides", "places", "values"] ["text"] (defScope s_read_pick) := ⟨rfl, rfl, rfl, by decide +kernel, rfl, by decide +kernel, by decide +kernel⟩
theorem ok_read_pick (T : Tx K mg d) : FnOk P w K mg base CX0 5 d.a_read_pick d.d_read_pick ["text"] (spD K F_read_pick) :=
  by
  refine fn_okJ (N := ["text", "sides", "places", "values"]) (ps := ["text"]) T.F_read_pick sc_read_pick (by decide) (g := g_read_pick) (fun cdv A outer s H E M H0 hr => ?_)
  refine j_conv (j_vs_cons (j_vs_set (i := 1) sc_read_pick.nd rfl (Or.inl rfl) (j_ve_call (ok_parts_of T) (hr.mono (by decide)) (by rfl) T.m_parts_of T.F_parts_of.kp T.b_parts_of (E := E0) pass0 (j_va_cons (j_va 0) (j_va_cons (j_va_e j_ve_str) j_va_nil))))
      (j_vs_cons (j_vs_set (i := 2) sc_read_pick.nd rfl (Or.inl rfl) (j_ve_bm PySem.F.plainAttrs_str PySem.F.slot_str_split PySem.F.type_str_split mt_split rm_split (j_p (j_ve_item (j_vp 1) (j_p j_ve_int) (fun _ _ => rfl))) (j_va_cons (j_va_e j_ve_str) j_va_nil)))
      (j_vs_cons (j_vs_if (j_pt (j_vw_or (j_vtc_ne hr.units (j_p (j_ve_callB call_len rc_len (by rfl) T.n_len (by rfl) (j_va_cons (j_va 1) j_va_nil))) (j_p j_ve_int)) (j_vw_or1 (j_vtc_ne hr.units (j_p (j_ve_callB call_len rc_len (by rfl) T.n_len (by rfl) (j_va_cons (j_va 2) j_va_nil))) (j_p j_ve_int)))))
      (j_vs_cons j_vs_never
      j_vs_nil)
      j_vs_nil)
      (j_vs_cons (j_vs_setCompV (i := 3) ["part"] [] [] (show CompSc ["part"] [] _ (defScope s_read_pick) from ⟨rfl, by decide +kernel, by decide +kernel, by decide +kernel, by decide +kernel, by decide +kernel⟩) rfl rfl sc_read_pick.nd rfl rfl (j_vi_seq (j_q (j_ve_bm PySem.F.plainAttrs_str PySem.F.slot_str_split PySem.F.type_str_split mt_split rm_split (j_p (j_ve_item (j_vp 1) (j_p j_ve_int) (fun _ _ => rfl))) (j_va_cons (j_va_e j_ve_str) j_va_nil)))) (fun _ _ _ _ _ _ _ => (j_vg_name (i := 0) (show ((["part"] : List Str) ++ ([] : List Str)).Nodup by decide +kernel) rfl (Or.inl rfl))) (fun _ _ _ _ _ _ _ => j_vf_nil) (fun _ _ _ _ _ _ _ => (j_ve_call (ok_read_value_or_whole T) (hr.mono (by decide)) (by rfl) T.m_read_value_or_whole T.F_read_value_or_whole.kp T.b_read_value_or_whole (E := E0) pass0 (j_va_cons (j_va 0) j_va_nil))) (by decide))
      (j_vs_cons (j_vs_ret (j_ve_tup (j_va_cons (j_va_e (j_ve_call (ok_read_place T) (hr.mono (by decide)) (by rfl) T.m_read_place T.F_read_place.kp T.b_read_place (E := E0) pass0 (j_va_cons (j_va_e (j_ve_item (j_vp 2) (j_p j_ve_int) (fun _ _ => rfl))) j_va_nil))) (j_va_cons (j_va_e (j_ve_call (ok_read_place T) (hr.mono (by decide)) (by rfl) T.m_read_place T.F_read_place.kp T.b_read_place (E := E0) pass0 (j_va_cons (j_va_e (j_ve_item (j_vp 2) (j_p j_ve_int) (fun _ _ => rfl))) j_va_nil))) (j_va_cons (j_va_e (j_vv 3)) j_va_nil)))))
      j_vs_nil))))) ?_
  rfl
theorem sc_read_row : FnScope ["text", "sides"] ["text"] (defScope s_read_row) := ⟨rfl, rfl, rfl, by decide +kernel, rfl, by decide +kernel, by decide +kernel⟩
theorem ok_read_row (T : Tx K mg d) : FnOk P w K mg base CX0 5 d.a_read_row d.d_read_row ["text"] (spD K F_read_row) :=
  by
  refine fn_okJ (N := ["text", "sides"]) (ps := ["text"]) T.F_read_row sc_read_row (by decide) (g := g_read_row) (fun cdv A outer s H E M H0 hr => ?_)
  refine j_conv (j_vs_cons (j_vs_set (i := 1) sc_read_row.nd rfl (Or.inl rfl) (j_ve_call (ok_parts_of T) (hr.mono (by decide)) (by rfl) T.m_parts_of T.F_parts_of.kp T.b_parts_of (E := E0) pass0 (j_va_cons (j_va 0) (j_va_cons (j_va_e j_ve_str) j_va_nil))))
      (j_vs_cons (j_vs_if (j_vtc_ne hr.units (j_p (j_ve_callB call_len rc_len (by rfl) T.n_len (by rfl) (j_va_cons (j_va 1) j_va_nil))) (j_p j_ve_int))
      (j_vs_cons j_vs_never
      j_vs_nil)
      j_vs_nil)
      (j_vs_cons (j_vs_ret (j_ve_tup (j_va_cons (j_va_e (j_ve_call (ok_read_line T) (hr.mono (by decide)) (by rfl) T.m_read_line T.F_read_line.kp T.b_read_line (E := E0) pass0 (j_va_cons (j_va_e (j_ve_item (j_vp 1) (j_p j_ve_int) (fun _ _ => rfl))) j_va_nil))) (j_va_cons (j_va_e (j_ve_call (ok_read_whole T) (hr.mono (by decide)) (by rfl) T.m_read_whole T.F_read_whole.kp T.b_read_whole (E := E0) pass0 (j_va_cons (j_va_e (j_ve_item (j_vp 1) (j_p j_ve_int) (fun _ _ => rfl))) j_va_nil))) j_va_nil))))
      j_vs_nil))) ?_
  rfl
theorem sc_law_pick_good : FnScope ["_law_pick_here", "_law_axis", "_law_level", "_law_values", "_law_text", "_law_found"] ["_law_pick_here"] (defScope s_law_pick_good) := ⟨rfl, rfl, rfl, by decide +kernel, rfl, by decide +kernel, by decide +kernel⟩
theorem ok_law_pick_good (T : Tx K mg d) : FnOk P w K mg base CX0 6 d.a_law_pick_good d.d_law_pick_good ["_law_pick_here"] (spD K F_law_pick_good) :=
  by
  refine fn_okJ (N := ["_law_pick_here", "_law_axis", "_law_level", "_law_values", "_law_text", "_law_found"]) (ps := ["_law_pick_here"]) T.F_law_pick_good sc_law_pick_good (by decide) (g := g_law_pick_good) (fun cdv A outer s H E M H0 hr => ?_)
  refine j_conv (j_vs_cons (j_vs_asg (j_vv 0) (j_vg_tup (n := 3) rfl (j_vgs_cons (j_vg_name (i := 1) sc_law_pick_good.nd rfl (Or.inl rfl)) (j_vgs_cons (j_vg_name (i := 2) sc_law_pick_good.nd rfl (Or.inl rfl)) (j_vgs_cons (j_vg_name (i := 3) sc_law_pick_good.nd rfl (Or.inl rfl)) j_vgs_nil)))))
      (j_vs_cons (j_vs_set (i := 4) sc_law_pick_good.nd rfl (Or.inl rfl) (j_ve_add (j_p (j_ve_add (j_p (j_ve_add (j_p (j_ve_add (j_p (j_ve_call (ok_law_written T) (hr.mono (by decide)) (by rfl) T.m_law_written T.F_law_written.kp T.b_law_written (E := E0) pass0 (j_va_cons (j_va 1) j_va_nil))) (j_p j_ve_str))) (j_p (j_ve_call (ok_law_written T) (hr.mono (by decide)) (by rfl) T.m_law_written T.F_law_written.kp T.b_law_written (E := E0) pass0 (j_va_cons (j_va 2) j_va_nil))))) (j_p j_ve_str))) (j_p (j_ve_bm PySem.F.plainAttrs_str PySem.F.slot_str_join PySem.F.type_str_join mt_join rm_join (j_p j_ve_str) (j_va_cons (j_va_e (j_fd (j_vf_comp ["_law_one"] [] [] (show CompSc ["_law_one"] [] _ (defScope s_law_pick_good) from ⟨rfl, by decide +kernel, by decide +kernel, by decide +kernel, by decide +kernel, by decide +kernel⟩) rfl rfl  (j_vi_seq (j_vq 3)) (fun _ _ _ _ _ _ _ => (j_vg_name (i := 0) (show ((["_law_one"] : List Str) ++ ([] : List Str)).Nodup by decide +kernel) rfl (Or.inl rfl))) (fun _ _ _ _ _ _ _ => j_vf_nil) (fun _ _ _ _ _ _ _ => (j_ve_call (ok_law_written T) (hr.mono (by decide)) (by rfl) T.m_law_written T.F_law_written.kp T.b_law_written (E := E0) pass0 (j_va_cons (j_va 0) j_va_nil))) (by decide)))) j_va_nil)))))
      (j_vs_cons (j_vs_if (j_pt (j_vw_or (j_vtc_ne hr.units (j_p (j_ve_call (ok_show_pick T) (hr.mono (by decide)) (by rfl) T.m_show_pick T.F_show_pick.kp T.b_show_pick (E := E0) pass0 (j_va_cons (j_va 0) j_va_nil))) (j_vp 4)) (j_vw_or1 (j_vtc_ne hr.units (j_p (j_ve_call (ok_show_pick T) (hr.mono (by decide)) (by rfl) T.m_show_pick T.F_show_pick.kp T.b_show_pick (E := E0) pass0 (j_va_cons (j_va_e (j_ve_tup (j_va_cons (j_va_e (j_vv 1)) (j_va_cons (j_va_e (j_vv 2)) (j_va_cons (j_va_e (j_ve_callTy call_tuple_of rc_tuple (by rfl) T.n_tuple (by rfl) (j_va_cons (j_va 3) j_va_nil))) j_va_nil))))) j_va_nil))) (j_vp 4)))))
      (j_vs_cons (j_vs_ret j_ve_bl)
      j_vs_nil)
      j_vs_nil)
      (j_vs_cons (j_vs_set (i := 5) sc_law_pick_good.nd rfl (Or.inl rfl) (j_ve_call (ok_read_pick T) (hr.mono (by decide)) (by rfl) T.m_read_pick T.F_read_pick.kp T.b_read_pick (E := E0) pass0 (j_va_cons (j_va 4) j_va_nil)))
      (j_vs_cons (j_vs_if (j_pt (j_vw_or (j_vt_not (j_vt_tru (j_p (j_ve_callB call_isD rc_is (by rfl) T.n_isinstance (by rfl) (j_va_cons (j_va 5) (j_va_cons (j_va_e (j_ve_tyn (n := "tuple") (by rfl) T.n_tuple (by rfl))) j_va_nil)))))) (j_vw_or (j_vtc_ne hr.units (j_p (j_ve_callB call_len rc_len (by rfl) T.n_len (by rfl) (j_va_cons (j_va 5) j_va_nil))) (j_p j_ve_int)) (j_vw_or (j_vt_not (j_vt_tru (j_p (j_ve_callB call_isD rc_is (by rfl) T.n_isinstance (by rfl) (j_va_cons (j_va_e (j_ve_item (j_vp 5) (j_p j_ve_int) (fun _ _ => rfl))) (j_va_cons (j_va_e (j_ve_tyn (n := "list") (by rfl) T.n_list (by rfl))) j_va_nil)))))) (j_vw_or1 (j_vtc_ne hr.units (j_vp 5) (j_vp 0)))))))
      (j_vs_cons (j_vs_ret j_ve_bl)
      j_vs_nil)
      j_vs_nil)
      (j_vs_cons (j_vs_ret (j_ve_not (j_ve_callB (call_any rfl) rc_any (by rfl) T.n_any (by rfl) (j_va_cons (j_va_e (j_fd (j_vf_comp ["_law_thing_here"] [] [] (show CompSc ["_law_thing_here"] [] _ (defScope s_law_pick_good) from ⟨rfl, by decide +kernel, by decide +kernel, by decide +kernel, by decide +kernel, by decide +kernel⟩) rfl rfl  (j_vi_seq (j_q (j_ve_add (j_p (j_fd (j_vf_lst (j_va_cons (j_va_e (j_ve_item (j_vp 5) (j_p j_ve_int) (fun _ _ => rfl))) (j_va_cons (j_va_e (j_ve_item (j_vp 5) (j_p j_ve_int) (fun _ _ => rfl))) j_va_nil))))) (j_p (j_ve_item (j_vp 5) (j_p j_ve_int) (fun _ _ => rfl)))))) (fun _ _ _ _ _ _ _ => (j_vg_name (i := 0) (show ((["_law_thing_here"] : List Str) ++ ([] : List Str)).Nodup by decide +kernel) rfl (Or.inl rfl))) (fun _ _ _ _ _ _ _ => j_vf_nil) (fun _ _ _ _ _ _ _ => (j_ve_callB call_isD rc_is (by rfl) T.n_isinstance (by rfl) (j_va_cons (j_va 0) (j_va_cons (j_va_e (j_ve_tyn (n := "bool") (by rfl) T.n_bool (by rfl))) j_va_nil)))) (by decide)))) j_va_nil))))
      j_vs_nil)))))) ?_
  rfl
theorem sc_law_row_good : FnScope ["_law_key", "_law_amount", "_law_text", "_law_found"] ["_law_key", "_law_amount"] (defScope s_law_row_good) := ⟨rfl, rfl, rfl, by decide +kernel, rfl, by decide +kernel, by decide +kernel⟩
theorem ok_law_row_good (T : Tx K mg d) : FnOk P w K mg base CX0 6 d.a_law_row_good d.d_law_row_good ["_law_key", "_law_amount"] (spD K F_law_row_good) :=
  by
  refine fn_okJ (N := ["_law_key", "_law_amount", "_law_text", "_law_found"]) (ps := ["_law_key", "_law_amount"]) T.F_law_row_good sc_law_row_good (by decide) (g := g_law_row_good) (fun cdv A outer s H E M H0 hr => ?_)
  refine j_conv (j_vs_cons (j_vs_set (i := 2) sc_law_row_good.nd rfl (Or.inl rfl) (j_ve_add (j_p (j_ve_add (j_p (j_ve_bm PySem.F.plainAttrs_str PySem.F.slot_str_join PySem.F.type_str_join mt_join rm_join (j_p j_ve_str) (j_va_cons (j_va_e (j_fd (j_vf_comp ["_law_thing_here"] [] [] (show CompSc ["_law_thing_here"] [] _ (defScope s_law_row_good) from ⟨rfl, by decide +kernel, by decide +kernel, by decide +kernel, by decide +kernel, by decide +kernel⟩) rfl rfl  (j_vi_seq (j_vq 0)) (fun _ _ _ _ _ _ _ => (j_vg_name (i := 0) (show ((["_law_thing_here"] : List Str) ++ ([] : List Str)).Nodup by decide +kernel) rfl (Or.inl rfl))) (fun _ _ _ _ _ _ _ => j_vf_nil) (fun _ _ _ _ _ _ _ => (j_ve_call (ok_law_written T) (hr.mono (by decide)) (by rfl) T.m_law_written T.F_law_written.kp T.b_law_written (E := E0) pass0 (j_va_cons (j_va 0) j_va_nil))) (by decide)))) j_va_nil))) (j_p j_ve_str))) (j_p (j_ve_call (ok_law_written T) (hr.mono (by decide)) (by rfl) T.m_law_written T.F_law_written.kp T.b_law_written (E := E0) pass0 (j_va_cons (j_va 1) j_va_nil)))))
      (j_vs_cons (j_vs_if (j_vtc_ne hr.units (j_p (j_ve_call (ok_show_row T) (hr.mono (by decide)) (by rfl) T.m_show_row T.F_show_row.kp T.b_show_row (E := E0) pass0 (j_va_cons (j_va_e (j_ve_tup (j_va_cons (j_va_e (j_vv 0)) (j_va_cons (j_va_e (j_vv 1)) j_va_nil)))) j_va_nil))) (j_vp 2))
      (j_vs_cons (j_vs_ret j_ve_bl)
      j_vs_nil)
      j_vs_nil)
      (j_vs_cons (j_vs_set (i := 3) sc_law_row_good.nd rfl (Or.inl rfl) (j_ve_call (ok_read_row T) (hr.mono (by decide)) (by rfl) T.m_read_row T.F_read_row.kp T.b_read_row (E := E0) pass0 (j_va_cons (j_va 2) j_va_nil)))
      (j_vs_cons (j_vs_if (j_pt (j_vw_or (j_vt_not (j_vt_tru (j_p (j_ve_callB call_isD rc_is (by rfl) T.n_isinstance (by rfl) (j_va_cons (j_va 3) (j_va_cons (j_va_e (j_ve_tyn (n := "tuple") (by rfl) T.n_tuple (by rfl))) j_va_nil)))))) (j_vw_or (j_vtc_ne hr.units (j_p (j_ve_callB call_len rc_len (by rfl) T.n_len (by rfl) (j_va_cons (j_va 3) j_va_nil))) (j_p j_ve_int)) (j_vw_or1 (j_vt_not (j_vt_tru (j_p (j_ve_callB call_isD rc_is (by rfl) T.n_isinstance (by rfl) (j_va_cons (j_va_e (j_ve_item (j_vp 3) (j_p j_ve_int) (fun _ _ => rfl))) (j_va_cons (j_va_e (j_ve_tyn (n := "tuple") (by rfl) T.n_tuple (by rfl))) j_va_nil))))))))))
      (j_vs_cons (j_vs_ret j_ve_bl)
      j_vs_nil)
      j_vs_nil)
      (j_vs_cons (j_vs_ret (j_ve_and (j_vc_eq hr.units (j_vp 3) (j_p (j_ve_tup (j_va_cons (j_va_e (j_vv 0)) (j_va_cons (j_va_e (j_vv 1)) j_va_nil))))) (j_ve_and (j_ve_call (ok_law_whole T) (hr.mono (by decide)) (by rfl) T.m_law_whole T.F_law_whole.kp T.b_law_whole (E := E0) pass0 (j_va_cons (j_va_e (j_ve_item (j_vp 3) (j_p j_ve_int) (fun _ _ => rfl))) j_va_nil)) (j_ve_one (j_ve_not (j_ve_callB (call_any rfl) rc_any (by rfl) T.n_any (by rfl) (j_va_cons (j_va_e (j_fd (j_vf_comp ["_law_one"] [] [] (show CompSc ["_law_one"] [] _ (defScope s_law_row_good) from ⟨rfl, by decide +kernel, by decide +kernel, by decide +kernel, by decide +kernel, by decide +kernel⟩) rfl rfl  (j_vi_seq (j_q (j_ve_item (j_vp 3) (j_p j_ve_int) (fun _ _ => rfl)))) (fun _ _ _ _ _ _ _ => (j_vg_name (i := 0) (show ((["_law_one"] : List Str) ++ ([] : List Str)).Nodup by decide +kernel) rfl (Or.inl rfl))) (fun _ _ _ _ _ _ _ => j_vf_nil) (fun _ _ _ _ _ _ _ => (j_ve_callB call_isD rc_is (by rfl) T.n_isinstance (by rfl) (j_va_cons (j_va 0) (j_va_cons (j_va_e (j_ve_tyn (n := "bool") (by rfl) T.n_bool (by rfl))) j_va_nil)))) (by decide)))) j_va_nil)))))))
      j_vs_nil))))) ?_
  rfl
theorem sc_law : FnScope ["_law_script", "_law_at", "_law_cell", "_law_key", "_law_k", "_law_thing_here", "_law_amount", "_law_some", "_law_numbers"] ["_law_script"] (defScope s_law) := ⟨rfl, rfl, rfl, by decide +kernel, rfl, by decide +kernel, by decide +kernel⟩
theorem ok_law (T : Tx K mg d) : FnOk P w K mg base CX0 7 d.a_law d.d_law ["_law_script"] (spD K F_law) :=
  by
  refine fn_okJ (N := ["_law_script", "_law_at", "_law_cell", "_law_key", "_law_k", "_law_thing_here", "_law_amount", "_law_some", "_law_numbers"]) (ps := ["_law_script"]) T.F_law sc_law (by decide) (g := g_law) (fun cdv A outer s H E M H0 hr => ?_)
  refine j_conv (j_vs_cons (j_vs_for PassesOwn.never rfl (j_vi_range1 (by rfl) T.n_range (j_va_cons (j_va_e (j_ve_callB (call_max2 rfl) rc_max2 (by rfl) T.n_max (by rfl) (j_va_cons (j_va_e j_ve_int) (j_va_cons (j_va_e (j_ve_callB call_len rc_len (by rfl) T.n_len (by rfl) (j_va_cons (j_va_e (j_ve_slice (j_vp 0) j_vo_none (j_vo_some (j_p j_ve_int)))) j_va_nil))) j_va_nil)))) j_va_nil)) (j_vg_name (i := 1) sc_law.nd rfl (Or.inl rfl))
      (j_vs_cons (j_vs_if (j_vt_not (j_vt_tru (j_p (j_ve_call (ok_law_pick_good T) (hr.mono (by decide)) (by rfl) T.m_law_pick_good T.F_law_pick_good.kp T.b_law_pick_good (E := E0) pass0 (j_va_cons (j_va_e (j_ve_call (ok_law_pick T) (hr.mono (by decide)) (by rfl) T.m_law_pick T.F_law_pick.kp T.b_law_pick (E := E0) pass0 (j_va_cons (j_va 0) (j_va_cons (j_va 1) j_va_nil)))) j_va_nil)))))
      (j_vs_cons (j_vs_ret j_ve_bl)
      j_vs_nil)
      j_vs_nil)
      (j_vs_cons (j_vs_set (i := 2) sc_law.nd rfl (Or.inl rfl) (j_ve_call (ok_law_cell_at T) (hr.mono (by decide)) (by rfl) T.m_law_cell_at T.F_law_cell_at.kp T.b_law_cell_at (E := E0) pass0 (j_va_cons (j_va 0) (j_va_cons (j_va 1) j_va_nil))))
      (j_vs_cons (j_vs_setF (i := 3) sc_law.nd rfl (Or.inl rfl) (j_vf_lst j_va_nil))
      (j_vs_cons (j_vs_for PassesOwn.never rfl (j_vi_range1 (by rfl) T.n_range (j_va_cons (j_va_e (j_ve_add (j_p j_ve_int) (j_p (j_ve_mod (j_p (j_ve_add (j_vp 2) (j_vp 1))) (j_p j_ve_int))))) j_va_nil)) (j_vg_name (i := 4) sc_law.nd rfl (Or.inl rfl))
      (j_vs_cons (j_vs_set (i := 5) sc_law.nd rfl (Or.inl rfl) (j_ve_call (ok_law_thing T) (hr.mono (by decide)) (by rfl) T.m_law_thing T.F_law_thing.kp T.b_law_thing (E := E0) pass0 (j_va_cons (j_va_e (j_ve_call (ok_law_cell_at T) (hr.mono (by decide)) (by rfl) T.m_law_cell_at T.F_law_cell_at.kp T.b_law_cell_at (E := E0) pass0 (j_va_cons (j_va 0) (j_va_cons (j_va_e (j_ve_add (j_vp 1) (j_vp 4))) j_va_nil)))) (j_va_cons (j_va_e (j_ve_add (j_p j_ve_int) (j_vp 4))) j_va_nil))))
      (j_vs_cons (j_vs_append (i := 3) rfl (by first | exact Or.inl rfl | exact Or.inr (Or.inl rfl)) (j_ve_ifExp (j_vt_notN (j_vp 5)) (j_vv 5) (j_ve_sub (j_vp 4) (j_p j_ve_int))))
      j_vs_nil)))
      (j_vs_cons (j_vs_set (i := 6) sc_law.nd rfl (Or.inr rfl) (j_ve_mul (j_p (j_ve_mod (j_p (j_ve_fdiv (j_vp 2) (j_p j_ve_int))) (j_p (j_ve_pow (j_p j_ve_int) (j_p j_ve_int))))) (j_p (j_ve_sub (j_p j_ve_int) (j_p (j_ve_mul (j_p j_ve_int) (j_p (j_ve_mod (j_vp 2) (j_p j_ve_int)))))))))
      (j_vs_cons (j_vs_if (j_vt_not (j_vt_tru (j_p (j_ve_call (ok_law_row_good T) (hr.mono (by decide)) (by rfl) T.m_law_row_good T.F_law_row_good.kp T.b_law_row_good (E := E0) pass0 (j_va_cons (j_va_e (j_ve_callTy call_tuple_of rc_tuple (by rfl) T.n_tuple (by rfl) (j_va_cons (j_va 3) j_va_nil))) (j_va_cons (j_va 6) j_va_nil))))))
      (j_vs_cons (j_vs_ret j_ve_bl)
      j_vs_nil)
      j_vs_nil)
      (j_vs_cons (j_vs_set (i := 7) sc_law.nd rfl (Or.inl rfl) (j_ve_add (j_p (j_fd (j_vf_lst (j_va_cons (j_va_e (j_vv 6)) j_va_nil)))) (j_p (j_fd (j_vf_comp ["_law_k"] ["_law_amount"] [6] (show CompSc ["_law_k"] ["_law_amount"] _ (defScope s_law) from ⟨rfl, by decide +kernel, by decide +kernel, by decide +kernel, by decide +kernel, by decide +kernel⟩) rfl rfl  (j_vi_range1 (by rfl) T.n_range (j_va_cons (j_va_e (j_ve_mod (j_vp 2) (j_p j_ve_int))) j_va_nil)) (fun _ _ _ _ _ _ _ => (j_vg_name (i := 0) (show ((["_law_k"] : List Str) ++ (["_law_amount"] : List Str)).Nodup by decide +kernel) rfl (Or.inl rfl))) (fun _ _ _ _ _ _ _ => j_vf_nil) (fun _ _ _ _ _ _ _ => (j_ve_sub (j_p (j_ve_fdiv (j_vp 1) (j_p (j_ve_add (j_vp 0) (j_p j_ve_int))))) (j_vp 0))) (by decide))))))
      (j_vs_cons (j_vs_set (i := 8) sc_law.nd rfl (Or.inl rfl) (j_fd (j_vf_lst (j_va_cons (j_va_e (j_ve_callB call_len rc_len (by rfl) T.n_len (by rfl) (j_va_cons (j_va 7) j_va_nil))) (j_va_cons (j_va_e (j_ve_callB (call_sumI rfl) rc_sum (by rfl) T.n_sum (by rfl) (j_va_cons (j_va 7) j_va_nil))) (j_va_cons (j_va_e (j_ve_callB (call_minI rfl) rc_min1 (by rfl) T.n_min (by rfl) (j_va_cons (j_va 7) j_va_nil))) (j_va_cons (j_va_e (j_ve_callB (call_maxI rfl) rc_max1 (by rfl) T.n_max (by rfl) (j_va_cons (j_va 7) j_va_nil))) j_va_nil)))))))
      (j_vs_cons (j_vs_if (j_vtc_ne hr.units (j_p (j_ve_call (ok_show_cell T) (hr.mono (by decide)) (by rfl) T.m_show_cell T.F_show_cell.kp T.b_show_cell (E := E0) pass0 (j_va_cons (j_va_e (j_ve_callTy call_tuple_of rc_tuple (by rfl) T.n_tuple (by rfl) (j_va_cons (j_va 8) j_va_nil))) j_va_nil))) (j_p (j_ve_bm PySem.F.plainAttrs_str PySem.F.slot_str_join PySem.F.type_str_join mt_join rm_join (j_p j_ve_str) (j_va_cons (j_va_e (j_fd (j_vf_comp ["_law_number"] [] [] (show CompSc ["_law_number"] [] _ (defScope s_law) from ⟨rfl, by decide +kernel, by decide +kernel, by decide +kernel, by decide +kernel, by decide +kernel⟩) rfl rfl  (j_vi_seq (j_vq 8)) (fun _ _ _ _ _ _ _ => (j_vg_name (i := 0) (show ((["_law_number"] : List Str) ++ ([] : List Str)).Nodup by decide +kernel) rfl (Or.inl rfl))) (fun _ _ _ _ _ _ _ => j_vf_nil) (fun _ _ _ _ _ _ _ => (j_ve_call (ok_law_written T) (hr.mono (by decide)) (by rfl) T.m_law_written T.F_law_written.kp T.b_law_written (E := E0) pass0 (j_va_cons (j_va 0) j_va_nil))) (by decide)))) j_va_nil))))
      (j_vs_cons (j_vs_ret j_ve_bl)
      j_vs_nil)
      j_vs_nil)
      j_vs_nil))))))))))
      (j_vs_cons (j_vs_ret j_ve_bl)
      j_vs_nil)) ?_
  rfl
end
theorem all_mk {l : PySem.W.OpenLaw} {w : World} {K : PySem.W.Frag} {h : Heap} {mg : Str → Option Value} {fa : Addr} (X : K.In h) (G : h.Ns mainGlobals mg) (hfa : mg "law" = some (.ref fa))
    {a_is_word : Addr} {od_is_word an_is_word : Option Addr} {sl_is_word : Array (Option Value)} {oc_is_word kV_is_word dc_is_word pm_is_word cd_is_word ct_is_word : Value}
    {a_show_value : Addr} {od_show_value an_show_value : Option Addr} {sl_show_value : Array (Option Value)} {oc_show_value kV_show_value dc_show_value pm_show_value cd_show_value ct_show_value : Value}
    {a_show_key : Addr} {od_show_key an_show_key : Option Addr} {sl_show_key : Array (Option Value)} {oc_show_key kV_show_key dc_show_key pm_show_key cd_show_key ct_show_key : Value}
    {a_show_pick : Addr} {od_show_pick an_show_pick : Option Addr} {sl_show_pick : Array (Option Value)} {oc_show_pick kV_show_pick dc_show_pick pm_show_pick cd_show_pick ct_show_pick : Value}
    {a_show_row : Addr} {od_show_row an_show_row : Option Addr} {sl_show_row : Array (Option Value)} {oc_show_row kV_show_row dc_show_row pm_show_row cd_show_row ct_show_row : Value}
    {a_show_cell : Addr} {od_show_cell an_show_cell : Option Addr} {sl_show_cell : Array (Option Value)} {oc_show_cell kV_show_cell dc_show_cell pm_show_cell cd_show_cell ct_show_cell : Value}
    {a_is_written_whole : Addr} {od_is_written_whole an_is_written_whole : Option Addr} {sl_is_written_whole : Array (Option Value)} {oc_is_written_whole kV_is_written_whole dc_is_written_whole pm_is_written_whole cd_is_written_whole ct_is_written_whole : Value}
    {a_read_whole : Addr} {od_read_whole an_read_whole : Option Addr} {sl_read_whole : Array (Option Value)} {oc_read_whole kV_read_whole dc_read_whole pm_read_whole cd_read_whole ct_read_whole : Value}
    {a_read_place : Addr} {od_read_place an_read_place : Option Addr} {sl_read_place : Array (Option Value)} {oc_read_place kV_read_place dc_read_place pm_read_place cd_read_place ct_read_place : Value}
    {a_read_value : Addr} {od_read_value an_read_value : Option Addr} {sl_read_value : Array (Option Value)} {oc_read_value kV_read_value dc_read_value pm_read_value cd_read_value ct_read_value : Value}
    {a_read_value_or_whole : Addr} {od_read_value_or_whole an_read_value_or_whole : Option Addr} {sl_read_value_or_whole : Array (Option Value)} {oc_read_value_or_whole kV_read_value_or_whole dc_read_value_or_whole pm_read_value_or_whole cd_read_value_or_whole ct_read_value_or_whole : Value}
    {a_parts_of : Addr} {od_parts_of an_parts_of : Option Addr} {sl_parts_of : Array (Option Value)} {oc_parts_of kV_parts_of dc_parts_of pm_parts_of cd_parts_of ct_parts_of : Value}
    {a_few_parts_of : Addr} {od_few_parts_of an_few_parts_of : Option Addr} {sl_few_parts_of : Array (Option Value)} {oc_few_parts_of kV_few_parts_of dc_few_parts_of pm_few_parts_of cd_few_parts_of ct_few_parts_of : Value}
    {a_read_line : Addr} {od_read_line an_read_line : Option Addr} {sl_read_line : Array (Option Value)} {oc_read_line kV_read_line dc_read_line pm_read_line cd_read_line ct_read_line : Value}
    {a_read_pick : Addr} {od_read_pick an_read_pick : Option Addr} {sl_read_pick : Array (Option Value)} {oc_read_pick kV_read_pick dc_read_pick pm_read_pick cd_read_pick ct_read_pick : Value}
    {a_read_row : Addr} {od_read_row an_read_row : Option Addr} {sl_read_row : Array (Option Value)} {oc_read_row kV_read_row dc_read_row pm_read_row cd_read_row ct_read_row : Value}
    {a_law_cell_at : Addr} {od_law_cell_at an_law_cell_at : Option Addr} {sl_law_cell_at : Array (Option Value)} {oc_law_cell_at kV_law_cell_at dc_law_cell_at pm_law_cell_at cd_law_cell_at ct_law_cell_at : Value}
    {a_law_stream : Addr} {od_law_stream an_law_stream : Option Addr} {sl_law_stream : Array (Option Value)} {oc_law_stream kV_law_stream dc_law_stream pm_law_stream cd_law_stream ct_law_stream : Value}
    {a_law_word : Addr} {od_law_word an_law_word : Option Addr} {sl_law_word : Array (Option Value)} {oc_law_word kV_law_word dc_law_word pm_law_word cd_law_word ct_law_word : Value}
    {a_law_thing : Addr} {od_law_thing an_law_thing : Option Addr} {sl_law_thing : Array (Option Value)} {oc_law_thing kV_law_thing dc_law_thing pm_law_thing cd_law_thing ct_law_thing : Value}
    {a_law_written : Addr} {od_law_written an_law_written : Option Addr} {sl_law_written : Array (Option Value)} {oc_law_written kV_law_written dc_law_written pm_law_written cd_law_written ct_law_written : Value}
    {a_law_whole : Addr} {od_law_whole an_law_whole : Option Addr} {sl_law_whole : Array (Option Value)} {oc_law_whole kV_law_whole dc_law_whole pm_law_whole cd_law_whole ct_law_whole : Value}
    {a_law_pick : Addr} {od_law_pick an_law_pick : Option Addr} {sl_law_pick : Array (Option Value)} {oc_law_pick kV_law_pick dc_law_pick pm_law_pick cd_law_pick ct_law_pick : Value}
    {a_law_pick_good : Addr} {od_law_pick_good an_law_pick_good : Option Addr} {sl_law_pick_good : Array (Option Value)} {oc_law_pick_good kV_law_pick_good dc_law_pick_good pm_law_pick_good cd_law_pick_good ct_law_pick_good : Value}
    {a_law_row_good : Addr} {od_law_row_good an_law_row_good : Option Addr} {sl_law_row_good : Array (Option Value)} {oc_law_row_good kV_law_row_good dc_law_row_good pm_law_row_good cd_law_row_good ct_law_row_good : Value}
    {a_law : Addr} {od_law an_law : Option Addr} {sl_law : Array (Option Value)} {oc_law kV_law dc_law pm_law cd_law ct_law : Value}
    {t_FIGURES : Tok}
    {t_LETTERS : Tok}
    {t_LONGEST_WORD : Tok}
    {t_MOST_FIGURES : Tok}
    {t_MOST_PARTS : Tok}
    (A_is_word : PySem.W.nsIn K mainGlobals "is_word" = some (some (.ref a_is_word)))
    (L_is_word : K.lookup a_is_word = some ⟨oc_is_word, od_is_word, .func (PySem.W.fnOf "is_word" "is_word" (defArgs s_is_word) (defBody s_is_word) (defScope s_is_word) .none kV_is_word dc_is_word pm_is_word an_is_word cd_is_word ct_is_word), sl_is_word⟩)
    (C_is_word : PySem.W.codeIn K cd_is_word "is_word" = true) (k_is_word : PySem.W.keepIn K (.ref a_is_word) = true)
    (A_show_value : PySem.W.nsIn K mainGlobals "show_value" = some (some (.ref a_show_value)))
    (L_show_value : K.lookup a_show_value = some ⟨oc_show_value, od_show_value, .func (PySem.W.fnOf "show_value" "show_value" (defArgs s_show_value) (defBody s_show_value) (defScope s_show_value) .none kV_show_value dc_show_value pm_show_value an_show_value cd_show_value ct_show_value), sl_show_value⟩)
    (C_show_value : PySem.W.codeIn K cd_show_value "show_value" = true) (k_show_value : PySem.W.keepIn K (.ref a_show_value) = true)
    (A_show_key : PySem.W.nsIn K mainGlobals "show_key" = some (some (.ref a_show_key)))
    (L_show_key : K.lookup a_show_key = some ⟨oc_show_key, od_show_key, .func (PySem.W.fnOf "show_key" "show_key" (defArgs s_show_key) (defBody s_show_key) (defScope s_show_key) .none kV_show_key dc_show_key pm_show_key an_show_key cd_show_key ct_show_key), sl_show_key⟩)
    (C_show_key : PySem.W.codeIn K cd_show_key "show_key" = true) (k_show_key : PySem.W.keepIn K (.ref a_show_key) = true)
    (A_show_pick : PySem.W.nsIn K mainGlobals "show_pick" = some (some (.ref a_show_pick)))
    (L_show_pick : K.lookup a_show_pick = some ⟨oc_show_pick, od_show_pick, .func (PySem.W.fnOf "show_pick" "show_pick" (defArgs s_show_pick) (defBody s_show_pick) (defScope s_show_pick) .none kV_show_pick dc_show_pick pm_show_pick an_show_pick cd_show_pick ct_show_pick), sl_show_pick⟩)
    (C_show_pick : PySem.W.codeIn K cd_show_pick "show_pick" = true) (k_show_pick : PySem.W.keepIn K (.ref a_show_pick) = true)
    (A_show_row : PySem.W.nsIn K mainGlobals "show_row" = some (some (.ref a_show_row)))
    (L_show_row : K.lookup a_show_row = some ⟨oc_show_row, od_show_row, .func (PySem.W.fnOf "show_row" "show_row" (defArgs s_show_row) (defBody s_show_row) (defScope s_show_row) .none kV_show_row dc_show_row pm_show_row an_show_row cd_show_row ct_show_row), sl_show_row⟩)
    (C_show_row : PySem.W.codeIn K cd_show_row "show_row" = true) (k_show_row : PySem.W.keepIn K (.ref a_show_row) = true)
    (A_show_cell : PySem.W.nsIn K mainGlobals "show_cell" = some (some (.ref a_show_cell)))
    (L_show_cell : K.lookup a_show_cell = some ⟨oc_show_cell, od_show_cell, .func (PySem.W.fnOf "show_cell" "show_cell" (defArgs s_show_cell) (defBody s_show_cell) (defScope s_show_cell) .none kV_show_cell dc_show_cell pm_show_cell an_show_cell cd_show_cell ct_show_cell), sl_show_cell⟩)
    (C_show_cell : PySem.W.codeIn K cd_show_cell "show_cell" = true) (k_show_cell : PySem.W.keepIn K (.ref a_show_cell) = true)
    (A_is_written_whole : PySem.W.nsIn K mainGlobals "is_written_whole" = some (some (.ref a_is_written_whole)))
    (L_is_written_whole : K.lookup a_is_written_whole = some ⟨oc_is_written_whole, od_is_written_whole, .func (PySem.W.fnOf "is_written_whole" "is_written_whole" (defArgs s_is_written_whole) (defBody s_is_written_whole) (defScope s_is_written_whole) .none kV_is_written_whole dc_is_written_whole pm_is_written_whole an_is_written_whole cd_is_written_whole ct_is_written_whole), sl_is_written_whole⟩)
    (C_is_written_whole : PySem.W.codeIn K cd_is_written_whole "is_written_whole" = true) (k_is_written_whole : PySem.W.keepIn K (.ref a_is_written_whole) = true)
    (A_read_whole : PySem.W.nsIn K mainGlobals "read_whole" = some (some (.ref a_read_whole)))
    (L_read_whole : K.lookup a_read_whole = some ⟨oc_read_whole, od_read_whole, .func (PySem.W.fnOf "read_whole" "read_whole" (defArgs s_read_whole) (defBody s_read_whole) (defScope s_read_whole) .none kV_read_whole dc_read_whole pm_read_whole an_read_whole cd_read_whole ct_read_whole), sl_read_whole⟩)
    (C_read_whole : PySem.W.codeIn K cd_read_whole "read_whole" = true) (k_read_whole : PySem.W.keepIn K (.ref a_read_whole) = true)
    (A_read_place : PySem.W.nsIn K mainGlobals "read_place" = some (some (.ref a_read_place)))
    (L_read_place : K.lookup a_read_place = some ⟨oc_read_place, od_read_place, .func (PySem.W.fnOf "read_place" "read_place" (defArgs s_read_place) (defBody s_read_place) (defScope s_read_place) .none kV_read_place dc_read_place pm_read_place an_read_place cd_read_place ct_read_place), sl_read_place⟩)
    (C_read_place : PySem.W.codeIn K cd_read_place "read_place" = true) (k_read_place : PySem.W.keepIn K (.ref a_read_place) = true)
    (A_read_value : PySem.W.nsIn K mainGlobals "read_value" = some (some (.ref a_read_value)))
    (L_read_value : K.lookup a_read_value = some ⟨oc_read_value, od_read_value, .func (PySem.W.fnOf "read_value" "read_value" (defArgs s_read_value) (defBody s_read_value) (defScope s_read_value) .none kV_read_value dc_read_value pm_read_value an_read_value cd_read_value ct_read_value), sl_read_value⟩)
    (C_read_value : PySem.W.codeIn K cd_read_value "read_value" = true) (k_read_value : PySem.W.keepIn K (.ref a_read_value) = true)
    (A_read_value_or_whole : PySem.W.nsIn K mainGlobals "read_value_or_whole" = some (some (.ref a_read_value_or_whole)))
    (L_read_value_or_whole : K.lookup a_read_value_or_whole = some ⟨oc_read_value_or_whole, od_read_value_or_whole, .func (PySem.W.fnOf "read_value_or_whole" "read_value_or_whole" (defArgs s_read_value_or_whole) (defBody s_read_value_or_whole) (defScope s_read_value_or_whole) .none kV_read_value_or_whole dc_read_value_or_whole pm_read_value_or_whole an_read_value_or_whole cd_read_value_or_whole ct_read_value_or_whole), sl_read_value_or_whole⟩)
    (C_read_value_or_whole : PySem.W.codeIn K cd_read_value_or_whole "read_value_or_whole" = true) (k_read_value_or_whole : PySem.W.keepIn K (.ref a_read_value_or_whole) = true)
    (A_parts_of : PySem.W.nsIn K mainGlobals "parts_of" = some (some (.ref a_parts_of)))
    (L_parts_of : K.lookup a_parts_of = some ⟨oc_parts_of, od_parts_of, .func (PySem.W.fnOf "parts_of" "parts_of" (defArgs s_parts_of) (defBody s_parts_of) (defScope s_parts_of) .none kV_parts_of dc_parts_of pm_parts_of an_parts_of cd_parts_of ct_parts_of), sl_parts_of⟩)
    (C_parts_of : PySem.W.codeIn K cd_parts_of "parts_of" = true) (k_parts_of : PySem.W.keepIn K (.ref a_parts_of) = true)
    (A_few_parts_of : PySem.W.nsIn K mainGlobals "few_parts_of" = some (some (.ref a_few_parts_of)))
    (L_few_parts_of : K.lookup a_few_parts_of = some ⟨oc_few_parts_of, od_few_parts_of, .func (PySem.W.fnOf "few_parts_of" "few_parts_of" (defArgs s_few_parts_of) (defBody s_few_parts_of) (defScope s_few_parts_of) .none kV_few_parts_of dc_few_parts_of pm_few_parts_of an_few_parts_of cd_few_parts_of ct_few_parts_of), sl_few_parts_of⟩)
    (C_few_parts_of : PySem.W.codeIn K cd_few_parts_of "few_parts_of" = true) (k_few_parts_of : PySem.W.keepIn K (.ref a_few_parts_of) = true)
    (A_read_line : PySem.W.nsIn K mainGlobals "read_line" = some (some (.ref a_read_line)))
    (L_read_line : K.lookup a_read_line = some ⟨oc_read_line, od_read_line, .func (PySem.W.fnOf "read_line" "read_line" (defArgs s_read_line) (defBody s_read_line) (defScope s_read_line) .none kV_read_line dc_read_line pm_read_line an_read_line cd_read_line ct_read_line), sl_read_line⟩)
    (C_read_line : PySem.W.codeIn K cd_read_line "read_line" = true) (k_read_line : PySem.W.keepIn K (.ref a_read_line) = true)
    (A_read_pick : PySem.W.nsIn K mainGlobals "read_pick" = some (some (.ref a_read_pick)))
    (L_read_pick : K.lookup a_read_pick = some ⟨oc_read_pick, od_read_pick, .func (PySem.W.fnOf "read_pick" "read_pick" (defArgs s_read_pick) (defBody s_read_pick) (defScope s_read_pick) .none kV_read_pick dc_read_pick pm_read_pick an_read_pick cd_read_pick ct_read_pick), sl_read_pick⟩)
    (C_read_pick : PySem.W.codeIn K cd_read_pick "read_pick" = true) (k_read_pick : PySem.W.keepIn K (.ref a_read_pick) = true)
    (A_read_row : PySem.W.nsIn K mainGlobals "read_row" = some (some (.ref a_read_row)))
    (L_read_row : K.lookup a_read_row = some ⟨oc_read_row, od_read_row, .func (PySem.W.fnOf "read_row" "read_row" (defArgs s_read_row) (defBody s_read_row) (defScope s_read_row) .none kV_read_row dc_read_row pm_read_row an_read_row cd_read_row ct_read_row), sl_read_row⟩)
    (C_read_row : PySem.W.codeIn K cd_read_row "read_row" = true) (k_read_row : PySem.W.keepIn K (.ref a_read_row) = true)
    (A_law_cell_at : PySem.W.nsIn K mainGlobals "_law_cell_at" = some (some (.ref a_law_cell_at)))
    (L_law_cell_at : K.lookup a_law_cell_at = some ⟨oc_law_cell_at, od_law_cell_at, .func (PySem.W.fnOf "_law_cell_at" "_law_cell_at" (defArgs s_law_cell_at) (defBody s_law_cell_at) (defScope s_law_cell_at) .none kV_law_cell_at dc_law_cell_at pm_law_cell_at an_law_cell_at cd_law_cell_at ct_law_cell_at), sl_law_cell_at⟩)
    (C_law_cell_at : PySem.W.codeIn K cd_law_cell_at "_law_cell_at" = true) (k_law_cell_at : PySem.W.keepIn K (.ref a_law_cell_at) = true)
    (A_law_stream : PySem.W.nsIn K mainGlobals "_law_stream" = some (some (.ref a_law_stream)))
    (L_law_stream : K.lookup a_law_stream = some ⟨oc_law_stream, od_law_stream, .func (PySem.W.fnOf "_law_stream" "_law_stream" (defArgs s_law_stream) (defBody s_law_stream) (defScope s_law_stream) .none kV_law_stream dc_law_stream pm_law_stream an_law_stream cd_law_stream ct_law_stream), sl_law_stream⟩)
    (C_law_stream : PySem.W.codeIn K cd_law_stream "_law_stream" = true) (k_law_stream : PySem.W.keepIn K (.ref a_law_stream) = true)
    (A_law_word : PySem.W.nsIn K mainGlobals "_law_word" = some (some (.ref a_law_word)))
    (L_law_word : K.lookup a_law_word = some ⟨oc_law_word, od_law_word, .func (PySem.W.fnOf "_law_word" "_law_word" (defArgs s_law_word) (defBody s_law_word) (defScope s_law_word) .none kV_law_word dc_law_word pm_law_word an_law_word cd_law_word ct_law_word), sl_law_word⟩)
    (C_law_word : PySem.W.codeIn K cd_law_word "_law_word" = true) (k_law_word : PySem.W.keepIn K (.ref a_law_word) = true)
    (A_law_thing : PySem.W.nsIn K mainGlobals "_law_thing" = some (some (.ref a_law_thing)))
    (L_law_thing : K.lookup a_law_thing = some ⟨oc_law_thing, od_law_thing, .func (PySem.W.fnOf "_law_thing" "_law_thing" (defArgs s_law_thing) (defBody s_law_thing) (defScope s_law_thing) .none kV_law_thing dc_law_thing pm_law_thing an_law_thing cd_law_thing ct_law_thing), sl_law_thing⟩)
    (C_law_thing : PySem.W.codeIn K cd_law_thing "_law_thing" = true) (k_law_thing : PySem.W.keepIn K (.ref a_law_thing) = true)
    (A_law_written : PySem.W.nsIn K mainGlobals "_law_written" = some (some (.ref a_law_written)))
    (L_law_written : K.lookup a_law_written = some ⟨oc_law_written, od_law_written, .func (PySem.W.fnOf "_law_written" "_law_written" (defArgs s_law_written) (defBody s_law_written) (defScope s_law_written) .none kV_law_written dc_law_written pm_law_written an_law_written cd_law_written ct_law_written), sl_law_written⟩)
    (C_law_written : PySem.W.codeIn K cd_law_written "_law_written" = true) (k_law_written : PySem.W.keepIn K (.ref a_law_written) = true)
    (A_law_whole : PySem.W.nsIn K mainGlobals "_law_whole" = some (some (.ref a_law_whole)))
    (L_law_whole : K.lookup a_law_whole = some ⟨oc_law_whole, od_law_whole, .func (PySem.W.fnOf "_law_whole" "_law_whole" (defArgs s_law_whole) (defBody s_law_whole) (defScope s_law_whole) .none kV_law_whole dc_law_whole pm_law_whole an_law_whole cd_law_whole ct_law_whole), sl_law_whole⟩)
    (C_law_whole : PySem.W.codeIn K cd_law_whole "_law_whole" = true) (k_law_whole : PySem.W.keepIn K (.ref a_law_whole) = true)
    (A_law_pick : PySem.W.nsIn K mainGlobals "_law_pick" = some (some (.ref a_law_pick)))
    (L_law_pick : K.lookup a_law_pick = some ⟨oc_law_pick, od_law_pick, .func (PySem.W.fnOf "_law_pick" "_law_pick" (defArgs s_law_pick) (defBody s_law_pick) (defScope s_law_pick) .none kV_law_pick dc_law_pick pm_law_pick an_law_pick cd_law_pick ct_law_pick), sl_law_pick⟩)
    (C_law_pick : PySem.W.codeIn K cd_law_pick "_law_pick" = true) (k_law_pick : PySem.W.keepIn K (.ref a_law_pick) = true)
    (A_law_pick_good : PySem.W.nsIn K mainGlobals "_law_pick_good" = some (some (.ref a_law_pick_good)))
    (L_law_pick_good : K.lookup a_law_pick_good = some ⟨oc_law_pick_good, od_law_pick_good, .func (PySem.W.fnOf "_law_pick_good" "_law_pick_good" (defArgs s_law_pick_good) (defBody s_law_pick_good) (defScope s_law_pick_good) .none kV_law_pick_good dc_law_pick_good pm_law_pick_good an_law_pick_good cd_law_pick_good ct_law_pick_good), sl_law_pick_good⟩)
    (C_law_pick_good : PySem.W.codeIn K cd_law_pick_good "_law_pick_good" = true) (k_law_pick_good : PySem.W.keepIn K (.ref a_law_pick_good) = true)
    (A_law_row_good : PySem.W.nsIn K mainGlobals "_law_row_good" = some (some (.ref a_law_row_good)))
    (L_law_row_good : K.lookup a_law_row_good = some ⟨oc_law_row_good, od_law_row_good, .func (PySem.W.fnOf "_law_row_good" "_law_row_good" (defArgs s_law_row_good) (defBody s_law_row_good) (defScope s_law_row_good) .none kV_law_row_good dc_law_row_good pm_law_row_good an_law_row_good cd_law_row_good ct_law_row_good), sl_law_row_good⟩)
    (C_law_row_good : PySem.W.codeIn K cd_law_row_good "_law_row_good" = true) (k_law_row_good : PySem.W.keepIn K (.ref a_law_row_good) = true)
    (A_law : PySem.W.nsIn K mainGlobals "law" = some (some (.ref a_law)))
    (L_law : K.lookup a_law = some ⟨oc_law, od_law, .func (PySem.W.fnOf "law" "law" (defArgs s_law) (defBody s_law) (defScope s_law) .none kV_law dc_law pm_law an_law cd_law ct_law), sl_law⟩)
    (C_law : PySem.W.codeIn K cd_law "law" = true) (k_law : PySem.W.keepIn K (.ref a_law) = true)
    (N_abs : PySem.W.nsIn K mainGlobals "abs" = some none)
    (N_all : PySem.W.nsIn K mainGlobals "all" = some none)
    (N_any : PySem.W.nsIn K mainGlobals "any" = some none)
    (N_bool : PySem.W.nsIn K mainGlobals "bool" = some none)
    (N_int : PySem.W.nsIn K mainGlobals "int" = some none)
    (N_isinstance : PySem.W.nsIn K mainGlobals "isinstance" = some none)
    (N_len : PySem.W.nsIn K mainGlobals "len" = some none)
    (N_list : PySem.W.nsIn K mainGlobals "list" = some none)
    (N_max : PySem.W.nsIn K mainGlobals "max" = some none)
    (N_min : PySem.W.nsIn K mainGlobals "min" = some none)
    (N_range : PySem.W.nsIn K mainGlobals "range" = some none)
    (N_str : PySem.W.nsIn K mainGlobals "str" = some none)
    (N_sum : PySem.W.nsIn K mainGlobals "sum" = some none)
    (N_tuple : PySem.W.nsIn K mainGlobals "tuple" = some none)
    (G_FIGURES : PySem.W.nsIn K mainGlobals "FIGURES" = some (some (.str "0123456789" t_FIGURES)))
    (G_LETTERS : PySem.W.nsIn K mainGlobals "LETTERS" = some (some (.str "abcdefghijklmnopqrstuvwxyz" t_LETTERS)))
    (G_LONGEST_WORD : PySem.W.nsIn K mainGlobals "LONGEST_WORD" = some (some (.int (12) t_LONGEST_WORD)))
    (G_MOST_FIGURES : PySem.W.nsIn K mainGlobals "MOST_FIGURES" = some (some (.int (60) t_MOST_FIGURES)))
    (G_MOST_PARTS : PySem.W.nsIn K mainGlobals "MOST_PARTS" = some (some (.int (4) t_MOST_PARTS))) :
    ∃ fd : FuncData, (∀ (s : Shared) (v : Value), BindsTo s fd ⟨[v], []⟩ [("_law_script", v)]) ∧ ∀ base : Heap, K.In base → base.Ns mainGlobals mg → FnOk l.prog w K mg base CX0 7 fa fd ["_law_script"] (spLaw K) := by
  have e := hfa.symm.trans (PySem.W.mg_of X G A_law)
  cases e
  have F_is_word := fun_mk (st := s_is_word) L_is_word C_is_word k_is_word
  have F_show_value := fun_mk (st := s_show_value) L_show_value C_show_value k_show_value
  have F_show_key := fun_mk (st := s_show_key) L_show_key C_show_key k_show_key
  have F_show_pick := fun_mk (st := s_show_pick) L_show_pick C_show_pick k_show_pick
  have F_show_row := fun_mk (st := s_show_row) L_show_row C_show_row k_show_row
  have F_show_cell := fun_mk (st := s_show_cell) L_show_cell C_show_cell k_show_cell
  have F_is_written_whole := fun_mk (st := s_is_written_whole) L_is_written_whole C_is_written_whole k_is_written_whole
  have F_read_whole := fun_mk (st := s_read_whole) L_read_whole C_read_whole k_read_whole
  have F_read_place := fun_mk (st := s_read_place) L_read_place C_read_place k_read_place
  have F_read_value := fun_mk (st := s_read_value) L_read_value C_read_value k_read_value
  have F_read_value_or_whole := fun_mk (st := s_read_value_or_whole) L_read_value_or_whole C_read_value_or_whole k_read_value_or_whole
  have F_parts_of := fun_mk (st := s_parts_of) L_parts_of C_parts_of k_parts_of
  have F_few_parts_of := fun_mk (st := s_few_parts_of) L_few_parts_of C_few_parts_of k_few_parts_of
  have F_read_line := fun_mk (st := s_read_line) L_read_line C_read_line k_read_line
  have F_read_pick := fun_mk (st := s_read_pick) L_read_pick C_read_pick k_read_pick
  have F_read_row := fun_mk (st := s_read_row) L_read_row C_read_row k_read_row
  have F_law_cell_at := fun_mk (st := s_law_cell_at) L_law_cell_at C_law_cell_at k_law_cell_at
  have F_law_stream := fun_mk (st := s_law_stream) L_law_stream C_law_stream k_law_stream
  have F_law_word := fun_mk (st := s_law_word) L_law_word C_law_word k_law_word
  have F_law_thing := fun_mk (st := s_law_thing) L_law_thing C_law_thing k_law_thing
  have F_law_written := fun_mk (st := s_law_written) L_law_written C_law_written k_law_written
  have F_law_whole := fun_mk (st := s_law_whole) L_law_whole C_law_whole k_law_whole
  have F_law_pick := fun_mk (st := s_law_pick) L_law_pick C_law_pick k_law_pick
  have F_law_pick_good := fun_mk (st := s_law_pick_good) L_law_pick_good C_law_pick_good k_law_pick_good
  have F_law_row_good := fun_mk (st := s_law_row_good) L_law_row_good C_law_row_good k_law_row_good
  have F_law := fun_mk (st := s_law) L_law C_law k_law
  have T : Tx K mg ⟨a_is_word, _, a_show_value, _, a_show_key, _, a_show_pick, _, a_show_row, _, a_show_cell, _, a_is_written_whole, _, a_read_whole, _, a_read_place, _, a_read_value, _, a_read_value_or_whole, _, a_parts_of, _, a_few_parts_of, _, a_read_line, _, a_read_pick, _, a_read_row, _, a_law_cell_at, _, a_law_stream, _, a_law_word, _, a_law_thing, _, a_law_written, _, a_law_whole, _, a_law_pick, _, a_law_pick_good, _, a_law_row_good, _, fa, _⟩ := {
    m_is_word := PySem.W.mg_of X G A_is_word
    F_is_word := F_is_word
    b_is_word := F_is_word.binds fun _ _ _ _ _ _ us hl => match us, hl with | [_], _ => rfl
    m_show_value := PySem.W.mg_of X G A_show_value
    F_show_value := F_show_value
    b_show_value := F_show_value.binds fun _ _ _ _ _ _ us hl => match us, hl with | [_], _ => rfl
    m_show_key := PySem.W.mg_of X G A_show_key
    F_show_key := F_show_key
    b_show_key := F_show_key.binds fun _ _ _ _ _ _ us hl => match us, hl with | [_], _ => rfl
    m_show_pick := PySem.W.mg_of X G A_show_pick
    F_show_pick := F_show_pick
    b_show_pick := F_show_pick.binds fun _ _ _ _ _ _ us hl => match us, hl with | [_], _ => rfl
    m_show_row := PySem.W.mg_of X G A_show_row
    F_show_row := F_show_row
    b_show_row := F_show_row.binds fun _ _ _ _ _ _ us hl => match us, hl with | [_], _ => rfl
    m_show_cell := PySem.W.mg_of X G A_show_cell
    F_show_cell := F_show_cell
    b_show_cell := F_show_cell.binds fun _ _ _ _ _ _ us hl => match us, hl with | [_], _ => rfl
    m_is_written_whole := PySem.W.mg_of X G A_is_written_whole
    F_is_written_whole := F_is_written_whole
    b_is_written_whole := F_is_written_whole.binds fun _ _ _ _ _ _ us hl => match us, hl with | [_], _ => rfl
    m_read_whole := PySem.W.mg_of X G A_read_whole
    F_read_whole := F_read_whole
    b_read_whole := F_read_whole.binds fun _ _ _ _ _ _ us hl => match us, hl with | [_], _ => rfl
    m_read_place := PySem.W.mg_of X G A_read_place
    F_read_place := F_read_place
    b_read_place := F_read_place.binds fun _ _ _ _ _ _ us hl => match us, hl with | [_], _ => rfl
    m_read_value := PySem.W.mg_of X G A_read_value
    F_read_value := F_read_value
    b_read_value := F_read_value.binds fun _ _ _ _ _ _ us hl => match us, hl with | [_], _ => rfl
    m_read_value_or_whole := PySem.W.mg_of X G A_read_value_or_whole
    F_read_value_or_whole := F_read_value_or_whole
    b_read_value_or_whole := F_read_value_or_whole.binds fun _ _ _ _ _ _ us hl => match us, hl with | [_], _ => rfl
    m_parts_of := PySem.W.mg_of X G A_parts_of
    F_parts_of := F_parts_of
    b_parts_of := F_parts_of.binds fun _ _ _ _ _ _ us hl => match us, hl with | [_, _], _ => rfl
    m_few_parts_of := PySem.W.mg_of X G A_few_parts_of
    F_few_parts_of := F_few_parts_of
    b_few_parts_of := F_few_parts_of.binds fun _ _ _ _ _ _ us hl => match us, hl with | [_], _ => rfl
    m_read_line := PySem.W.mg_of X G A_read_line
    F_read_line := F_read_line
    b_read_line := F_read_line.binds fun _ _ _ _ _ _ us hl => match us, hl with | [_], _ => rfl
    m_read_pick := PySem.W.mg_of X G A_read_pick
    F_read_pick := F_read_pick
    b_read_pick := F_read_pick.binds fun _ _ _ _ _ _ us hl => match us, hl with | [_], _ => rfl
    m_read_row := PySem.W.mg_of X G A_read_row
    F_read_row := F_read_row
    b_read_row := F_read_row.binds fun _ _ _ _ _ _ us hl => match us, hl with | [_], _ => rfl
    m_law_cell_at := PySem.W.mg_of X G A_law_cell_at
    F_law_cell_at := F_law_cell_at
    b_law_cell_at := F_law_cell_at.binds fun _ _ _ _ _ _ us hl => match us, hl with | [_, _], _ => rfl
    m_law_stream := PySem.W.mg_of X G A_law_stream
    F_law_stream := F_law_stream
    b_law_stream := F_law_stream.binds fun _ _ _ _ _ _ us hl => match us, hl with | [_, _], _ => rfl
    m_law_word := PySem.W.mg_of X G A_law_word
    F_law_word := F_law_word
    b_law_word := F_law_word.binds fun _ _ _ _ _ _ us hl => match us, hl with | [_, _], _ => rfl
    m_law_thing := PySem.W.mg_of X G A_law_thing
    F_law_thing := F_law_thing
    b_law_thing := F_law_thing.binds fun _ _ _ _ _ _ us hl => match us, hl with | [_, _], _ => rfl
    m_law_written := PySem.W.mg_of X G A_law_written
    F_law_written := F_law_written
    b_law_written := F_law_written.binds fun _ _ _ _ _ _ us hl => match us, hl with | [_], _ => rfl
    m_law_whole := PySem.W.mg_of X G A_law_whole
    F_law_whole := F_law_whole
    b_law_whole := F_law_whole.binds fun _ _ _ _ _ _ us hl => match us, hl with | [_], _ => rfl
    m_law_pick := PySem.W.mg_of X G A_law_pick
    F_law_pick := F_law_pick
    b_law_pick := F_law_pick.binds fun _ _ _ _ _ _ us hl => match us, hl with | [_, _], _ => rfl
    m_law_pick_good := PySem.W.mg_of X G A_law_pick_good
    F_law_pick_good := F_law_pick_good
    b_law_pick_good := F_law_pick_good.binds fun _ _ _ _ _ _ us hl => match us, hl with | [_], _ => rfl
    m_law_row_good := PySem.W.mg_of X G A_law_row_good
    F_law_row_good := F_law_row_good
    b_law_row_good := F_law_row_good.binds fun _ _ _ _ _ _ us hl => match us, hl with | [_, _], _ => rfl
    m_law := PySem.W.mg_of X G A_law
    F_law := F_law
    b_law := F_law.binds fun _ _ _ _ _ _ us hl => match us, hl with | [_], _ => rfl
    n_abs := PySem.W.mg_none_of X G N_abs
    n_all := PySem.W.mg_none_of X G N_all
    n_any := PySem.W.mg_none_of X G N_any
    n_bool := PySem.W.mg_none_of X G N_bool
    n_int := PySem.W.mg_none_of X G N_int
    n_isinstance := PySem.W.mg_none_of X G N_isinstance
    n_len := PySem.W.mg_none_of X G N_len
    n_list := PySem.W.mg_none_of X G N_list
    n_max := PySem.W.mg_none_of X G N_max
    n_min := PySem.W.mg_none_of X G N_min
    n_range := PySem.W.mg_none_of X G N_range
    n_str := PySem.W.mg_none_of X G N_str
    n_sum := PySem.W.mg_none_of X G N_sum
    n_tuple := PySem.W.mg_none_of X G N_tuple
    g_FIGURES := ⟨_, PySem.W.mg_of X G G_FIGURES, ⟨_, rfl⟩⟩
    g_LETTERS := ⟨_, PySem.W.mg_of X G G_LETTERS, ⟨_, rfl⟩⟩
    g_LONGEST_WORD := ⟨_, PySem.W.mg_of X G G_LONGEST_WORD, ⟨_, rfl⟩⟩
    g_MOST_FIGURES := ⟨_, PySem.W.mg_of X G G_MOST_FIGURES, ⟨_, rfl⟩⟩
    g_MOST_PARTS := ⟨_, PySem.W.mg_of X G G_MOST_PARTS, ⟨_, rfl⟩⟩
  }
  exact ⟨_, fun s v => .of_eq rfl, fun base _ _ => law_ok (ok_law T) law_true⟩
theorem walk {l : PySem.W.OpenLaw} {q : Program} {loose : List Str} {XP : (Str → Option Value) → Heap → Prop} {YP : World → Heap → Prop} {d : DefRec} {K : Params → PySem.W.Frag} (hn : l.most = some 63) (hdf : d.params.defaults = [])
    (hY : ∀ (w : World) (h : Heap), YP w h → (K w.params).In h)
    (F : ∀ (w : World) (mg : Str → Option Value) (fa : Addr) (h : Heap), (K w.params).In h → h.Ns mainGlobals mg → mg d.name = some (.ref fa) →
      ∃ fd : FuncData, (∀ (s : Shared) (u : Value), BindsTo s fd ⟨[u], []⟩ [("_law_script", u)]) ∧ ∀ base : Heap, (K w.params).In base → base.Ns mainGlobals mg → FnOk l.prog w (K w.params) mg base CX0 7 fa fd ["_law_script"] (spLaw (K w.params))) :
    PySem.W.WalkO q loose XP YP l.row.toRowW d [] (fun f vs => PySem.call f vs) :=
  L2.walk_of (n := 63) (k := 7) (x := "_law_script") (CX := fun _ => CX0) (sp := fun w => spLaw (K w.params)) hn (by decide) hdf ⟨rfl, by decide, by decide⟩ hY F (fun _ _ a ns hl _ hS => ⟨a, ns, rfl, hS, hl, fun _ => rfl⟩) fun _ _ _ _ _ z => z
end K81
open PySem PySem.W PyProof.Rows
set_option maxRecDepth 100000 in
set_option maxHeartbeats 0 in
theorem PySem.Challenge.cw_cubebook_k81_picks_rows_and_cells_holds : PySem.Challenge.rw_cubebook_k81_picks_rows_and_cells.Holds := by
  w_on; o_law; k_head; (case hw => w_witness2)
  k_fill
  refine K81.walk (l := PySem.Challenge.rw_cubebook_k81_picks_rows_and_cells) rfl rfl (fun w h Y => PySem.W.kIn_of Y) ?F
  case F =>
    intro w mg fa h KX G hmg
    refine' K81.all_mk KX G hmg ?A_is_word ?L_is_word ?C_is_word ?k_is_word ?A_show_value ?L_show_value ?C_show_value ?k_show_value ?A_show_key ?L_show_key ?C_show_key ?k_show_key ?A_show_pick ?L_show_pick ?C_show_pick ?k_show_pick ?A_show_row ?L_show_row ?C_show_row ?k_show_row ?A_show_cell ?L_show_cell ?C_show_cell ?k_show_cell ?A_is_written_whole ?L_is_written_whole ?C_is_written_whole ?k_is_written_whole ?A_read_whole ?L_read_whole ?C_read_whole ?k_read_whole ?A_read_place ?L_read_place ?C_read_place ?k_read_place ?A_read_value ?L_read_value ?C_read_value ?k_read_value ?A_read_value_or_whole ?L_read_value_or_whole ?C_read_value_or_whole ?k_read_value_or_whole ?A_parts_of ?L_parts_of ?C_parts_of ?k_parts_of ?A_few_parts_of ?L_few_parts_of ?C_few_parts_of ?k_few_parts_of ?A_read_line ?L_read_line ?C_read_line ?k_read_line ?A_read_pick ?L_read_pick ?C_read_pick ?k_read_pick ?A_read_row ?L_read_row ?C_read_row ?k_read_row ?A_law_cell_at ?L_law_cell_at ?C_law_cell_at ?k_law_cell_at ?A_law_stream ?L_law_stream ?C_law_stream ?k_law_stream ?A_law_word ?L_law_word ?C_law_word ?k_law_word ?A_law_thing ?L_law_thing ?C_law_thing ?k_law_thing ?A_law_written ?L_law_written ?C_law_written ?k_law_written ?A_law_whole ?L_law_whole ?C_law_whole ?k_law_whole ?A_law_pick ?L_law_pick ?C_law_pick ?k_law_pick ?A_law_pick_good ?L_law_pick_good ?C_law_pick_good ?k_law_pick_good ?A_law_row_good ?L_law_row_good ?C_law_row_good ?k_law_row_good ?A_law ?L_law ?C_law ?k_law ?N_abs ?N_all ?N_any ?N_bool ?N_int ?N_isinstance ?N_len ?N_list ?N_max ?N_min ?N_range ?N_str ?N_sum ?N_tuple ?G_FIGURES ?G_LETTERS ?G_LONGEST_WORD ?G_MOST_FIGURES ?G_MOST_PARTS
    (case A_is_word => k_is)
    (case L_is_word => k_is)
    (case C_is_word => k_is)
    (case k_is_word => k_is)
    (case A_show_value => k_is)
    (case L_show_value => k_is)
    (case C_show_value => k_is)
    (case k_show_value => k_is)
    (case A_show_key => k_is)
    (case L_show_key => k_is)
    (case C_show_key => k_is)
    (case k_show_key => k_is)
    (case A_show_pick => k_is)
    (case L_show_pick => k_is)
    (case C_show_pick => k_is)
    (case k_show_pick => k_is)
    (case A_show_row => k_is)
    (case L_show_row => k_is)
    (case C_show_row => k_is)
    (case k_show_row => k_is)
    (case A_show_cell => k_is)
    (case L_show_cell => k_is)
    (case C_show_cell => k_is)
    (case k_show_cell => k_is)
    (case A_is_written_whole => k_is)
    (case L_is_written_whole => k_is)
    (case C_is_written_whole => k_is)
    (case k_is_written_whole => k_is)
    (case A_read_whole => k_is)
    (case L_read_whole => k_is)
    (case C_read_whole => k_is)
    (case k_read_whole => k_is)
    (case A_read_place => k_is)
    (case L_read_place => k_is)
    (case C_read_place => k_is)
    (case k_read_place => k_is)
    (case A_read_value => k_is)
    (case L_read_value => k_is)
    (case C_read_value => k_is)
    (case k_read_value => k_is)
    (case A_read_value_or_whole => k_is)
    (case L_read_value_or_whole => k_is)
    (case C_read_value_or_whole => k_is)
    (case k_read_value_or_whole => k_is)
    (case A_parts_of => k_is)
    (case L_parts_of => k_is)
    (case C_parts_of => k_is)
    (case k_parts_of => k_is)
    (case A_few_parts_of => k_is)
    (case L_few_parts_of => k_is)
    (case C_few_parts_of => k_is)
    (case k_few_parts_of => k_is)
    (case A_read_line => k_is)
    (case L_read_line => k_is)
    (case C_read_line => k_is)
    (case k_read_line => k_is)
    (case A_read_pick => k_is)
    (case L_read_pick => k_is)
    (case C_read_pick => k_is)
    (case k_read_pick => k_is)
    (case A_read_row => k_is)
    (case L_read_row => k_is)
    (case C_read_row => k_is)
    (case k_read_row => k_is)
    (case A_law_cell_at => k_is)
    (case L_law_cell_at => k_is)
    (case C_law_cell_at => k_is)
    (case k_law_cell_at => k_is)
    (case A_law_stream => k_is)
    (case L_law_stream => k_is)
    (case C_law_stream => k_is)
    (case k_law_stream => k_is)
    (case A_law_word => k_is)
    (case L_law_word => k_is)
    (case C_law_word => k_is)
    (case k_law_word => k_is)
    (case A_law_thing => k_is)
    (case L_law_thing => k_is)
    (case C_law_thing => k_is)
    (case k_law_thing => k_is)
    (case A_law_written => k_is)
    (case L_law_written => k_is)
    (case C_law_written => k_is)
    (case k_law_written => k_is)
    (case A_law_whole => k_is)
    (case L_law_whole => k_is)
    (case C_law_whole => k_is)
    (case k_law_whole => k_is)
    (case A_law_pick => k_is)
    (case L_law_pick => k_is)
    (case C_law_pick => k_is)
    (case k_law_pick => k_is)
    (case A_law_pick_good => k_is)
    (case L_law_pick_good => k_is)
    (case C_law_pick_good => k_is)
    (case k_law_pick_good => k_is)
    (case A_law_row_good => k_is)
    (case L_law_row_good => k_is)
    (case C_law_row_good => k_is)
    (case k_law_row_good => k_is)
    (case A_law => k_is)
    (case L_law => k_is)
    (case C_law => k_is)
    (case k_law => k_is)
    (case N_abs => k_is)
    (case N_all => k_is)
    (case N_any => k_is)
    (case N_bool => k_is)
    (case N_int => k_is)
    (case N_isinstance => k_is)
    (case N_len => k_is)
    (case N_list => k_is)
    (case N_max => k_is)
    (case N_min => k_is)
    (case N_range => k_is)
    (case N_str => k_is)
    (case N_sum => k_is)
    (case N_tuple => k_is)
    (case G_FIGURES => k_is)
    (case G_LETTERS => k_is)
    (case G_LONGEST_WORD => k_is)
    (case G_MOST_FIGURES => k_is)
    (case G_MOST_PARTS => k_is)
#print axioms PySem.Challenge.cw_cubebook_k81_picks_rows_and_cells_holds
