import PyProof.Rows.All
import Wide.All
import OpenK.AllK
import Wide.FinOn
import Lean
import PyProof.EqAt
import PyProof.EqKinds
import PyProof.TupleCall
import PyProof.TupleKey
import PyProof.DictRoadsH
import Wide.Seal
import PyProof.NeKinds
import PyProof.ZipIter
import PyProof.EnumMake
import PyProof.Rows.TupTab
import KE.KDictLaws
import PyProof.AutoListH
import PyProof.AttrMissHeap
import KE.KDictOf
import PySem.Challenge.RW_cubebook_k22_picked
set_option Elab.async false
set_option linter.all false
set_option maxRecDepth 100000
namespace L2
open PySem PySem.Spec PyProof.Rows
abbrev Key := Sum Int Str
def keyIs : Key → Value → Bool
  | .inl k, v => Value.isInt k v
  | .inr x, v => Value.isStrOf x v
def keyH (w : World) : Key → Int
  | .inl k => hashInt k
  | .inr x => hashStr w x
theorem keyIs_shape : ∀ {k : Key} {v : Value}, keyIs k v = true → (∃ i t, k = Sum.inl i ∧ v = Value.int i t) ∨ (∃ x t, k = Sum.inr x ∧ v = Value.str x t)
  | .inl i, v, h => by
    obtain ⟨t, e⟩ := Value.isInt_shape (k := i) (v := v) h
    exact .inl ⟨i, t, rfl, e⟩
  | .inr x, v, h => by
    obtain ⟨t, e⟩ := Value.isStrOf_shape (x := x) (v := v) h
    exact .inr ⟨x, t, rfl, e⟩
theorem key_ll (a b : Int) : decide ((Sum.inl a : Key) = Sum.inl b) = (a == b) := by
  by_cases e : a = b
  · subst e; simp
  · have h : ¬ (Sum.inl a : Key) = Sum.inl b := fun q => e (Sum.inl.inj q)
    rw [decide_eq_false h]
    exact (beq_eq_false_iff_ne.mpr e).symm
theorem key_rr (a b : Str) : decide ((Sum.inr a : Key) = Sum.inr b) = decide (a = b) := by
  by_cases e : a = b
  · subst e; simp
  · have h : ¬ (Sum.inr a : Key) = Sum.inr b := fun q => e (Sum.inr.inj q)
    rw [decide_eq_false h, decide_eq_false e]
theorem key_lr (a : Int) (b : Str) : decide ((Sum.inl a : Key) = Sum.inr b) = false := decide_eq_false (fun q => nomatch q)
theorem key_rl (a : Str) (b : Int) : decide ((Sum.inr a : Key) = Sum.inl b) = false := decide_eq_false (fun q => nomatch q)
def mixKind (prog : Program) (w : World) : PySem.KeyKind prog w Key where
  is := keyIs
  hash := keyH w
  inj := fun v a b ha hb => by
    rcases keyIs_shape ha with ⟨i, t, rfl, rfl⟩ | ⟨x, t, rfl, rfl⟩
    · rcases keyIs_shape hb with ⟨j, u, rfl, e⟩ | ⟨y, u, rfl, e⟩
      · injection e with e1 _; rw [e1]
      · exact nomatch e
    · rcases keyIs_shape hb with ⟨j, u, rfl, e⟩ | ⟨y, u, rfl, e⟩
      · exact nomatch e
      · injection e with e1 _; rw [e1]
  byValue := fun k v h => by
    rcases keyIs_shape h with ⟨i, t, rfl, rfl⟩ | ⟨x, t, rfl, rfl⟩ <;> rfl
  pyHash := fun hv h => by
    rcases keyIs_shape hv with ⟨i, t, rfl, rfl⟩ | ⟨x, t, rfl, rfl⟩
    · exact wpAny_pyHash_int h
    · exact wpAny_pyHash_str h
  eqBool := fun hu hv h => by
    rcases keyIs_shape hu with ⟨i, t, rfl, rfl⟩ | ⟨x, t, rfl, rfl⟩
    · rcases keyIs_shape hv with ⟨j, u, rfl, rfl⟩ | ⟨y, u, rfl, rfl⟩
      · rw [key_ll] at h; exact wpAny_eqBool_int h
      · rw [key_lr] at h; exact SeqAt.EqAt.int_str i t y u _ _ _ _ h
    · rcases keyIs_shape hv with ⟨j, u, rfl, rfl⟩ | ⟨y, u, rfl, rfl⟩
      · rw [key_rl] at h; exact SeqAt.EqAt.str_int x t j u _ _ _ _ h
      · rw [key_rr] at h; exact wpAny_eqBool_str h
  «strs» := fun k x t v h => by
    rcases keyIs_shape h with ⟨i, u, rfl, e⟩ | ⟨y, u, rfl, e⟩
    · exact nomatch e
    · injection e with e1 _
      subst e1
      cases v <;> rfl
end L2
namespace L2
open PySem PySem.Spec PyProof.Rows
inductive V where
  | non | bl (b : Bool) | int (i : Int) | str (x : Str) | byt (b : Array UInt8) | flt (b : UInt64) | ref (a : Addr) | ty (n : String)
  deriving DecidableEq
def RelV : V → Value → Prop
  | .non, u => u = Value.none
  | .bl b, u => u = Value.bool b
  | .int i, u => ∃ t, u = Value.int i t
  | .str x, u => ∃ t, u = Value.str x t
  | .byt b, u => ∃ t, u = Value.bytes b t
  | .flt b, u => ∃ t, u = Value.float b t
  | .ref a, u => u = Value.ref a
  | .ty n, u => u = Value.type n
abbrev Vals : List V → List Value → Prop := Paired RelV
theorem Vals.length {xs : List V} {us : List Value} (r : Vals xs us) : xs.length = us.length := Paired.length r
theorem Vals.get : ∀ {xs : List V} {us : List Value} {i : Nat} {x : V}, Vals xs us → xs[i]? = some x → ∃ u, us[i]? = some u ∧ RelV x u
  | _, _, _, _, .nil, e => by simp at e
  | _, _, 0, _, .cons r _, e => by simp at e; subst e; exact ⟨_, rfl, r⟩
  | _, _, i + 1, x, .cons _ t, e => by
    obtain ⟨u, h1, h2⟩ := Vals.get (i := i) (x := x) t (by simpa using e)
    exact ⟨u, by simpa using h1, h2⟩
theorem Vals.set {x : V} {u : Value} (r : RelV x u) : ∀ {xs : List V} {us : List Value} (i : Nat), Vals xs us → Vals (xs.set i x) (us.set i u)
  | _, _, _, .nil => .nil
  | _, _, 0, .cons _ t => .cons r t
  | _, _, i + 1, .cons q t => .cons q (Vals.set r i t)
theorem Vals.append : ∀ {xs ys : List V} {us ws : List Value}, Vals xs us → Vals ys ws → Vals (xs ++ ys) (us ++ ws)
  | _, _, _, _, .nil, s => s
  | _, _, _, _, .cons r t, s => .cons r (Vals.append t s)
theorem Vals.take : ∀ {xs : List V} {us : List Value} (n : Nat), Vals xs us → Vals (xs.take n) (us.take n)
  | _, _, 0, _ => .nil
  | _, _, _ + 1, .nil => .nil
  | _, _, n + 1, .cons r t => .cons r (Vals.take n t)
theorem Vals.drop : ∀ {xs : List V} {us : List Value} (n : Nat), Vals xs us → Vals (xs.drop n) (us.drop n)
  | _, _, 0, r => r
  | _, _, _ + 1, .nil => .nil
  | _, _, n + 1, .cons _ t => Vals.drop n t
def RelO : Option V → Option Value → Prop
  | some v, some u => RelV v u
  | none, none => True
  | _, _ => False
def KV {κ : Type} : List (κ × V) → List (κ × Value) → Prop := Paired fun (p : κ × V) (q : κ × Value) => p.1 = q.1 ∧ RelV p.2 q.2
def kV : Key → V
  | .inl i => .int i
  | .inr x => .str x
inductive At where
  | non | int (i : Int) | str (x : Str)
  deriving DecidableEq
def atIs : At → Value → Bool
  | .non, .none => true
  | .int k, v => Value.isInt k v
  | .str x, v => Value.isStrOf x v
  | _, _ => false
def atH (w : World) : At → Int
  | .non => reduceHash 4238894112
  | .int k => hashInt k
  | .str x => hashStr w x
theorem atIs_shape : ∀ {k : At} {v : Value}, atIs k v = true → (k = .non ∧ v = .none) ∨ (∃ i t, k = .int i ∧ v = Value.int i t) ∨ (∃ x t, k = .str x ∧ v = Value.str x t)
  | .non, v, h => by cases v <;> first | exact .inl ⟨rfl, rfl⟩ | exact absurd h Bool.false_ne_true
  | .int i, v, h => by obtain ⟨t, e⟩ := Value.isInt_shape (k := i) (v := v) h; exact .inr (.inl ⟨i, t, rfl, e⟩)
  | .str x, v, h => by obtain ⟨t, e⟩ := Value.isStrOf_shape (x := x) (v := v) h; exact .inr (.inr ⟨x, t, rfl, e⟩)
theorem atIs_int (i : Int) (t : Tok) : atIs (.int i) (.int i t) = true := by simp [atIs, Value.isInt]
theorem atIs_str (x : Str) (t : Tok) : atIs (.str x) (.str x t) = true := by simp [atIs, Value.isStrOf]
theorem hash_none {prog : Program} {w : World} {A : Around} {E : Value → Shared → Prop} {s : Shared} {Q : Int → Shared → Prop} (h : Q (reduceHash 4238894112) { s with toks := s.toks + 1 }) :
    wpAny (model prog w) A (PySem.pyHash .none) Q E s :=
  PySem.W.pyHash_slot (T := "NoneType") rfl F.slot_NoneType_hash F.entry_NoneType_hash (F.args_NoneType_hash_1 _) (beq_builtin_none _) (.inl rfl) (wpAny_bind (wpAny_pure (wpAny_bind (wpAny_mkInt (wpAny_pure ⟨_, _, rfl, h⟩)))))
theorem atDec_int (a b : Int) : decide ((At.int a) = .int b) = (a == b) := by
  by_cases e : a = b
  · subst e; simp
  · rw [decide_eq_false (fun q => e (by injection q))]; exact (beq_eq_false_iff_ne.mpr e).symm
theorem atDec_str (a b : Str) : decide ((At.str a) = .str b) = decide (a = b) := by
  by_cases e : a = b
  · subst e; simp
  · rw [decide_eq_false (fun q => e (by injection q)), decide_eq_false e]
def atomKind (prog : Program) (w : World) : PySem.KeyKind prog w At where
  is := atIs
  hash := atH w
  inj := fun v a b ha hb => by
    rcases atIs_shape ha with ⟨rfl, rfl⟩ | ⟨i, t, rfl, rfl⟩ | ⟨x, t, rfl, rfl⟩ <;> rcases atIs_shape hb with ⟨rfl, e⟩ | ⟨j, u, rfl, e⟩ | ⟨y, u, rfl, e⟩ <;>
      first | rfl | (cases e; done) | (cases e; rfl)
  byValue := fun k v h => by
    rcases atIs_shape h with ⟨rfl, rfl⟩ | ⟨i, t, rfl, rfl⟩ | ⟨x, t, rfl, rfl⟩ <;> rfl
  pyHash := fun hv h => by
    rcases atIs_shape hv with ⟨rfl, rfl⟩ | ⟨i, t, rfl, rfl⟩ | ⟨x, t, rfl, rfl⟩
    · exact hash_none h
    · exact wpAny_pyHash_int h
    · exact wpAny_pyHash_str h
  eqBool := fun hu hv h => by
    rcases atIs_shape hu with ⟨rfl, rfl⟩ | ⟨i, t, rfl, rfl⟩ | ⟨x, t, rfl, rfl⟩ <;> rcases atIs_shape hv with ⟨rfl, rfl⟩ | ⟨j, u, rfl, rfl⟩ | ⟨y, u, rfl, rfl⟩
    · exact SeqAt.EqAt.same Value.none _ _ _ _ h
    · exact SeqAt.EqAt.none_int j u _ _ _ _ h
    · exact SeqAt.EqAt.none_str y u _ _ _ _ h
    · exact SeqAt.EqAt.int_none i t _ _ _ _ h
    · rw [atDec_int] at h; exact wpAny_eqBool_int h
    · exact SeqAt.EqAt.int_str i t y u _ _ _ _ h
    · exact SeqAt.EqAt.str_none x t _ _ _ _ h
    · exact SeqAt.EqAt.str_int x t j u _ _ _ _ h
    · rw [atDec_str] at h; exact wpAny_eqBool_str h
  «strs» := fun k x t v h => by
    rcases atIs_shape h with ⟨rfl, e⟩ | ⟨i, u, rfl, e⟩ | ⟨y, u, rfl, e⟩
    · exact nomatch e
    · exact nomatch e
    · injection e with e1 _
      subst e1
      cases v <;> rfl
inductive KT where
  | at (a : At) | tup (l : List At)
  deriving DecidableEq
def KT.hash (w : World) : KT → Int
  | .at a => atH w a
  | .tup l => reduceHash (Builtin.Tuple.tupleHashOf (l.map (atH w)))
def atV : At → V
  | .non => .non
  | .int i => .int i
  | .str x => .str x
def ktV : KT → V → Prop
  | .at a, v => v = atV a
  | .tup _, v => ∃ p, v = .ref p
def EntOk (w : World) : List KT → List V → List DictEntry → Prop
  | [], vs, es => vs = [] ∧ es = []
  | k :: ks, vs, es => ∃ kv v r e t, vs = kv :: v :: r ∧ es = e :: t ∧ RelV kv e.key ∧ RelV v e.val ∧ e.hash = k.hash w ∧ ktV k kv ∧ EntOk w ks r t
inductive HO where
  | lst (xs : List V)
  | tup (xs : List V)
  | dK (kvs : List (Key × V)) | dT (kvs : List (List Key × V))
  | dct (ks : List KT) (vs : List V)
  | set (S : Int → Bool) (n : Nat)
  | ins (C dx : Addr) (fs : List (Str × V))
  | own (x : Addr)
  | xd (fs : List (Str × V))
  | met (f x : Addr)
  | rng (lo hi : Int)
  | frz (o : Obj) (u : HO)
  | tbl (ps : Array Value)
  | ext (φ : Heap → Prop)
abbrev Hp := Addr → Option HO
def upd (H : Hp) (a : Addr) (o : HO) : Hp := fun b => if b = a then some o else H b
theorem upd_same {H : Hp} {a : Addr} {o : HO} : upd H a o a = some o := by unfold upd; rw [if_pos rfl]
theorem upd_ne {H : Hp} {a b : Addr} {o : HO} (h : b ≠ a) : upd H a o b = H b := by unfold upd; rw [if_neg h]
theorem upd_upd {H : Hp} {a : Addr} {o u : HO} : upd (upd H a o) a u = upd H a u := by
  funext b; unfold upd; split <;> rfl
theorem ne_of_none {H : Hp} {a b : Addr} {o : HO} (h : H a = some o) (h' : H b = none) : a ≠ b := by
  intro e; subst e; rw [h] at h'; cases h'
section
variable (P : Program) (w : World)
def ObjOk (H : Hp) (h : Heap) (a : Addr) : HO → Prop
  | .lst xs => xs.length ≤ sizeLine ∧ ∃ (its : List Value) (n : Nat), Vals xs its ∧ h.get? a = some { cls := .type "list", data := .seq its.toArray n }
  | .tup xs => xs.length ≤ sizeLine ∧ ∃ its : List Value, Vals xs its ∧ IsTup h a its.toArray
  | .dK kvs => kvs.length ≤ sizeLine ∧ (a == sysModules) = false ∧ ∃ vs, KV kvs vs ∧ h.DictOf (mixKind P w) a vs
  | .dT kvs => kvs.length ≤ sizeLine ∧ (a == sysModules) = false ∧ ∃ xs : List (List Key × Addr × Value),
      Paired (fun (p : List Key × V) (q : List Key × Addr × Value) => p.1 = q.1 ∧ H q.2.1 = some (.tup (p.1.map kV)) ∧ RelV p.2 q.2.2) kvs xs ∧
      ∃ o es ep, h.get? a = some o ∧ o.ExactDict ∧ o.data = .dict es ep ∧ es.toList = xs.map (entryOfKey (tupleKind (mixKind P w))) ∧ (xs.map (·.1)).Nodup
  | .dct ks vs => ks.length ≤ sizeLine ∧ (a == sysModules) = false ∧ ks.Nodup ∧ ∃ o es ep, h.get? a = some o ∧ o.ExactDict ∧ o.data = .dict es ep ∧ EntOk w ks vs es.toList
  | .set S n => h.SetOf (intKind P w) a S n
  | .ins C dx fs => H dx = some (.own a) ∧ fs.length ≤ 1000 ∧ dx ≠ a ∧ h.get? a = some (PySem.W.instObj C dx) ∧
      ∃ mA, h.Ns1 dx mA ∧ (∀ f, RelO (fs.lookup f) (mA f)) ∧ PySem.Within mA (fs.map (·.1))
  | .own _ => ∃ o, h.get? a = some o
  | .xd fs => ∃ mA, h.Ns1 a mA ∧ ∀ f, RelO (fs.lookup f) (mA f)
  | .rng lo hi => ∃ t u v, h.get? a = some { cls := .type "range", data := .fields #[.int lo t, .int hi u, .int 1 v] }
  | .frz o u => h.get? a = some o ∧ ObjOk H h a u
  | .tbl ps => h.get? a = some { cls := .none, data := .fields ps }
  | .met f x => h.get? a = some (PySem.W.methodObj (.ref f) (.ref x))
  | .ext φ => φ h ∧ (∃ o, h.get? a = some o) ∧ ∀ h1 h2 : Heap, φ h1 → (∀ o, h1.get? a = some o → h2.get? a = some o) → φ h2
def HOk (H : Hp) (h : Heap) : Prop := ∀ a o, H a = some o → ObjOk P w H h a o
end
section
variable {P : Program} {w : World} {H H' : Hp} {h h' : Heap} {a : Addr} {o : HO}
theorem ObjOk.lt (x : ObjOk P w H h a o) : a < h.objs.size := by
  cases o with
  | lst xs => obtain ⟨_, _, _, _, e⟩ := x; exact Heap.lt_size e
  | tup xs => obtain ⟨_, _, _, p⟩ := x; exact p.lt
  | dK kvs => obtain ⟨_, _, _, _, o, _, _, e, _⟩ := x; exact Heap.lt_size e
  | dT kvs => obtain ⟨_, _, _, _, o, _, _, e, _⟩ := x; exact Heap.lt_size e
  | dct ks vs => obtain ⟨_, _, _, o, _, _, e, _⟩ := x; exact Heap.lt_size e
  | set S n => obtain ⟨o, _, _, _, e, _⟩ := x; exact Heap.lt_size e
  | ins C dx fs => obtain ⟨_, _, _, e, _⟩ := x; exact Heap.lt_size e
  | own y => obtain ⟨_, e⟩ := x; exact Heap.lt_size e
  | xd fs => obtain ⟨_, ⟨_, _, _, e, _⟩, _⟩ := x; exact Heap.lt_size e
  | rng lo hi => obtain ⟨_, _, _, e⟩ := x; exact Heap.lt_size e
  | frz ob u => obtain ⟨e, _⟩ := x; exact Heap.lt_size e
  | tbl ps => exact Heap.lt_size (show h.get? a = some _ from x)
  | met f y => exact Heap.lt_size (show h.get? a = some _ from x)
  | ext φ => obtain ⟨_, ⟨_, e⟩, _⟩ := x; exact Heap.lt_size e
theorem Paired.mapP {α β : Type} {F G : α → β → Prop} : ∀ {l₁ : List α} {l₂ : List β}, Paired F l₁ l₂ → (∀ a b, F a b → G a b) → Paired G l₁ l₂
  | _, _, .nil, _ => .nil
  | _, _, .cons r t, f => .cons (f _ _ r) (Paired.mapP t f)
theorem ObjOk.stay (x : ObjOk P w H h a o) (k : ∀ b u, (b = a ∨ H b = some (.own a)) → h.get? b = some u → h'.get? b = some u)
    (ho : ∀ b, H b = some (.own a) → H' b = some (.own a)) (ht : ∀ b xs, H b = some (.tup xs) → H' b = some (.tup xs)) : ObjOk P w H' h' a o := by
  induction o with
  | lst xs => obtain ⟨z, its, n, r, e⟩ := x; exact ⟨z, its, n, r, k _ _ (.inl rfl) e⟩
  | tup xs => obtain ⟨z, its, r, ob, e, c⟩ := x; exact ⟨z, its, r, ob, k _ _ (.inl rfl) e, c⟩
  | dK kvs => obtain ⟨z, y, vs, r, ob, es, ep, e, c⟩ := x; exact ⟨z, y, vs, r, ob, es, ep, k _ _ (.inl rfl) e, c⟩
  | dT kvs =>
    obtain ⟨z, y, xs, r, ob, es, ep, e, c⟩ := x
    exact ⟨z, y, xs, Paired.mapP r fun p q z => ⟨z.1, ht _ _ z.2.1, z.2.2⟩, ob, es, ep, k _ _ (.inl rfl) e, c⟩
  | dct ks vs => obtain ⟨z, y, n, ob, es, ep, e, c⟩ := x; exact ⟨z, y, n, ob, es, ep, k _ _ (.inl rfl) e, c⟩
  | set S n => obtain ⟨ob, es, ep, t, e, c⟩ := x; exact ⟨ob, es, ep, t, k _ _ (.inl rfl) e, c⟩
  | ins C dx fs =>
    obtain ⟨d, z, ne, e, mA, ⟨od, es, ep, e2, c⟩, r⟩ := x
    exact ⟨ho _ d, z, ne, k _ _ (.inl rfl) e, mA, ⟨od, es, ep, k _ _ (.inr d) e2, c⟩, r⟩
  | own y => obtain ⟨ob, e⟩ := x; exact ⟨ob, k _ _ (.inl rfl) e⟩
  | xd fs => obtain ⟨mA, ⟨od, es, ep, e, c⟩, r⟩ := x; exact ⟨mA, ⟨od, es, ep, k _ _ (.inl rfl) e, c⟩, r⟩
  | rng lo hi => obtain ⟨t, u, v, e⟩ := x; exact ⟨t, u, v, k _ _ (.inl rfl) e⟩
  | frz ob u ih => obtain ⟨e, q⟩ := x; exact ⟨k _ _ (.inl rfl) e, ih q⟩
  | tbl ps =>
    have e : h.get? a = some { cls := .none, data := .fields ps } := x
    show h'.get? a = some { cls := .none, data := .fields ps }
    exact k a _ (.inl rfl) e
  | met f y =>
    have e : h.get? a = some (PySem.W.methodObj (.ref f) (.ref y)) := x
    show h'.get? a = some (PySem.W.methodObj (.ref f) (.ref y))
    exact k a _ (.inl rfl) e
  | ext φ => obtain ⟨p, ⟨o, e⟩, st⟩ := x; exact ⟨st _ _ p fun o q => k _ _ (.inl rfl) q, ⟨o, k _ _ (.inl rfl) e⟩, st⟩
theorem HOk.lt (x : HOk P w H h) (e : H a = some o) : a < h.objs.size := (x a o e).lt
theorem HOk.fresh (x : HOk P w H h) (e : h.objs.size ≤ a) : H a = none := by
  cases q : H a with
  | none => rfl
  | some u => exact absurd (Nat.lt_of_lt_of_le (x.lt q) e) (Nat.lt_irrefl _)
theorem HOk.kept (x : HOk P w H h) (k : ∀ b u, h.get? b = some u → h'.get? b = some u) : HOk P w H h' := fun a o e =>
  (x a o e).stay (fun b u _ q => k b u q) (fun _ q => q) fun _ _ q => q
theorem HOk.laid (x : HOk P w H h) (k : ∀ b u, h.get? b = some u → h'.get? b = some u) (hp : h.objs.size ≤ a) (new : ObjOk P w (upd H a o) h' a o) : HOk P w (upd H a o) h' := fun b u e => by
  have hn := x.fresh hp
  by_cases hb : b = a
  · subst hb; rw [upd_same] at e; cases e; exact new
  · rw [upd_ne hb] at e
    exact (x b u e).stay (fun c v _ q => k c v q) (fun c q => by rw [upd_ne (ne_of_none q hn)]; exact q) fun c xs q => by rw [upd_ne (ne_of_none q hn)]; exact q
end
def Rd (H : Hp) (a : Addr) (u : HO) : Prop := H a = some u ∨ ∃ o, H a = some (.frz o u)
theorem Rd.of {H : Hp} {a : Addr} {u : HO} (h : H a = some u) : Rd H a u := .inl h
theorem Rd.ok {P : Program} {w : World} {H : Hp} {h : Heap} {a : Addr} {u : HO} (r : Rd H a u) (x : HOk P w H h) : ObjOk P w H h a u := by
  rcases r with r | ⟨o, r⟩
  · exact x a u r
  · obtain ⟨_, q⟩ := x a _ r
    exact q
def Mut : Option HO → Prop
  | some (.lst _) => True
  | some (.dK _) => True
  | some (.dT _) => True
  | some (.dct _ _) => True
  | some (.set _ _) => True
  | some (.ins _ _ _) => True
  | some (.ext _) => True
  | _ => False
section
variable {P : Program} {w : World} {H : Hp} {h h' : Heap} {x e : Addr} {o' : HO}
theorem HOk.write (ok : HOk P w H h) (mu : Mut (H x)) (he : e = x ∨ H e = some (.own x)) (k : ∀ b u, b ≠ e → h.get? b = some u → h'.get? b = some u) (heo : ∃ u, h'.get? e = some u)
    (new : ObjOk P w (upd H x o') h' x o') : HOk P w (upd H x o') h' := fun b u q => by
  have nown : ∀ c y, H c = some (.own y) → c ≠ x := fun c y r z => by subst z; rw [r] at mu; exact mu
  have ntup : ∀ c xs, H c = some (.tup xs) → c ≠ x := fun c xs r z => by subst z; rw [r] at mu; exact mu
  by_cases hb : b = x
  · subst hb; rw [upd_same] at q; cases q; exact new
  · rw [upd_ne hb] at q
    by_cases hbe : b = e
    · have q' : H b = some (.own x) := by
        rcases he with z | z
        · exact absurd (hbe.trans z) hb
        · rw [hbe]; exact z
      rw [q] at q'; cases q'
      obtain ⟨v, hv⟩ := heo
      exact ⟨v, by rw [hbe]; exact hv⟩
    · refine (ok b u q).stay (fun c v hc r => k c v ?_ r) (fun c r => by rw [upd_ne (nown c b r)]; exact r) fun c xs r => by rw [upd_ne (ntup c xs r)]; exact r
      rcases hc with rfl | hc
      · exact hbe
      · rintro rfl
        rcases he with z | z
        · exact nown c b hc z
        · rw [hc] at z; cases z; exact hb rfl
end
structure Un (fs ex : List Addr) (H H' : Hp) (h h' : Heap) : Prop where
  keep : ∀ b o, h.get? b = some o → H b = none → b ∉ fs → b ∉ ex → h'.get? b = some o
  slot : ∀ b o, h.get? b = some o → H b = none → b ∈ fs → b ∉ ex → ∃ sl, h'.get? b = some { o with slots := sl }
  free : ∀ b o, h.get? b = some o → H b = none → b ∉ ex → H' b = none
  there : ∀ b o, h.get? b = some o → b ∉ ex → ∃ o', h'.get? b = some o'
  tups : ∀ b xs, H b = some (.tup xs) → H' b = some (.tup xs)
  frzs : ∀ b o u, H b = some (.frz o u) → H' b = some (.frz o u)
  tbls : ∀ b ps, H b = some (.tbl ps) → ∃ more, H' b = some (.tbl (ps ++ more))
section
variable {fs fs' ex ex' : List Addr} {H H1 H2 : Hp} {h h1 h2 h' : Heap} {a x e : Addr} {o : HO}
theorem Un.any (u : Un fs ex H H1 h h1) {b : Addr} {ob : Obj} (q : h.get? b = some ob) (n : H b = none) (hx : b ∉ ex) : ∃ sl, h1.get? b = some { ob with slots := sl } := by
  by_cases hb : b ∈ fs
  · exact u.slot b ob q n hb hx
  · exact ⟨ob.slots, u.keep b ob q n hb hx⟩
theorem Un.trans (a : Un fs ex H H1 h h1) (b : Un fs ex H1 H2 h1 h2) : Un fs ex H H2 h h2 where
  keep := fun c ob q n hc hx => b.keep c ob (a.keep c ob q n hc hx) (a.free c ob q n hx) hc hx
  slot := fun c ob q n hc hx => by
    obtain ⟨sl, e1⟩ := a.slot c ob q n hc hx
    obtain ⟨sl', e2⟩ := b.slot c _ e1 (a.free c ob q n hx) hc hx
    exact ⟨sl', e2⟩
  free := fun c ob q n hx => by
    obtain ⟨o', e1⟩ := a.there c ob q hx
    exact b.free c o' e1 (a.free c ob q n hx) hx
  there := fun c ob q hx => by
    obtain ⟨o', e1⟩ := a.there c ob q hx
    exact b.there c o' e1 hx
  tups := fun c xs q => b.tups c xs (a.tups c xs q)
  frzs := fun c ob xs q => b.frzs c ob xs (a.frzs c ob xs q)
  tbls := fun c ps q => by
    obtain ⟨m1, e1⟩ := a.tbls c ps q
    obtain ⟨m2, e2⟩ := b.tbls c _ e1
    exact ⟨m1 ++ m2, by rw [e2, Array.append_assoc]⟩
theorem Un.kept (k : ∀ b u, h.get? b = some u → h'.get? b = some u) : Un fs ex H H h h' :=
  ⟨fun b ob q _ _ _ => k b ob q, fun b ob q _ _ _ => ⟨ob.slots, k b ob q⟩, fun _ _ _ n _ => n, fun b ob q _ => ⟨ob, k b ob q⟩, fun _ _ q => q, fun _ _ _ q => q, fun _ ps q => ⟨#[], by rw [q]; simp⟩⟩
theorem Un.refl : Un fs ex H H h h := Un.kept fun _ _ q => q
theorem Un.laid (k : ∀ b u, h.get? b = some u → h'.get? b = some u) (hp : h.objs.size ≤ a) (hn : H a = none) : Un fs ex H (upd H a o) h h' where
  keep := fun b u q _ _ _ => k b u q
  slot := fun b u q _ _ _ => ⟨u.slots, k b u q⟩
  free := fun b u q n _ => by rw [upd_ne (Nat.ne_of_lt (Nat.lt_of_lt_of_le (Heap.lt_size q) hp))]; exact n
  there := fun b u q _ => ⟨u, k b u q⟩
  tups := fun b xs q => by rw [upd_ne (ne_of_none q hn)]; exact q
  frzs := fun b u xs q => by rw [upd_ne (ne_of_none q hn)]; exact q
  tbls := fun b ps q => ⟨#[], by rw [upd_ne (ne_of_none q hn), q]; simp⟩
theorem Un.write (mu : Mut (H x)) (he : e = x ∨ H e = some (.own x)) (k : ∀ b u, b ≠ e → h.get? b = some u → h'.get? b = some u) (heo : ∃ u, h'.get? e = some u) : Un fs ex H (upd H x o) h h' := by
  have hx : ∀ b, H b = none → b ≠ x := fun b n z => by subst z; rw [n] at mu; exact mu
  have hb : ∀ b, H b = none → b ≠ e := fun b n z => by
    subst z
    rcases he with r | r
    · exact hx b n r
    · rw [n] at r; cases r
  have hm : ∀ b u, H b = some u → ¬ Mut (some u) → b ≠ x := fun b u q nm z => by subst z; rw [q] at mu; exact nm mu
  refine ⟨fun b u q n _ _ => k b u (hb b n) q, fun b u q n _ _ => ⟨u.slots, k b u (hb b n) q⟩, fun b u q n _ => by rw [upd_ne (hx b n)]; exact n, fun b u q _ => ?_,
    fun b xs q => by rw [upd_ne (hm b _ q fun z => z)]; exact q, fun b u xs q => by rw [upd_ne (hm b _ q fun z => z)]; exact q, fun b ps q => ⟨#[], by rw [upd_ne (hm b _ q fun z => z), q]; simp⟩⟩
  by_cases hbe : b = e
  · subst hbe; exact heo
  · exact ⟨u, k b u hbe q⟩
theorem Un.mono (u : Un fs ex H H1 h h1) (hs : ∀ b ∈ fs, b ∈ fs') (hx : ∀ b ∈ ex, b ∈ ex') : Un fs' ex' H H1 h h1 :=
  ⟨fun b ob q n hb he => u.keep b ob q n (fun z => hb (hs b z)) fun z => he (hx b z), fun _ _ q n _ he => u.any q n fun z => he (hx _ z), fun b ob q n he => u.free b ob q n fun z => he (hx b z), fun b ob q he => u.there b ob q fun z => he (hx b z), u.tups, u.frzs, u.tbls⟩
end
def trk (h : Heap) (H : Hp) : List Addr := (List.range h.objs.size).filter fun a => (H a).isSome
def hidT (h : Heap) (H : Hp) : Heap := PySem.W.hideAll h (trk h H)
theorem hidT_size (h : Heap) (H : Hp) : (hidT h H).objs.size = h.objs.size := PySem.W.hideAll_size _ _
theorem hidT_get {h : Heap} {H : Hp} {b : Addr} {o : Obj} (e : h.get? b = some o) (n : H b = none) : (hidT h H).get? b = some o :=
  PySem.W.hideAll_get _ e fun hm => by
    have q : (H b).isSome = true := (List.mem_filter.mp hm).2
    rw [n] at q; simp at q
theorem of_hidT {h : Heap} {H : Hp} {b : Addr} {o : Obj} (e : (hidT h H).get? b = some o) : h.get? b = some o ∧ H b = none := by
  have e' : h.get? b = some o := PySem.W.of_hideAll (trk h H) e
  refine ⟨e', ?_⟩
  cases q : H b with
  | none => rfl
  | some x =>
    have hm : b ∈ trk h H := List.mem_filter.mpr ⟨List.mem_range.mpr (Heap.lt_size e'), by simp [q]⟩
    have z : (hidT h H).get? b = none := PySem.W.hideAll_none (trk h H) hm
    rw [z] at e; cases e
def allNews (g h : Heap) (L : Addr) : List (Addr × Obj) := (List.range h.objs.size).filterMap fun a => if a = L ∨ (g.get? a).isSome = true then none else (h.get? a).map fun o => (a, o)
def rest (g h : Heap) (L d : Addr) : List (Addr × Obj) := (allNews g h L).filter fun p => decide (p.1 ≠ d)
end L2
namespace L2
open PySem PySem.Spec PyProof.Rows
structure Mod (K : PySem.W.Frag) (mg : Str → Option Value) (base : Heap) : Prop where
  kin : K.In base
  glob : base.Ns mainGlobals mg
  blt : ∃ mb, base.Ns builtinsNs mb ∧ ∀ x : Str, x ≠ "__name__" → mb x = bootBuiltins x
  nolimit : base.NoLimit
structure Cx where
  prog : Program
  w : World
  K : PySem.W.Frag
  mg : Str → Option Value
  base : Heap
  A : Around
  N : List Str
  s₀ : Shared
  H₀ : Hp
  env : Env
  outer : List Env
  stack : List Env
  ex : List Addr
  fn : Str → Bool
  calm : Bool
  pn : List (Addr × Obj)
  xe : Value → Shared → Prop
def frs (l : List Env) : List Addr := l.filterMap (·.frame)
abbrev Cx.fs (X : Cx) : List Addr := frs X.outer
def Vis (sc : Scope) (x : Str) : Prop := sc.names.lookup x = some .local ∨ sc.names.lookup x = some .cell ∨ sc.names.lookup x = some .free
def Loc (sc : Scope) (x : Str) : Prop := sc.names.lookup x = some .local ∨ sc.names.lookup x = some .cell
def Look (env : Env) (h : Heap) (m : Str → Option Value) (x : Str) (u : Value) : Prop :=
  (env.kindOf x = some .local ∧ m x = some u) ∨ ((env.kindOf x = some .cell ∨ env.kindOf x = some .free) ∧ ∃ c, env.cells.lookup x = some c ∧ h.IsCell c (some u))
structure Cx.Ok (X : Cx) : Prop where
  mod : Mod X.K X.mg X.base
  kind : X.env.scope.kind = .function
  glob : X.env.globals = mainGlobals
  blt : X.env.builtins = builtinsNs
  above : X.s₀.heap.objs.size ≤ X.env.locals
  inj : ∀ x y c, X.env.cells.lookup x = some c → X.env.cells.lookup y = some c → x = y
  has : ∀ x, (X.env.kindOf x = some .cell ∨ X.env.kindOf x = some .free) → ∃ c, X.env.cells.lookup x = some c
  cab : ∀ x c, X.fn x = true → X.env.cells.lookup x = some c → X.s₀.heap.objs.size ≤ c
  hd : X.calm = true → X.A.handled = none
  frames : X.A.frames = some X.stack
  stk : X.stack = X.outer ∨ (X.stack = X.env :: X.outer ∧ X.env.frame = some X.env.locals)
  exf : ∀ b ∈ X.ex, b ≠ X.env.locals ∧ ∀ x c, X.env.cells.lookup x = some c → c ≠ b
  bs : ∀ b o, X.base.get? b = some o → X.s₀.heap.get? b = some o ∧ X.H₀ b = none
  bsz : X.base.objs.size ≤ X.s₀.heap.objs.size
  noex : ∀ b o, X.base.get? b = some o → b ∉ X.ex
  exfs : ∀ b ∈ X.ex, b ∉ X.fs
  funs : X.s₀.heap.FunFrames X.base X.outer
  frf : ∀ b ∈ X.fs, X.H₀ b = none
structure Inv (X : Cx) (pins : List (Addr × Obj)) (σ : List (Option V)) (H : Hp) (s : Shared) : Prop where
  ok : X.Ok
  os : s.os = X.s₀.os
  bare : AllBare s.gens
  base : Un X.fs X.ex X.H₀ H X.s₀.heap s.heap
  loc : ∃ m, s.heap.Ns X.env.locals m ∧ ∀ (i : Nat) (x : Str) (v : V), X.N[i]? = some x → σ[i]? = some (some v) → Vis X.env.scope x → ∃ u, RelV v u ∧ Look X.env s.heap m x u
  cell : ∀ x c, X.env.cells.lookup x = some c → ∃ v, s.heap.IsCell c v
  free : H X.env.locals = none
  freeC : ∀ x c, X.env.cells.lookup x = some c → H c = none
  pin : ∀ p ∈ X.pn ++ pins, s.heap.get? p.1 = some p.2 ∧ H p.1 = none ∧ p.1 ≠ X.env.locals ∧ p.1 ∉ X.fs ∧ ∀ v, p.2.data ≠ .cell v
  hok : HOk X.prog X.w H s.heap
  len : σ.length = X.N.length
section
variable {X : Cx} {pins : List (Addr × Obj)} {σ : List (Option V)} {H H' : Hp} {s : Shared} {h' : Heap}
theorem Cx.Ok.nofr (ok : X.Ok) {b : Addr} {o : Obj} (e : X.base.get? b = some o) : b ∉ X.fs := fun hb => by
  have := (ok.funs.mem hb).1
  rw [e] at this; cases this
theorem Inv.bs (I : Inv X pins σ H s) : ∀ b o, X.base.get? b = some o → s.heap.get? b = some o ∧ H b = none := fun b o e =>
  ⟨I.base.keep b o (I.ok.bs b o e).1 (I.ok.bs b o e).2 (I.ok.nofr e) (I.ok.noex b o e), I.base.free b o (I.ok.bs b o e).1 (I.ok.bs b o e).2 (I.ok.noex b o e)⟩
theorem Inv.bk (I : Inv X pins σ H s) : ∀ b o, X.base.get? b = some o → s.heap.get? b = some o := fun b o e => (I.bs b o e).1
theorem Inv.mod (I : Inv X pins σ H s) : Mod X.K X.mg X.base := I.ok.mod
theorem Inv.kIn (I : Inv X pins σ H s) : X.K.In s.heap := I.ok.mod.kin.keeps I.bk
theorem Inv.nolimit (I : Inv X pins σ H s) : s.heap.NoLimit := I.ok.mod.nolimit.keeps I.bk
theorem Inv.lt (I : Inv X pins σ H s) : X.env.locals < s.heap.objs.size := let ⟨_, hn, _⟩ := I.loc; hn.lt
theorem Inv.sz (I : Inv X pins σ H s) : X.s₀.heap.objs.size ≤ s.heap.objs.size := Nat.le_trans I.ok.above (Nat.le_of_lt I.lt)
theorem Inv.nofs (I : Inv X pins σ H s) {a : Addr} (h : s.heap.objs.size ≤ a) : a ∉ X.fs := fun hb => by
  obtain ⟨_, o, ho, _⟩ := I.ok.funs.mem hb
  exact absurd (Nat.lt_of_lt_of_le (Heap.lt_size ho) (Nat.le_trans I.sz h)) (Nat.lt_irrefl _)
theorem Inv.cne (I : Inv X pins σ H s) : ∀ x c, X.env.cells.lookup x = some c → c ≠ X.env.locals := fun x c e z => by
  obtain ⟨v, o, ho, hd⟩ := I.cell x c e
  obtain ⟨m, ⟨o', es, ep, ho', hd', _⟩, _⟩ := I.loc
  rw [z, ho'] at ho; cases ho; rw [hd'] at hd; cases hd
theorem Inv.funs (I : Inv X pins σ H s) : s.heap.FunFrames X.base X.outer := by
  have all : ∀ (l : List Env), (∀ b ∈ frs l, b ∈ X.fs) → X.s₀.heap.FunFrames X.base l → s.heap.FunFrames X.base l := by
    intro l
    induction l with
    | nil => intro _ _; trivial
    | cons env r ih =>
      intro hs hl
      obtain ⟨hk, ⟨L, o, hf, hn, ho, hd⟩, hr⟩ := hl
      have hL : L ∈ X.fs := hs L (by unfold frs; rw [List.filterMap_cons, hf]; exact List.mem_cons_self)
      obtain ⟨sl, e⟩ := I.base.slot L o ho (I.ok.frf L hL) hL fun z => I.ok.exfs L z hL
      exact ⟨hk, ⟨L, _, hf, hn, e, hd⟩, ih (fun b hb => hs b (by unfold frs; rw [List.filterMap_cons, hf]; exact List.mem_cons_of_mem _ hb)) hr⟩
  exact all X.outer (fun _ hb => hb) I.ok.funs
theorem Inv.stack (I : Inv X pins σ H s) : s.heap.FunFrames X.base X.stack := by
  rcases I.ok.stk with e | ⟨e, hf⟩
  · rw [e]; exact I.funs
  · rw [e]
    obtain ⟨m, hn, _⟩ := I.loc
    refine .cons (by rw [I.ok.kind]; decide) hf hn ?_ I.funs
    exact Heap.get?_none_of_le (Nat.le_trans I.ok.bsz I.ok.above)
theorem Inv.stkSub (I : Inv X pins σ H s) : ∀ b ∈ frs X.stack, b ∈ X.env.locals :: X.fs := fun b hb => by
  rcases I.ok.stk with e | ⟨e, hf⟩
  · rw [e] at hb; exact List.mem_cons_of_mem _ hb
  · rw [e] at hb
    unfold frs at hb
    rw [List.filterMap_cons, hf] at hb
    exact hb
theorem Inv.stkFree (I : Inv X pins σ H s) : ∀ b ∈ frs X.stack, H b = none := fun b hb => by
  rcases List.mem_cons.mp (I.stkSub b hb) with e | hb
  · rw [e]; exact I.free
  · obtain ⟨_, o, ho, _⟩ := I.ok.funs.mem hb
    exact I.base.free b o ho (I.ok.frf b hb) fun z => I.ok.exfs b z hb
theorem Inv.step {g' : Array GenState} {t' : Nat} {d' : Drawn} {ch : List Addr} (I : Inv X pins σ H s)
    (hch : ∀ b ∈ ch, (b ∈ X.ex ∨ X.s₀.heap.objs.size ≤ b) ∧ b ≠ X.env.locals ∧ (∀ x c, X.env.cells.lookup x = some c → c ≠ b) ∧ ∀ p ∈ X.pn ++ pins, p.1 ≠ b)
    (keep : ∀ b o, b ≠ X.env.locals → b ∉ X.fs → b ∉ ch → s.heap.get? b = some o → H b = none → h'.get? b = some o)
    (slot : ∀ b o, b ≠ X.env.locals → b ∈ X.fs → b ∉ ch → s.heap.get? b = some o → H b = none → ∃ sl, h'.get? b = some { o with slots := sl }) (free : ∀ b o, b ∉ ch → s.heap.get? b = some o → H b = none → H' b = none)
    (there : ∀ b o, b ∉ ch → s.heap.get? b = some o → ∃ o', h'.get? b = some o')
    (tups : ∀ b xs, H b = some (.tup xs) → H' b = some (.tup xs)) (frzs : ∀ b o u, H b = some (.frz o u) → H' b = some (.frz o u)) (tbls : ∀ b ps, H b = some (.tbl ps) → ∃ more, H' b = some (.tbl (ps ++ more)))
    (ns : ∀ m, s.heap.Ns X.env.locals m → h'.Ns X.env.locals m) (hok : HOk X.prog X.w H' h') (hg : AllBare g') :
    Inv X pins σ H' { s with heap := h', gens := g', drawn := d', toks := t' } := by
  have neL : ∀ b o, X.s₀.heap.get? b = some o → b ≠ X.env.locals := fun b o e => Nat.ne_of_lt (Nat.lt_of_lt_of_le (Heap.lt_size e) I.ok.above)
  have neC : ∀ b o, X.s₀.heap.get? b = some o → b ∉ X.ex → b ∉ ch := fun b o e hx hb => by
    rcases (hch b hb).1 with z | z
    · exact hx z
    · exact absurd (Nat.lt_of_lt_of_le (Heap.lt_size e) z) (Nat.lt_irrefl _)
  have cellK : ∀ x c, X.env.cells.lookup x = some c → ∀ v, s.heap.IsCell c v → h'.IsCell c v := fun x c e v ⟨o, ho, hd⟩ => by
    have nch : c ∉ ch := fun z => (hch c z).2.2.1 x c e rfl
    by_cases hc : c ∈ X.fs
    · obtain ⟨sl, q⟩ := slot c o (I.cne x c e) hc nch ho (I.freeC x c e)
      exact ⟨_, q, hd⟩
    · exact ⟨o, keep c o (I.cne x c e) hc nch ho (I.freeC x c e), hd⟩
  refine ⟨I.ok, I.os, hg, ⟨fun b o e n hb hx => ?_, fun b o e n hb hx => ?_, fun b o e n hx => ?_, fun b o e hx => ?_, fun b xs e => tups b xs (I.base.tups b xs e), fun b o xs e => frzs b o xs (I.base.frzs b o xs e), fun b ps e => ?_⟩, ?_, fun x c e => ?_, ?_, fun x c e => ?_, fun p hp => ?_, hok, I.len⟩
  · exact keep b o (neL b o e) hb (neC b o e hx) (I.base.keep b o e n hb hx) (I.base.free b o e n hx)
  · obtain ⟨sl, e1⟩ := I.base.slot b o e n hb hx
    obtain ⟨sl', e2⟩ := slot b _ (neL b o e) hb (neC b o e hx) e1 (I.base.free b o e n hx)
    exact ⟨sl', e2⟩
  · obtain ⟨o', e1⟩ := I.base.there b o e hx
    exact free b o' (neC b o e hx) e1 (I.base.free b o e n hx)
  · obtain ⟨o', e1⟩ := I.base.there b o e hx
    exact there b o' (neC b o e hx) e1
  · obtain ⟨m1, e1⟩ := I.base.tbls b ps e
    obtain ⟨m2, e2⟩ := tbls b _ e1
    exact ⟨m1 ++ m2, by rw [e2, Array.append_assoc]⟩
  · obtain ⟨m, hn, hl⟩ := I.loc
    refine ⟨m, ns m hn, fun i x v e1 e2 e3 => ?_⟩
    obtain ⟨u, r, l⟩ := hl i x v e1 e2 e3
    refine ⟨u, r, ?_⟩
    rcases l with l | ⟨k, c, e, z⟩
    · exact .inl l
    · exact .inr ⟨k, c, e, cellK x c e _ z⟩
  · obtain ⟨v, z⟩ := I.cell x c e
    exact ⟨v, cellK x c e v z⟩
  · obtain ⟨m, ⟨o, _, _, ho, _⟩, _⟩ := I.loc
    exact free _ o (fun z => (hch _ z).2.1 rfl) ho I.free
  · obtain ⟨v, o, ho, hd⟩ := I.cell x c e
    exact free c o (fun z => (hch c z).2.2.1 x c e rfl) ho (I.freeC x c e)
  · obtain ⟨e, n, ne, nf, d⟩ := I.pin p hp
    have nch : p.1 ∉ ch := fun z => (hch p.1 z).2.2.2 p hp rfl
    exact ⟨keep p.1 p.2 ne nf nch e n, free p.1 p.2 nch e n, ne, nf, d⟩
theorem Inv.un {t' : Nat} (I : Inv X pins σ H s) (u : Un X.fs [] H H' s.heap h') (hok : HOk X.prog X.w H' h') : Inv X pins σ H' { s with heap := h', toks := t' } := by
  obtain ⟨m, ⟨o, es, ep, ho, r⟩, _⟩ := id I.loc
  obtain ⟨sl, hL⟩ := u.any ho I.free (by simp)
  exact I.step (g' := s.gens) (d' := s.drawn) (ch := []) (fun _ z => nomatch z) (fun b o _ hb _ e n => u.keep b o e n hb (by simp)) (fun b o _ hb _ e n => u.slot b o e n hb (by simp)) (fun b o _ e n => u.free b o e n (by simp)) (fun b o _ e => u.there b o e (by simp)) u.tups u.frzs u.tbls (fun m' hm => by
    obtain ⟨o', es', ep', ho', r'⟩ := hm
    rw [ho] at ho'; cases ho'
    exact ⟨_, es', ep', hL, r'⟩) hok I.bare
theorem Inv.call {g' : Array GenState} {t' : Nat} {d' : Drawn} {ch : List Addr} (I : Inv X pins σ H s) (u : Un (frs X.stack) ch H H' s.heap h') (hok : HOk X.prog X.w H' h') (hg : AllBare g')
    (hch : ∀ b ∈ ch, (b ∈ X.ex ∨ X.s₀.heap.objs.size ≤ b) ∧ b ≠ X.env.locals ∧ (∀ x c, X.env.cells.lookup x = some c → c ≠ b) ∧ ∀ p ∈ X.pn ++ pins, p.1 ≠ b) :
    Inv X pins σ H' { s with heap := h', gens := g', drawn := d', toks := t' } := by
  obtain ⟨m, ⟨o, es, ep, ho, r⟩, _⟩ := id I.loc
  obtain ⟨sl, hL⟩ := u.any ho I.free fun z => (hch _ z).2.1 rfl
  exact I.step (ch := ch) hch (fun b o hL hb hc e n => u.keep b o e n (fun z => (List.mem_cons.mp (I.stkSub b z)).elim hL hb) hc) (fun b o _ _ hc e n => u.any e n hc) (fun b o hc e n => u.free b o e n hc) (fun b o hc e => u.there b o e hc) u.tups u.frzs u.tbls (fun m' hm => by
    obtain ⟨o', es', ep', ho', r'⟩ := hm
    rw [ho] at ho'; cases ho'
    exact ⟨_, es', ep', hL, r'⟩) hok hg
theorem Inv.turned {t' : Nat} {it : Addr} (I : Inv X pins σ H s) (k : ∀ b o, b ≠ it → s.heap.get? b = some o → h'.get? b = some o) (hn : H it = none) (hL : it ≠ X.env.locals)
    (h1 : it ∈ X.ex ∨ X.s₀.heap.objs.size ≤ it) (h2 : ∀ x c, X.env.cells.lookup x = some c → c ≠ it) (h3 : ∀ p ∈ X.pn ++ pins, p.1 ≠ it) : Inv X pins σ H { s with heap := h', toks := t' } := by
  have nit : ∀ b u, H b = some u → b ≠ it := fun b u e z => by rw [z, hn] at e; cases e
  refine I.step (g' := s.gens) (d' := s.drawn) (ch := [it]) (fun b hb => ?_) (fun b o _ _ hc e _ => k b o (fun z => hc (by simp [z])) e) (fun b o _ _ hc e _ => ⟨o.slots, k b o (fun z => hc (by simp [z])) e⟩) (fun _ _ _ _ n => n)
    (fun b o hc e => ⟨o, k b o (fun z => hc (by simp [z])) e⟩) (fun _ _ e => e) (fun _ _ _ e => e) (fun b ps e => ⟨#[], by rw [e]; simp⟩) (fun m hm => ?_) (fun b u e => ?_) I.bare
  · have e : b = it := by simpa using hb
    subst e
    exact ⟨h1, hL, h2, h3⟩
  · obtain ⟨o, es, ep, ho, r⟩ := hm
    exact ⟨o, es, ep, k _ o (Ne.symm hL) ho, r⟩
  · refine (I.hok b u e).stay (fun c v hc q => k c v ?_ q) (fun _ q => q) fun _ _ q => q
    rcases hc with z | z
    · rw [z]; exact nit b u e
    · exact nit c _ z
theorem Inv.tok (I : Inv X pins σ H s) (t : Nat) : Inv X pins σ H { s with toks := t } := I.un (h' := s.heap) (t' := t) Un.refl I.hok
theorem Inv.kept {t' : Nat} (I : Inv X pins σ H s) (k : ∀ b u, s.heap.get? b = some u → h'.get? b = some u) : Inv X pins σ H { s with heap := h', toks := t' } := I.un (Un.kept k) (I.hok.kept k)
theorem Inv.laid {a : Addr} {o : HO} {t' : Nat} (I : Inv X pins σ H s) (k : ∀ b u, s.heap.get? b = some u → h'.get? b = some u) (hp : s.heap.objs.size ≤ a) (new : ObjOk X.prog X.w (upd H a o) h' a o) :
    Inv X pins σ (upd H a o) { s with heap := h', toks := t' } := I.un (Un.laid k hp (I.hok.fresh hp)) (I.hok.laid k hp new)
theorem Inv.write {x e : Addr} {o : HO} {t' : Nat} (I : Inv X pins σ H s) (mu : Mut (H x)) (he : e = x ∨ H e = some (.own x)) (k : ∀ b u, b ≠ e → s.heap.get? b = some u → h'.get? b = some u) (heo : ∃ u, h'.get? e = some u)
    (new : ObjOk X.prog X.w (upd H x o) h' x o) : Inv X pins σ (upd H x o) { s with heap := h', toks := t' } := I.un (Un.write mu he k heo) (I.hok.write mu he k heo new)
theorem Inv.weak {σ' : List (Option V)} (I : Inv X pins σ H s) (hl : σ'.length = σ.length) (w : ∀ (i : Nat) v, σ'[i]? = some (some v) → σ[i]? = some (some v)) : Inv X pins σ' H s :=
  ⟨I.ok, I.os, I.bare, I.base, let ⟨m, hn, hl'⟩ := I.loc; ⟨m, hn, fun i x v e1 e2 e3 => hl' i x v e1 (w i v e2) e3⟩, I.cell, I.free, I.freeC, I.pin, I.hok, hl.trans I.len⟩
theorem Inv.pins_of {pins' : List (Addr × Obj)} (I : Inv X pins σ H s) (h : ∀ p ∈ pins', s.heap.get? p.1 = some p.2 ∧ H p.1 = none ∧ p.1 ≠ X.env.locals ∧ p.1 ∉ X.fs ∧ ∀ v, p.2.data ≠ .cell v) : Inv X pins' σ H s :=
  ⟨I.ok, I.os, I.bare, I.base, I.loc, I.cell, I.free, I.freeC, fun p hp => (List.mem_append.mp hp).elim (fun z => I.pin p (List.mem_append_left _ z)) (h p), I.hok, I.len⟩
theorem nodup_ix {N : List Str} (hN : N.Nodup) {i j : Nat} {x : Str} (a : N[i]? = some x) (b : N[j]? = some x) : i = j := by
  obtain ⟨h1, e1⟩ := List.getElem?_eq_some_iff.mp a
  obtain ⟨h2, e2⟩ := List.getElem?_eq_some_iff.mp b
  exact (List.getElem_inj hN).mp (e1.trans e2.symm)
theorem store_ok2 {M : Model} {A : Around} {E : Value → Shared → Prop} {i : Nat} {x : Str} {v : V} {u : Value} {Q : Unit → Shared → Prop} (I : Inv X pins σ H s) (hN : X.N.Nodup) (hi : X.N[i]? = some x) (hx : Loc X.env.scope x) (r : RelV v u)
    (h : ∀ s', Inv X pins (σ.set i (some v)) H s' → (∃ a, Heap.SameBut a s.heap s'.heap ∧ (a = X.env.locals ∨ X.env.cells.lookup x = some a)) → Q () s') (hf : X.fn x = true ∨ X.env.scope.names.lookup x = some .local := by first | exact .inl rfl | exact .inr rfl | assumption) : wpAny M A (storeName X.env x u) Q E s := by
  obtain ⟨m, hn, hl⟩ := id I.loc
  have hcls : (X.env.scope.kind == .class || (X.env.scope.kind == .module && X.env.locals != X.env.globals)) = false := by rw [I.ok.kind]; rfl
  have hiσ : i < σ.length := by rw [I.len]; exact (List.getElem?_eq_some_iff.mp hi).1
  have cne := I.cne
  have tracked : ∀ {a : Addr} {h' : Heap}, (∃ o, s.heap.get? a = some o ∧ H a = none) → Heap.SameBut a s.heap h' → HOk X.prog X.w H h' := fun {a h'} ha hs b ob e => by
    obtain ⟨_, _, hfree⟩ := ha
    refine (I.hok b ob e).stay (fun c w' hc q => (hs.2 c ?_).trans q) (fun _ q => q) fun _ _ q => q
    rintro rfl
    rcases hc with rfl | hc
    · rw [hfree] at e; cases e
    · rw [hfree] at hc; cases hc
  rcases hx with hk | hk
  · refine wpAny_storeName_local hk hn (fun h' hn' hs => ?_) hcls
    obtain ⟨oL, _, _, hoL, _⟩ := id hn
    refine h _ ⟨I.ok, I.os, I.bare, ⟨fun b o e n hb hx => ?_, fun b o e n hb hx => ?_, I.base.free, fun b o e hx => ?_, I.base.tups, I.base.frzs, I.base.tbls⟩, ⟨_, hn', fun j y v' e1 e2 e3 => ?_⟩, fun y c e => ?_, I.free, I.freeC, fun p hp => ?_, tracked ⟨oL, hoL, I.free⟩ hs, by simpa using I.len⟩ ⟨_, hs, .inl rfl⟩
    · exact (hs.2 b (Nat.ne_of_lt (Nat.lt_of_lt_of_le (Heap.lt_size e) I.ok.above))).trans (I.base.keep b o e n hb hx)
    · obtain ⟨sl, e1⟩ := I.base.slot b o e n hb hx
      exact ⟨sl, (hs.2 b (Nat.ne_of_lt (Nat.lt_of_lt_of_le (Heap.lt_size e) I.ok.above))).trans e1⟩
    · obtain ⟨o', e1⟩ := I.base.there b o e hx
      exact ⟨o', (hs.2 b (Nat.ne_of_lt (Nat.lt_of_lt_of_le (Heap.lt_size e) I.ok.above))).trans e1⟩
    · by_cases hj : j = i
      · subst hj
        rw [hi] at e1; cases e1
        rw [List.getElem?_set_self hiσ] at e2
        cases e2
        exact ⟨u, r, .inl ⟨hk, by simp⟩⟩
      · rw [List.getElem?_set_ne (Ne.symm hj)] at e2
        obtain ⟨u', r', q⟩ := hl j y v' e1 e2 e3
        refine ⟨u', r', ?_⟩
        rcases q with ⟨k, e⟩ | ⟨k, c, e, z⟩
        · refine .inl ⟨k, ?_⟩
          have : y ≠ x := fun e => hj (nodup_ix hN e1 (e ▸ hi))
          simp [this, e]
        · exact .inr ⟨k, c, e, z.sameBut hs (cne y c e)⟩
    · obtain ⟨w', z⟩ := I.cell y c e
      exact ⟨w', z.sameBut hs (cne y c e)⟩
    · obtain ⟨e, n, ne, nf, d⟩ := I.pin p hp
      exact ⟨(hs.2 p.1 ne).trans e, n, ne, nf, d⟩
  · have hfn : X.fn x = true := by
      rcases hf with z | z
      · exact z
      · rw [z] at hk; cases hk
    obtain ⟨c, hc⟩ := I.ok.has x (.inl hk)
    obtain ⟨w', z⟩ := I.cell x c hc
    refine wpAny_storeName_cell I.ok.kind hk hc z (fun h' hc' hs => ?_)
    obtain ⟨oc, hoc, hocd⟩ := id z
    refine h { s with heap := h' } ⟨I.ok, I.os, I.bare, ⟨fun b o e n hb hx => ?_, fun b o e n hb hx => ?_, I.base.free, fun b o e hx => ?_, I.base.tups, I.base.frzs, I.base.tbls⟩, ⟨m, hn.sameBut hs (Ne.symm (cne x c hc)), fun j y v' e1 e2 e3 => ?_⟩, fun y c' e => ?_, I.free, I.freeC, fun p hp => ?_, tracked ⟨oc, hoc, I.freeC x c hc⟩ hs, by simpa using I.len⟩ ⟨c, hs, .inr hc⟩
    · exact (hs.2 b (Nat.ne_of_lt (Nat.lt_of_lt_of_le (Heap.lt_size e) (I.ok.cab x c hfn hc)))).trans (I.base.keep b o e n hb hx)
    · obtain ⟨sl, e1⟩ := I.base.slot b o e n hb hx
      exact ⟨sl, (hs.2 b (Nat.ne_of_lt (Nat.lt_of_lt_of_le (Heap.lt_size e) (I.ok.cab x c hfn hc)))).trans e1⟩
    · obtain ⟨o', e1⟩ := I.base.there b o e hx
      exact ⟨o', (hs.2 b (Nat.ne_of_lt (Nat.lt_of_lt_of_le (Heap.lt_size e) (I.ok.cab x c hfn hc)))).trans e1⟩
    · by_cases hj : j = i
      · subst hj
        rw [hi] at e1; cases e1
        rw [List.getElem?_set_self hiσ] at e2
        cases e2
        exact ⟨u, r, .inr ⟨.inl hk, c, hc, hc'⟩⟩
      · rw [List.getElem?_set_ne (Ne.symm hj)] at e2
        obtain ⟨u', r', q⟩ := hl j y v' e1 e2 e3
        refine ⟨u', r', ?_⟩
        rcases q with q | ⟨k, c', e, z'⟩
        · exact .inl q
        · refine .inr ⟨k, c', e, z'.sameBut hs ?_⟩
          rintro rfl
          exact hj (nodup_ix hN e1 (I.ok.inj _ _ _ e hc ▸ hi))
    · by_cases hcc : c' = c
      · subst hcc; exact ⟨_, hc'⟩
      · obtain ⟨w2, z2⟩ := I.cell y c' e
        exact ⟨w2, z2.sameBut hs hcc⟩
    · obtain ⟨e, n, ne, nf, d⟩ := I.pin p hp
      refine ⟨(hs.2 p.1 ?_).trans e, n, ne, nf, d⟩
      intro q
      rw [q, hoc] at e
      have q' : oc = p.2 := Option.some.inj e
      exact d w' (by rw [← q']; exact hocd)
theorem store_ok {M : Model} {A : Around} {E : Value → Shared → Prop} {i : Nat} {x : Str} {v : V} {u : Value} {Q : Unit → Shared → Prop} (I : Inv X pins σ H s) (hN : X.N.Nodup) (hi : X.N[i]? = some x) (hx : Loc X.env.scope x) (r : RelV v u)
    (h : ∀ s', Inv X pins (σ.set i (some v)) H s' → Q () s') (hf : X.fn x = true ∨ X.env.scope.names.lookup x = some .local := by first | exact .inl rfl | exact .inr rfl | assumption) : wpAny M A (storeName X.env x u) Q E s :=
  store_ok2 I hN hi hx r (fun s' I' _ => h s' I') hf
theorem Inv.call' {s' : Shared} {ch : List Addr} (I : Inv X pins σ H s) (ho : s'.os = s.os) (u : Un (frs X.stack) ch H H' s.heap s'.heap) (hok : HOk X.prog X.w H' s'.heap) (hg : AllBare s'.gens)
    (hch : ∀ b ∈ ch, (b ∈ X.ex ∨ X.s₀.heap.objs.size ≤ b) ∧ b ≠ X.env.locals ∧ (∀ x c, X.env.cells.lookup x = some c → c ≠ b) ∧ ∀ p ∈ X.pn ++ pins, p.1 ≠ b) : Inv X pins σ H' s' := by
  obtain ⟨h', g', d', t', o'⟩ := s'
  have e : o' = s.os := ho
  subst e
  exact I.call (g' := g') (t' := t') (d' := d') u hok hg hch
end
abbrev XK := Value → Option Addr → Hp → Prop
abbrev St := List (Option V)
abbrev VK := V → Hp → Prop
abbrev TE := St → Hp → VK → Prop
abbrev TT := St → Hp → (Bool → Hp → Prop) → Prop
abbrev TA := St → Hp → (List V → Hp → Prop) → Prop
structure Ends where
  nx : St → Hp → Prop
  rt : VK
  bk : St → Hp → Prop := fun _ _ => False
  ct : St → Hp → Prop := fun _ _ => False
abbrev TS := Ends → St → Hp → Prop
def EP (X : Cx) (pins : List (Addr × Obj)) (σ : St) (Q : VK) (u : Value) (s' : Shared) : Prop := ∃ v H', Inv X pins σ H' s' ∧ RelV v u ∧ Q v H'
def TP (X : Cx) (pins : List (Addr × Obj)) (σ : St) (Q : Bool → Hp → Prop) (b : Bool) (s' : Shared) : Prop := ∃ H', Inv X pins σ H' s' ∧ Q b H'
def AP (X : Cx) (pins : List (Addr × Obj)) (σ : St) (Q : List V → Hp → Prop) (us : List Value) (s' : Shared) : Prop := ∃ vs H', Inv X pins σ H' s' ∧ Vals vs us ∧ Q vs H'
def SP (X : Cx) (pins : List (Addr × Obj)) (D : Ends) (f : Flow) (s' : Shared) : Prop :=
  match f with
  | .next => ∃ σ' H', Inv X pins σ' H' s' ∧ D.nx σ' H'
  | .brk => ∃ σ' H', Inv X pins σ' H' s' ∧ D.bk σ' H'
  | .cont => ∃ σ' H', Inv X pins σ' H' s' ∧ D.ct σ' H'
  | .ret u => ∃ v σ' H', Inv X pins σ' H' s' ∧ RelV v u ∧ D.rt v H'
def PE (X : Cx) (e : Expr) (t : TE) : Prop :=
  ∀ (pins : List (Addr × Obj)) (s : Shared) (σ : St) (H : Hp) (Q : VK), Inv X pins σ H s → t σ H Q → wpAny (model X.prog X.w) X.A (eval e X.env) (EP X pins σ Q) X.xe s
def PT (X : Cx) (e : Expr) (t : TT) : Prop :=
  ∀ (pins : List (Addr × Obj)) (s : Shared) (σ : St) (H : Hp) (Q : Bool → Hp → Prop), Inv X pins σ H s → t σ H Q → wpAny (model X.prog X.w) X.A (isTrue e X.env (eval e X.env)) (TP X pins σ Q) X.xe s
def PW (X : Cx) (e : Expr) (t : TT) : Prop :=
  ∀ (whole : Sem Value) (pins : List (Addr × Obj)) (s : Shared) (σ : St) (H : Hp) (Q : Bool → Hp → Prop), Inv X pins σ H s → t σ H Q → wpAny (model X.prog X.w) X.A (isTrue e X.env whole) (TP X pins σ Q) X.xe s
theorem PW.pt {X : Cx} {e : Expr} {t : TT} (h : PW X e t) : PT X e t := h _
def PA (X : Cx) (es : List Expr) (t : TA) : Prop :=
  ∀ (pos : Pos) (pins : List (Addr × Obj)) (s : Shared) (σ : St) (H : Hp) (Q : List V → Hp → Prop), Inv X pins σ H s → t σ H Q → wpAny (model X.prog X.w) X.A (spliced (backTo pos (starEach es X.env))) (AP X pins σ Q) X.xe s
def PS (X : Cx) (st : Stmt) (t : TS) : Prop :=
  ∀ (pins : List (Addr × Obj)) (s : Shared) (σ : St) (H : Hp) (D : Ends), Inv X pins σ H s → t D σ H → wpAny (model X.prog X.w) X.A (exec st X.env) (SP X pins D) X.xe s
def PSs (X : Cx) (st : List Stmt) (t : TS) : Prop :=
  ∀ (pins : List (Addr × Obj)) (s : Shared) (σ : St) (H : Hp) (D : Ends), Inv X pins σ H s → t D σ H → wpAny (model X.prog X.w) X.A (execs st X.env) (SP X pins D) X.xe s
theorem thn {α : Type} {t : Sem α} {Q Q' : α → Shared → Prop} {M : Model} {A : Around} {E : Value → Shared → Prop} {s : Shared} (h : wpAny M A t Q E s) (hQ : ∀ a s, Q a s → Q' a s) : wpAny M A t Q' E s := wpAny_mono h hQ fun _ _ x => x
end L2
namespace L2
open PySem PySem.Spec PyProof.Rows
section
variable {X : Cx}
def tVar (i : Nat) : TE := fun σ H Q => ∃ v, σ[i]? = some (some v) ∧ Q v H
def tC (v : V) : TE := fun _ H Q => Q v H
theorem pe_var {i : Nat} {x : Str} {pos : Pos} (hN : X.N[i]? = some x) (hv : Vis X.env.scope x) (hd : (x == ("__debug__" : Str)) = false := by decide) (hcd : (x == ("__classdict__" : Str)) = false := by decide) : PE X (.Name x pos) (tVar i) := by
  intro pins s σ H Q I h
  obtain ⟨v, e, h⟩ := h
  obtain ⟨m, hn, hl⟩ := I.loc
  obtain ⟨u, r, l⟩ := hl i x v hN e hv
  have fin : EP X pins σ Q u s := ⟨v, H, I, r, h⟩
  rcases l with ⟨hk, hm⟩ | ⟨hk, c, hc, hcell⟩
  · exact wpAny_Name (wpAny_loadName_local I.ok.kind hk hn hm fin) hd
  · rcases hk with hk | hk
    · exact wpAny_Name (wpAny_loadName_cell I.ok.kind hk hc hcell fin) hd
    · exact wpAny_Name (wpAny_loadName_free I.ok.kind hk hc hcell fin hcd) hd
theorem pe_int {i j pos} : PE X (.Constant (.int i) j pos) (tC (.int i)) := fun _ _ _ H _ I h => wpAny_Constant_int ⟨.int i, H, I.tok _, ⟨_, rfl⟩, h⟩
theorem pe_bl {b j pos} : PE X (.Constant (.bool b) j pos) (tC (.bl b)) := fun _ _ _ H _ I h => Constant_bool ⟨.bl b, H, I, rfl, h⟩
theorem pe_non {j pos} : PE X (.Constant .none j pos) (tC .non) := fun _ _ _ H _ I h => Constant_none ⟨.non, H, I, rfl, h⟩
theorem pe_str {x j pos} : PE X (.Constant (.str x) j pos) (tC (.str x)) := fun _ _ _ H _ I h => Calls.Constant_str ⟨.str x, H, I.tok _, ⟨_, rfl⟩, h⟩
def Gl (X : Cx) (x : Str) : Prop := X.env.kindOf x = some .globalImplicit
theorem ld_glob {E : Value → Shared → Prop} {pins : List (Addr × Obj)} {s : Shared} {σ : St} {H : Hp} {x : Str} {u : Value} {pos : Pos} {Q : Value → Shared → Prop} (I : Inv X pins σ H s) (hg : Gl X x) (hm : X.mg x = some u) (h : Q u s)
    (hd : (x == ("__debug__" : Str)) = false := by decide) : wpAny (model X.prog X.w) X.A (eval (.Name x pos) X.env) Q E s :=
  Calls.Name_function_global I.ok.kind hg (Calls.loadGlobal_global (by rw [I.ok.glob]; exact I.mod.glob.keeps I.bk) hm h) hd
theorem ld_blt {E : Value → Shared → Prop} {pins : List (Addr × Obj)} {s : Shared} {σ : St} {H : Hp} {x : Str} {u : Value} {pos : Pos} {Q : Value → Shared → Prop} (I : Inv X pins σ H s) (hg : Gl X x) (hm : X.mg x = none) (hv : bootBuiltins x = some u) (h : Q u s)
    (hn : x ≠ "__name__" := by decide) (hd : (x == ("__debug__" : Str)) = false := by decide) : wpAny (model X.prog X.w) X.A (eval (.Name x pos) X.env) Q E s := by
  obtain ⟨mb, h1, h2⟩ := I.mod.blt
  exact Calls.Name_function_global I.ok.kind hg (Calls.loadGlobal_builtin (by rw [I.ok.glob]; exact I.mod.glob.keeps I.bk) hm (by rw [I.ok.blt]; exact h1.keeps I.bk) ((h2 x hn).trans hv) h) hd
theorem pe_glob {x : Str} {v : V} {u : Value} {pos : Pos} (hg : Gl X x) (hm : X.mg x = some u) (r : RelV v u) (hd : (x == ("__debug__" : Str)) = false := by decide) : PE X (.Name x pos) (tC v) :=
  fun _ _ _ H _ I h => ld_glob I hg hm ⟨v, H, I, r, h⟩ hd
theorem pe_bltn {x : Str} {v : V} {u : Value} {pos : Pos} (hg : Gl X x) (hm : X.mg x = none) (hv : bootBuiltins x = some u) (r : RelV v u) (hn : x ≠ "__name__" := by decide) (hd : (x == ("__debug__" : Str)) = false := by decide) : PE X (.Name x pos) (tC v) :=
  fun _ _ _ H _ I h => ld_blt I hg hm hv ⟨v, H, I, r, h⟩ hn hd
variable {a b : Expr} {ta tb : TE} {pos : Pos}
def PC (X : Cx) (op : CmpOp) (a b : Expr) (t : TE) : Prop :=
  ∀ (pins : List (Addr × Obj)) (s : Shared) (σ : St) (H : Hp) (Q : VK), Inv X pins σ H s → t σ H Q →
    wpAny (model X.prog X.w) X.A (eval a X.env) (fun v s₁ => wpAny (model X.prog X.w) X.A (eval b X.env) (fun u s₂ => wpAny (model X.prog X.w) X.A (compareOp op v u) (EP X pins σ Q) X.xe s₂) X.xe s₁) X.xe s
theorem nobehind (b : Expr) {op : CmpOp} (h : op ≠ .In) (h2 : op ≠ .NotIn) : behindInMarks op b = false := by
  have e1 : (op == CmpOp.In) = false := by cases op <;> first | rfl | exact absurd rfl h
  have e2 : (op == CmpOp.NotIn) = false := by cases op <;> first | rfl | exact absurd rfl h2
  cases b <;> simp [behindInMarks, e1, e2]
def tIsN (ta : TE) : TE := fun σ H Q => ta σ H fun x H1 => Q (.bl (decide (x = .non))) H1
theorem RelV.none_iff {x : V} {v : Value} (r : RelV x v) : (v == Value.none) = decide (x = .non) := by
  cases x with
  | non => cases r; rfl
  | bl _ => cases r; rfl
  | int _ => obtain ⟨t, rfl⟩ := r; rfl
  | str _ => obtain ⟨t, rfl⟩ := r; rfl
  | byt _ => obtain ⟨t, rfl⟩ := r; rfl
  | flt _ => obtain ⟨t, rfl⟩ := r; rfl
  | ref _ => cases r; rfl
  | ty _ => cases r; rfl
theorem pc_isN {j pos'} (ha : PE X a ta) : PC X .Is a (.Constant .none j pos') (tIsN ta) := by
  intro pins s σ H Q I h
  refine thn (ha pins s σ H _ I h) fun v s1 ⟨x, H1, I1, r1, q1⟩ => ?_
  exact Constant_none (is_none_gen ⟨.bl _, H1, I1, by rw [r1.none_iff]; rfl, q1⟩)
def tB (t : TE) : TT := fun σ H Q => t σ H fun x H1 => ∃ c, x = .bl c ∧ Q c H1
theorem pe_cmp {op : CmpOp} {t : TE} (h : PC X op a b t) (h1 : behindInMarks op b = false := by first | exact nobehind _ (by decide) (by decide) | rfl) : PE X (.Compare a [op] [b] pos) t := fun pins s σ H Q I hw => wpAny_Compare1 (h pins s σ H Q I hw) h1
theorem pt_cmp {op : CmpOp} {t : TE} (h : PC X op a b t) (h1 : behindInMarks op b = false := by first | exact nobehind _ (by decide) (by decide) | rfl) : PT X (.Compare a [op] [b] pos) (tB t) := by
  intro pins s σ H Q I hw
  refine wpAny_isTrue_Compare1 (thn (h pins s σ H _ I hw) fun v s1 h1 => thn h1 fun u s2 h2 => thn h2 fun c s3 ⟨x, H1, I1, r1, q1⟩ => ?_) h1
  obtain ⟨d, rfl, q⟩ := q1
  cases r1
  exact wpAny_truthy_bool ⟨H1, I1, q⟩
variable {tA tB' : TT} {rest : List Expr}
def tAnd (t u : TT) : TT := fun σ H Q => t σ H fun c H1 => if c = true then u σ H1 Q else Q false H1
def tOr (t u : TT) : TT := fun σ H Q => t σ H fun c H1 => if c = true then Q true H1 else u σ H1 Q
def tNot (t : TT) : TT := fun σ H Q => t σ H fun c H1 => Q (!c) H1
theorem pw_and1 (ha : PT X a tA) : PW X (.BoolOp .And [a] pos) tA := by
  intro wh pins s σ H Q I h
  refine isTrue_and (thn (ha pins s σ H Q I h) fun c s1 e => ?_)
  cases c with
  | true => exact isTrue_and_nil e
  | false => exact e
theorem pw_or1 (ha : PT X a tA) : PW X (.BoolOp .Or [a] pos) tA := by
  intro wh pins s σ H Q I h
  refine isTrue_or (thn (ha pins s σ H Q I h) fun c s1 e => ?_)
  cases c with
  | false => exact isTrue_or_nil e
  | true => exact e
theorem pw_and (ha : PT X a tA) (hb : PW X (.BoolOp .And (b :: rest) pos) tB') : PW X (.BoolOp .And (a :: b :: rest) pos) (tAnd tA tB') := by
  intro wh pins s σ H Q I h
  refine isTrue_and (thn (ha pins s σ H _ I h) fun c s1 ⟨H1, I1, q1⟩ => ?_)
  cases c with
  | true => exact hb wh pins s1 σ H1 Q I1 q1
  | false => exact ⟨H1, I1, q1⟩
theorem pw_or (ha : PT X a tA) (hb : PW X (.BoolOp .Or (b :: rest) pos) tB') : PW X (.BoolOp .Or (a :: b :: rest) pos) (tOr tA tB') := by
  intro wh pins s σ H Q I h
  refine isTrue_or (thn (ha pins s σ H _ I h) fun c s1 ⟨H1, I1, q1⟩ => ?_)
  cases c with
  | true => exact ⟨H1, I1, q1⟩
  | false => exact hb wh pins s1 σ H1 Q I1 q1
theorem pt_not (ha : PT X a tA) : PT X (.UnaryOp .Not a pos) (tNot tA) := by
  intro pins s σ H Q I h
  exact isTrue_not (ha pins s σ H (fun c H1 => Q (!c) H1) I h)
def tAndV (ta tb : TE) : TE := fun σ H Q => ta σ H fun x H1 => ∃ c, x = .bl c ∧ if c = true then tb σ H1 Q else Q (.bl false) H1
def tOrV (ta tb : TE) : TE := fun σ H Q => ta σ H fun x H1 => ∃ c, x = .bl c ∧ if c = true then Q (.bl true) H1 else tb σ H1 Q
def tNotV (ta : TE) : TE := fun σ H Q => ta σ H fun x H1 => ∃ c, x = .bl c ∧ Q (.bl (!c)) H1
theorem pe_one {op} {t : TE} (h : PE X a t) : PE X (.BoolOp op [a] pos) t := fun pins s σ H Q I hw => BoolOp_one (h pins s σ H Q I hw)
theorem pe_and (ha : PE X a ta) (hb : PE X (.BoolOp .And (b :: rest) pos) tb) : PE X (.BoolOp .And (a :: b :: rest) pos) (tAndV ta tb) := by
  intro pins s σ H Q I h
  refine BoolOp_and (thn (ha pins s σ H _ I h) fun v s1 ⟨x, H1, I1, r1, q1⟩ => ?_)
  obtain ⟨c, rfl, q1⟩ := q1
  cases r1
  refine wpAny_truthy_bool ?_
  cases c with
  | true => exact hb pins s1 σ H1 Q I1 q1
  | false => exact ⟨.bl false, H1, I1, rfl, q1⟩
theorem pe_or (ha : PE X a ta) (hb : PE X (.BoolOp .Or (b :: rest) pos) tb) : PE X (.BoolOp .Or (a :: b :: rest) pos) (tOrV ta tb) := by
  intro pins s σ H Q I h
  refine BoolOp_or (thn (ha pins s σ H _ I h) fun v s1 ⟨x, H1, I1, r1, q1⟩ => ?_)
  obtain ⟨c, rfl, q1⟩ := q1
  cases r1
  refine wpAny_truthy_bool ?_
  cases c with
  | false => exact hb pins s1 σ H1 Q I1 q1
  | true => exact ⟨.bl true, H1, I1, rfl, q1⟩
theorem pe_not (ha : PE X a ta) : PE X (.UnaryOp .Not a pos) (tNotV ta) := by
  intro pins s σ H Q I h
  refine UnaryOp_ (thn (ha pins s σ H _ I h) fun v s1 ⟨x, H1, I1, r1, q1⟩ => ?_)
  obtain ⟨c, rfl, q1⟩ := q1
  cases r1
  exact not_of (wpAny_truthy_bool ⟨.bl (!c), H1, I1, rfl, q1⟩)
def tIf (t : TT) (ta tb : TE) : TE := fun σ H Q => t σ H fun c H1 => if c = true then ta σ H1 Q else tb σ H1 Q
theorem pe_ifExp {c : Expr} (hc : PT X c tA) (ha : PE X a ta) (hb : PE X b tb) : PE X (.IfExp c a b pos) (tIf tA ta tb) := by
  intro pins s σ H Q I h
  refine wpAny_IfExp (thn (hc pins s σ H _ I h) fun d s1 ⟨H1, I1, q1⟩ => ?_)
  cases d with
  | true => exact ha pins s1 σ H1 Q I1 q1
  | false => exact hb pins s1 σ H1 Q I1 q1
end
end L2
namespace L2
open PySem PySem.Spec PyProof.Rows
def SqL (K : PySem.W.Frag) (H : Hp) (a : Addr) (xs : List V) : Prop :=
  Rd H a (.lst xs) ∨
    ∃ (o : Obj) (its : Array Value) (n : Nat), K.lookup a = some o ∧ o.cls = .type "list" ∧ o.dict = none ∧ o.data = .seq its n ∧ its.size ≤ sizeLine ∧ Vals xs its.toList
def SqT (K : PySem.W.Frag) (H : Hp) (a : Addr) (xs : List V) : Prop :=
  Rd H a (.tup xs) ∨
    ∃ (o : Obj) (its : Array Value) (n : Nat), K.lookup a = some o ∧ o.cls = .type "tuple" ∧ o.data = .seq its n ∧ its.size ≤ sizeLine ∧ Vals xs its.toList
def absV : Value → Option V
  | .none => some .non
  | .bool b => some (.bl b)
  | .int i _ => some (.int i)
  | .str x _ => some (.str x)
  | .bytes b _ => some (.byt b)
  | .float b _ => some (.flt b)
  | .ref a => some (.ref a)
  | .type n => some (.ty n)
  | _ => none
theorem RelV.abs {x : V} {u : Value} (r : RelV x u) : absV u = some x := by
  cases x with
  | non => cases r; rfl
  | bl _ => cases r; rfl
  | int _ => obtain ⟨t, rfl⟩ := r; rfl
  | str _ => obtain ⟨t, rfl⟩ := r; rfl
  | byt _ => obtain ⟨t, rfl⟩ := r; rfl
  | flt _ => obtain ⟨t, rfl⟩ := r; rfl
  | ref _ => cases r; rfl
  | ty _ => cases r; rfl
theorem RelV.inj {x y : V} {u : Value} (r : RelV x u) (q : RelV y u) : x = y := Option.some.inj (r.abs.symm.trans q.abs)
theorem Vals.inj : ∀ {xs ys : List V} {us : List Value}, Vals xs us → Vals ys us → xs = ys
  | _, _, _, .nil, .nil => rfl
  | _, _, _, .cons r t, .cons r' t' => by rw [r.inj r', Vals.inj t t']
section
variable {X : Cx} {pins : List (Addr × Obj)} {σ : St} {H : Hp} {s : Shared} {a : Addr} {xs ys : List V}
theorem SqL.of {K : PySem.W.Frag} (h : H a = some (.lst xs)) : SqL K H a xs := .inl (.inl h)
theorem SqT.of {K : PySem.W.Frag} (h : H a = some (.tup xs)) : SqT K H a xs := .inl (.inl h)
theorem Inv.list (I : Inv X pins σ H s) (h : SqL X.K H a xs) : ∃ its : List Value, Vals xs its ∧ PlainL s.heap a its.toArray ∧ xs.length ≤ sizeLine := by
  rcases h with h | ⟨o, its, n, hk, hc, hd, hs, hz, r⟩
  · obtain ⟨z, its, n, r, e⟩ := h.ok I.hok
    exact ⟨its, r, ⟨_, n, e, rfl, rfl, rfl⟩, z⟩
  · refine ⟨its.toList, r, ⟨o, n, I.kIn a o hk, hc, hd, by simpa using hs⟩, ?_⟩
    have e := r.length
    simp only [Array.length_toList] at e
    omega
theorem Inv.tuple (I : Inv X pins σ H s) (h : SqT X.K H a xs) : ∃ its : List Value, Vals xs its ∧ IsTup s.heap a its.toArray ∧ xs.length ≤ sizeLine := by
  rcases h with h | ⟨o, its, n, hk, hc, hs, hz, r⟩
  · obtain ⟨z, its, r, p⟩ := h.ok I.hok
    exact ⟨its, r, p, z⟩
  · refine ⟨its.toList, r, ⟨o, I.kIn a o hk, hc, n, by simpa using hs⟩, ?_⟩
    have e := r.length
    simp only [Array.length_toList] at e
    omega
theorem Inv.list_inj (I : Inv X pins σ H s) (h : SqL X.K H a xs) (h' : SqL X.K H a ys) : xs = ys := by
  obtain ⟨its, r, ⟨o, n, e, _, _, d⟩, _⟩ := I.list h
  obtain ⟨its', r', ⟨o', n', e', _, _, d'⟩, _⟩ := I.list h'
  rw [e] at e'; cases e'
  rw [d] at d'
  injection d' with d1 _
  have : its = its' := by simpa using congrArg Array.toList d1
  subst this
  exact r.inj r'
theorem Inv.tuple_inj (I : Inv X pins σ H s) (h : SqT X.K H a xs) (h' : SqT X.K H a ys) : xs = ys := by
  obtain ⟨its, r, ⟨o, e, _, n, d⟩, _⟩ := I.tuple h
  obtain ⟨its', r', ⟨o', e', _, n', d'⟩, _⟩ := I.tuple h'
  rw [e] at e'; cases e'
  rw [d] at d'
  injection d' with d1 _
  have : its = its' := by simpa using congrArg Array.toList d1
  subst this
  exact r.inj r'
end
abbrev Cx.wish (X : Cx) (E : Value → Shared → Prop) : Cx := { X with xe := E }
abbrev Cx.nox (X : Cx) : Cx := X.wish fun _ _ => False
theorem Cx.Ok.wish {X : Cx} (ok : X.Ok) (E : Value → Shared → Prop) : (X.wish E).Ok :=
  ⟨ok.mod, ok.kind, ok.glob, ok.blt, ok.above, ok.inj, ok.has, ok.cab, ok.hd, ok.frames, ok.stk, ok.exf, ok.bs, ok.bsz, ok.noex, ok.exfs, ok.funs, ok.frf⟩
theorem Cx.Ok.unwish {X : Cx} {E : Value → Shared → Prop} (ok : (X.wish E).Ok) : X.Ok :=
  ⟨ok.mod, ok.kind, ok.glob, ok.blt, ok.above, ok.inj, ok.has, ok.cab, ok.hd, ok.frames, ok.stk, ok.exf, ok.bs, ok.bsz, ok.noex, ok.exfs, ok.funs, ok.frf⟩
section
variable {X : Cx} {pins : List (Addr × Obj)} {σ : St} {H : Hp} {s : Shared} {E : Value → Shared → Prop}
theorem Inv.wish (I : Inv X pins σ H s) (E : Value → Shared → Prop) : Inv (X.wish E) pins σ H s := ⟨I.ok.wish E, I.os, I.bare, I.base, I.loc, I.cell, I.free, I.freeC, I.pin, I.hok, I.len⟩
theorem Inv.unwish (I : Inv (X.wish E) pins σ H s) : Inv X pins σ H s := ⟨I.ok.unwish, I.os, I.bare, I.base, I.loc, I.cell, I.free, I.freeC, I.pin, I.hok, I.len⟩
theorem SP.unwish {D : Ends} {f : Flow} {s' : Shared} (h : SP (X.wish E) pins D f s') : SP X pins D f s' := by
  cases f with
  | next => obtain ⟨σ', H', I, q⟩ := h; exact ⟨σ', H', I.unwish, q⟩
  | brk => obtain ⟨σ', H', I, q⟩ := h; exact ⟨σ', H', I.unwish, q⟩
  | cont => obtain ⟨σ', H', I, q⟩ := h; exact ⟨σ', H', I.unwish, q⟩
  | ret u => obtain ⟨v, σ', H', I, r, q⟩ := h; exact ⟨v, σ', H', I.unwish, r, q⟩
theorem PE.nox {e : Expr} {t : TE} (h : PE X.nox e t) : PE X e t := fun pins s σ H Q I hw =>
  wpAny_mono (h pins s σ H Q (I.wish _) hw) (fun _ _ ⟨v, H', I', r, q⟩ => ⟨v, H', I'.unwish, r, q⟩) fun _ _ z => False.elim z
theorem PT.nox {e : Expr} {t : TT} (h : PT X.nox e t) : PT X e t := fun pins s σ H Q I hw =>
  wpAny_mono (h pins s σ H Q (I.wish _) hw) (fun _ _ ⟨H', I', q⟩ => ⟨H', I'.unwish, q⟩) fun _ _ z => False.elim z
theorem PSs.nox {st : List Stmt} {t : TS} (h : PSs X.nox st t) : PSs X st t := fun pins s σ H D I hw =>
  wpAny_mono (h pins s σ H D (I.wish _) hw) (fun _ _ q => q.unwish) fun _ _ z => False.elim z
end
section
variable {X : Cx} {st : Stmt} {rest : List Stmt} {t u : TS} {e : Expr} {te : TE} {pos : Pos}
def tNext : TS := fun D σ H => D.nx σ H
def tSeq (t u : TS) : TS := fun D σ H => t { D with nx := u D } σ H
theorem pss_nil : PSs X [] tNext := fun _ _ σ H _ I h => wpAny_execs_nil ⟨σ, H, I, h⟩
theorem pss_cons (h1 : PS X st t) (h2 : PSs X rest u) : PSs X (st :: rest) (tSeq t u) := by
  intro pins s σ H D I h
  refine wpAny_execs_cons (thn (h1 pins s σ H { D with nx := u D } I h) fun f s1 q => ?_)
  cases f with
  | next =>
    obtain ⟨σ', H', I', q⟩ := q
    exact h2 pins s1 σ' H' D I' q
  | ret v => exact q
  | brk => exact q
  | cont => exact q
theorem Inv.quiet {pins : List (Addr × Obj)} {σ : St} {H : Hp} {s : Shared} (I : Inv X pins σ H s) : interactive X.env = false := by simp [interactive, I.ok.kind]
def tDrop (te : TE) : TS := fun D σ H => te σ H fun _ H1 => D.nx σ H1
theorem ps_expr (he : PE X e te) (hs : swapsWith e none pos.line X.env = pure false := by rfl) : PS X (.Expr e pos) (tDrop te) := by
  intro pins s σ H D I h
  exact wpAny_Expr_any (thn (he pins s σ H _ I h) fun v s1 ⟨x, H1, I1, r1, q1⟩ => ⟨σ, H1, I1, q1⟩) I.quiet hs
def tRet (te : TE) : TS := fun D σ H => te σ H D.rt
theorem ps_ret (he : PE X e te) : PS X (.Return (some e) pos) (tRet te) := by
  intro pins s σ H D I h
  exact wpAny_Return_some (thn (he pins s σ H _ I h) fun v s1 ⟨x, H1, I1, r1, q1⟩ => ⟨x, σ, H1, I1, r1, q1⟩)
def tIfS (c : TT) (t u : TS) : TS := fun D σ H => c σ H fun b H1 => if b = true then t D σ H1 else u D σ H1
theorem ps_if {c : Expr} {a b : List Stmt} {tc : TT} (hc : PT X c tc) (ha : PSs X a t) (hb : PSs X b u) : PS X (.If c a b pos) (tIfS tc t u) := by
  intro pins s σ H D I h
  refine wpAny_If (thn (hc pins s σ H _ I h) fun d s1 ⟨H1, I1, q1⟩ => ?_)
  cases d with
  | true => exact ha pins s1 σ H1 D I1 q1
  | false => exact hb pins s1 σ H1 D I1 q1
end
abbrev TG := V → St → Hp → (St → Hp → Prop) → Prop
abbrev TGs := List V → St → Hp → (St → Hp → Prop) → Prop
def PG (X : Cx) (target : Expr) (t : TG) : Prop :=
  ∀ (pins : List (Addr × Obj)) (s : Shared) (σ : St) (H : Hp) (v : V) (u : Value) (Q : St → Hp → Prop), Inv X pins σ H s → RelV v u → t v σ H Q →
    wpAny (model X.prog X.w) X.A (assign target X.env u) (fun _ s' => ∃ σ' H', Inv X pins σ' H' s' ∧ Q σ' H') X.xe s
def PGs (X : Cx) (ts : List Expr) (t : TGs) : Prop :=
  ∀ (pins : List (Addr × Obj)) (s : Shared) (σ : St) (H : Hp) (vs : List V) (us : List Value) (Q : St → Hp → Prop), Inv X pins σ H s → Vals vs us → t vs σ H Q →
    wpAny (model X.prog X.w) X.A (assignInOrder ((assignEach ts X.env).map (·.2)) us) (fun _ s' => ∃ σ' H', Inv X pins σ' H' s' ∧ Q σ' H') X.xe s
abbrev TSet := V → V → V → Hp → (Hp → Prop) → Prop
def PSet (X : Cx) (t : TSet) : Prop :=
  ∀ (pins : List (Addr × Obj)) (s : Shared) (σ : St) (H : Hp) (o i v : V) (ov iv u : Value) (Q : Hp → Prop), Inv X pins σ H s → RelV o ov → RelV i iv → RelV v u → t o i v H Q →
    wpAny (model X.prog X.w) X.A (setItem ov iv u) (fun _ s' => ∃ H', Inv X pins σ H' s' ∧ Q H') X.xe s
section
variable {X : Cx} {pos : Pos}
def gName (i : Nat) : TG := fun v σ H Q => Q (σ.set i (some v)) H
theorem pg_name {i : Nat} {x : Str} (hN : X.N.Nodup) (hi : X.N[i]? = some x) (hx : Loc X.env.scope x) (hf : X.fn x = true ∨ X.env.scope.names.lookup x = some .local := by first | exact .inl rfl | exact .inr rfl | assumption) : PG X (.Name x pos) (gName i) := by
  intro pins s σ H v u Q I r h
  exact wpAny_assign_Name (store_ok I hN hi hx r (fun s' I' => ⟨_, H, I', h⟩) hf)
def gNil : TGs := fun vs σ H Q => vs = [] ∧ Q σ H
def gCons (t : TG) (u : TGs) : TGs := fun vs σ H Q => ∃ v r, vs = v :: r ∧ t v σ H fun σ' H' => u r σ' H' Q
theorem pgs_nil : PGs X [] gNil := by
  intro pins s σ H vs us Q I r h
  obtain ⟨e, h⟩ := h
  subst e
  cases r
  exact assignInOrder_nil ⟨σ, H, I, h⟩
theorem pgs_cons {e : Expr} {es : List Expr} {t : TG} {u : TGs} (h1 : PG X e t) (h2 : PGs X es u)
    (hs : (assignEach (e :: es) X.env).map (·.2) = assign e X.env :: (assignEach es X.env).map (·.2) := by rfl) : PGs X (e :: es) (gCons t u) := by
  intro pins s σ H vs us Q I r h
  obtain ⟨v, vr, e1, h⟩ := h
  subst e1
  cases r with
  | cons r rr =>
    rw [hs]
    refine assignInOrder_cons (thn (h1 pins s σ H _ _ _ I r h) fun _ s1 ⟨σ1, H1, I1, q1⟩ => ?_)
    exact h2 pins s1 σ1 H1 _ _ Q I1 rr q1
def gTup (K : PySem.W.Frag) (n : Nat) (t : TGs) : TG := fun v σ H Q => ∃ a xs, v = .ref a ∧ SqT K H a xs ∧ xs.length = n ∧ t xs σ H Q
theorem pg_tup {es : List Expr} {k : Nat} {t : TGs} {n : Nat} (hc : X.calm = true) (h : PGs X es t)
    (hn : (assignEach es X.env).length = n := by rfl) (hst : (assignEach es X.env).findIdx? (·.1) = none := by rfl) : PG X (.Tuple es k pos) (gTup X.K n t) := by
  intro pins s σ H v u Q I r hw
  obtain ⟨a, xs, e1, hq, hl, hw⟩ := hw
  subst e1
  cases r
  obtain ⟨its, rv, ht, hz⟩ := I.tuple hq
  refine assign_Tuple_tuple (I.ok.hd hc) ht (by simp [hn, ← hl, rv.length]) hst fun h' hx => ?_
  have I1 : Inv X pins σ H { s with heap := h' } := I.kept (t' := s.toks) fun b o e => hx b o (Nat.ne_of_lt (Heap.lt_size e)) e
  exact h pins _ σ H xs _ Q I1 (by simpa using rv) hw
def gSub (to ti : TE) (t : TSet) : TG := fun v σ H Q => to σ H fun o H1 => ti σ H1 fun i H2 => t o i v H2 fun H3 => Q σ H3
theorem pg_sub {o i : Expr} {to ti : TE} {t : TSet} (ho : PE X o to) (hi : PE X i ti) (hs : PSet X t)
    (ha : ∀ v, assign (.Subscript o i pos) X.env v = (do
      let ov ← holding [v] (eval o X.env)
      let iv ← holding [v, ov] (eval i X.env)
      standAt pos
      holding [v, ov, iv] (setItem ov iv v)
      release [v, ov, iv] []) := by intro _; rfl) : PG X (.Subscript o i pos) (gSub to ti t) := by
  intro pins s σ H v u Q I r h
  rw [ha]
  refine wpAny_bind (wpAny_holding (thn (ho pins s σ H _ I h) fun ov s1 ⟨x, H1, I1, r1, q1⟩ => ?_))
  refine wpAny_bind (wpAny_holding (thn (hi pins s1 σ H1 _ I1 q1) fun iv s2 ⟨y, H2, I2, r2, q2⟩ => ?_))
  refine wpAny_bind (wpAny_standAt (wpAny_bind (wpAny_holding (thn (hs pins s2 σ H2 x y v ov iv u _ I2 r1 r2 r q2) fun _ s3 ⟨H3, I3, q3⟩ => ?_))))
  exact wpAny_release ⟨σ, H3, I3, q3⟩
def tAsg (te : TE) (g : TG) : TS := fun D σ H => te σ H fun x H1 => g x σ H1 D.nx
theorem ps_asg {tg e : Expr} {te : TE} {g : TG} (he : PE X e te) (hg : PG X tg g) (hs : swapsWithSole [tg] e pos.line X.env = pure false := by rfl) (hw : swappedStores [tg] e X.env = pure none := by rfl)
    (h1 : (assignEach [tg] X.env).map (·.2) = [assign tg X.env] := by rfl) : PS X (.Assign [tg] e pos) (tAsg te g) := by
  intro pins s σ H D I h
  refine wpAny_Assign_stores (thn (he pins s σ H _ I h) fun v s1 ⟨x, H1, I1, r1, q1⟩ => ?_) hs hw
  rw [h1]
  exact thn (hg pins s1 σ H1 x v _ I1 r1 q1) fun _ s2 q => q
theorem ps_set {i : Nat} {x : Str} {e : Expr} {te : TE} {pos' : Pos} (hN : X.N.Nodup) (hi : X.N[i]? = some x) (hx : Loc X.env.scope x) (he : PE X e te) (hs : swapsWith e (some (.Name x pos')) pos.line X.env = pure false := by rfl) (hf : X.fn x = true ∨ X.env.scope.names.lookup x = some .local := by first | exact .inl rfl | exact .inr rfl | assumption) :
    PS X (.Assign [.Name x pos'] e pos) (tAsg te (gName i)) := by
  intro pins s σ H D I h
  refine wpAny_Assign_Name (thn (he pins s σ H _ I h) fun v s1 ⟨y, H1, I1, r1, q1⟩ => ?_) hs
  exact store_ok I1 hN hi hx r1 (fun s2 I2 => ⟨_, H1, I2, q1⟩) hf
end
section
variable {X : Cx} {pos : Pos}
end
structure It where
  go : Nat → Hp → Prop
  yld : Nat → Hp → V → Hp → Prop
  stop : Nat → Hp → Prop
def FpOk (X : Cx) (pins : List (Addr × Obj)) (H : Hp) (b : Addr) : Prop :=
  H b = none ∧ b ≠ X.env.locals ∧ b ∉ X.fs ∧ (b ∈ X.ex ∨ X.s₀.heap.objs.size ≤ b) ∧ (∀ x c, X.env.cells.lookup x = some c → c ≠ b) ∧ ∀ p ∈ X.pn ++ pins, p.1 ≠ b
theorem Inv.fpOk {X : Cx} {pins : List (Addr × Obj)} {σ : St} {H H' : Hp} {s : Shared} {b : Addr} (I : Inv X pins σ H s) (hb : s.heap.objs.size ≤ b) (hn : H' b = none) : FpOk X pins H' b := by
  refine ⟨hn, Nat.ne_of_gt (Nat.lt_of_lt_of_le I.lt hb), I.nofs hb, .inr (Nat.le_trans I.sz hb), fun x c e z => ?_, fun p hp z => ?_⟩
  · obtain ⟨v, q⟩ := I.cell x c e
    exact absurd (Nat.lt_of_lt_of_le q.lt (by rw [z]; exact hb)) (Nat.lt_irrefl _)
  · exact absurd (Nat.lt_of_lt_of_le (Heap.lt_size (I.pin p hp).1) (by rw [z]; exact hb)) (Nat.lt_irrefl _)
structure Turn (P : Program) (w : World) (K : PySem.W.Frag) (tg : Expr) (J : It) (fp : List Addr) (it : Addr) (tn : Nat → Heap → Prop) : Prop where
  mem : it ∈ fp
  obj : ∀ i h, tn i h → ∀ b ∈ fp, ∃ o, h.get? b = some o ∧ ∀ v, o.data ≠ .cell v
  keep : ∀ i h h', tn i h → (∀ b ∈ fp, ∀ o, h.get? b = some o → h'.get? b = some o) → tn i h'
  item : ∀ (X : Cx), X.prog = P → X.w = w → X.K = K → X.calm = true → ∀ (i : Nat) (pins : List (Addr × Obj)) (s : Shared) (σ : St) (H : Hp) (E : Value → Shared → Prop), Inv X pins σ H s → (∀ b ∈ fp, FpOk X pins H b) → tn i s.heap → J.go i H →
    wpAny (model P w) X.A (pyNext (.ref it)) (fun r s1 => ∃ u, r = some u ∧
      wpAny (model P w) X.A (letOwnedTupleGo tg (.ref it) u) (fun _ s2 => ∃ x H', Inv X pins σ H' s2 ∧ RelV x u ∧ J.yld i H x H' ∧ tn (i + 1) s2.heap ∧ ∀ b ∈ fp, H' b = none) E s1) E s
  done : ∀ (X : Cx), X.prog = P → X.w = w → X.K = K → X.calm = true → ∀ (i : Nat) (pins : List (Addr × Obj)) (s : Shared) (σ : St) (H : Hp) (E : Value → Shared → Prop), Inv X pins σ H s → (∀ b ∈ fp, FpOk X pins H b) → tn i s.heap → J.stop i H →
    wpAny (model P w) X.A (pyNext (.ref it)) (fun r s1 => r = none ∧ Inv X pins σ H s1) E s
  self : ∀ (A : Around) (i : Nat) (s : Shared) (Q : Value → Shared → Prop) (E : Value → Shared → Prop), tn i s.heap → Q (.ref it) s → wpAny (model P w) A (pyIter (.ref it)) Q E s
abbrev TI := St → Hp → (It → Hp → Prop) → Prop
def PIE (X : Cx) (pins : List (Addr × Obj)) (σ : St) (tg : Expr) (R : It → Hp → Prop) (itv : Value) (s2 : Shared) : Prop :=
  ∃ (it : Addr) (fp : List Addr) (tn : Nat → Heap → Prop) (J : It) (H' : Hp), itv = .ref it ∧ Inv X pins σ H' s2 ∧ Turn X.prog X.w X.K tg J fp it tn ∧ tn 0 s2.heap ∧ (∀ b ∈ fp, FpOk X pins H' b) ∧ R J H'
def PI (X : Cx) (tg iter : Expr) (wi : TI) : Prop :=
  ∀ (pins : List (Addr × Obj)) (s : Shared) (σ : St) (H : Hp) (R : It → Hp → Prop), Inv X pins σ H s → wi σ H R →
    wpAny (model X.prog X.w) X.A (eval iter X.env) (fun v s1 => wpAny (model X.prog X.w) X.A (pyIter v) (PIE X pins σ tg R) X.xe s1) X.xe s
theorem go_of {M : Model} {A : Around} {E : Value → Shared → Prop} {s : Shared} {tg : Expr} {it : Addr} {u : Value} {o : Obj} {n : String} {vs : Array Value} {Q : Unit → Shared → Prop} (ho : s.heap.get? it = some o) (hc : o.cls = .type n) (hd : o.data = .fields vs)
    (hn : ["enumerate", "zip", "dict_itemiterator", "dict_reverseitemiterator", "odict_iterator", "itertools.zip_longest", "itertools.pairwise"].contains n = false) (hQ : Q () s) : wpAny M A (letOwnedTupleGo tg (.ref it) u) Q E s := by
  unfold letOwnedTupleGo
  cases tg <;> first
    | exact wpAny_pure hQ
    | (cases u <;> first
        | exact wpAny_pure hQ
        | (refine wpAny_bind (wpAny_load ho ?_)
           rw [hc, hd]
           show wpAny M A (if (["enumerate", "zip", "dict_itemiterator", "dict_reverseitemiterator", "odict_iterator", "itertools.zip_longest", "itertools.pairwise"].contains n && vs[0]? == some (rawInt _)) = true then _ else _) Q E s
           rw [if_neg (by intro h; rw [hn, Bool.false_and] at h; cases h)]
           exact wpAny_pure hQ))
def Itl (K : PySem.W.Frag) (a : Addr) : It :=
  ⟨fun i H => ∃ xs x, SqL K H a xs ∧ xs[i]? = some x, fun i H x H' => H' = H ∧ ∀ xs, SqL K H a xs → xs[i]? = some x, fun i H => ∃ xs, SqL K H a xs ∧ xs.length ≤ i⟩
def Itt (K : PySem.W.Frag) (a : Addr) : It :=
  ⟨fun i H => ∃ xs x, SqT K H a xs ∧ xs[i]? = some x, fun i H x H' => H' = H ∧ ∀ xs, SqT K H a xs → xs[i]? = some x, fun i H => ∃ xs, SqT K H a xs ∧ xs.length ≤ i⟩
def Itr (lo : Int) (n : Nat) : It := ⟨fun i _ => i < n, fun i H x H' => H' = H ∧ x = .int (lo + i), fun i _ => n ≤ i⟩
theorem turn_list {P : Program} {w : World} {K : PySem.W.Frag} {tg : Expr} (a it : Addr) : Turn P w K tg (Itl K a) [it] it (fun i h => h.IsListIter it a i) where
  mem := by simp
  obj := fun i h st b hb => by
    have e : b = it := by simpa using hb
    subst e
    obtain ⟨o, e, c, d⟩ := st
    exact ⟨o, e, fun v z => by rw [d] at z; cases z⟩
  keep := fun i h h' st k => st.at fun o e => k it (by simp) o e
  item := by
    intro X hP hw hK hc i pins s σ H E I hf st hg
    subst hP hw hK
    obtain ⟨xs, x, hq, hx⟩ := hg
    obtain ⟨its, rv, p, hz⟩ := I.list hq
    obtain ⟨u, hu, ru⟩ := rv.get hx
    obtain ⟨f0, f1, f2, f3, f4, f5⟩ := hf it (by simp)
    refine wpAny_pyNext_list_item st p.isList (x := u) (by simpa using hu) fun h' st' sb => ?_
    have I1 : Inv X pins σ H { s with heap := h' } := I.turned (t' := s.toks) (fun b o hb e => (sb.2 b hb).trans e) f0 f1 f3 f4 f5
    obtain ⟨o, e, c, d⟩ := id st'
    exact ⟨u, rfl, go_of (s := { s with heap := h' }) e c d (by decide) ⟨x, H, I1, ru, ⟨rfl, fun ys hy => by rw [I.list_inj hy hq]; exact hx⟩, st', fun b hb => (hf b hb).1⟩⟩
  done := by
    intro X hP hw hK hc i pins s σ H E I hf st hg
    subst hP hw hK
    obtain ⟨xs, hq, hx⟩ := hg
    obtain ⟨its, rv, p, hz⟩ := I.list hq
    obtain ⟨f0, f1, f2, f3, f4, f5⟩ := hf it (by simp)
    have hl := rv.length
    exact wpAny_pyNext_list_end (I.ok.hd hc) st p.isList (by simp; omega) fun h' eb => ⟨rfl, I.turned (t' := s.toks) (fun b o hb e => eb b o hb e) f0 f1 f3 f4 f5⟩
  self := fun _ _ _ _ _ st h => wpAny_pyIter_listiter st h
theorem turn_tuple {P : Program} {w : World} {K : PySem.W.Frag} {tg : Expr} (a it : Addr) : Turn P w K tg (Itt K a) [it] it (fun i h => h.IsTupleIter it a i) where
  mem := by simp
  obj := fun i h st b hb => by
    have e : b = it := by simpa using hb
    subst e
    obtain ⟨o, e, c, d⟩ := st
    exact ⟨o, e, fun v z => by rw [d] at z; cases z⟩
  keep := fun i h h' st k => st.at fun o e => k it (by simp) o e
  item := by
    intro X hP hw hK hc i pins s σ H E I hf st hg
    subst hP hw hK
    obtain ⟨xs, x, hq, hx⟩ := hg
    obtain ⟨its, rv, p, hz⟩ := I.tuple hq
    obtain ⟨u, hu, ru⟩ := rv.get hx
    obtain ⟨f0, f1, f2, f3, f4, f5⟩ := hf it (by simp)
    refine wpAny_pyNext_tuple_item st (show s.heap.IsTuple a its.toArray from p) (x := u) (by simpa using hu) fun h' st' sb => ?_
    have I1 : Inv X pins σ H { s with heap := h' } := I.turned (t' := s.toks) (fun b o hb e => (sb.2 b hb).trans e) f0 f1 f3 f4 f5
    obtain ⟨o, e, c, d⟩ := id st'
    exact ⟨u, rfl, go_of (s := { s with heap := h' }) e c d (by decide) ⟨x, H, I1, ru, ⟨rfl, fun ys hy => by rw [I.tuple_inj hy hq]; exact hx⟩, st', fun b hb => (hf b hb).1⟩⟩
  done := by
    intro X hP hw hK hc i pins s σ H E I hf st hg
    subst hP hw hK
    obtain ⟨xs, hq, hx⟩ := hg
    obtain ⟨its, rv, p, hz⟩ := I.tuple hq
    obtain ⟨f0, f1, f2, f3, f4, f5⟩ := hf it (by simp)
    have hl := rv.length
    exact wpAny_pyNext_tuple_end (I.ok.hd hc) st (show s.heap.IsTuple a its.toArray from p) (by simp; omega) fun h' eb => ⟨rfl, I.turned (t' := s.toks) (fun b o hb e => eb b o hb e) f0 f1 f3 f4 f5⟩
  self := fun _ _ _ _ _ st h => wpAny_pyIter_tupleiter st h
theorem turn_range {P : Program} {w : World} {K : PySem.W.Frag} {tg : Expr} (it : Addr) (lo : Int) (n : Nat) : Turn P w K tg (Itr lo n) [it] it (fun i h => IsRangeIter h it (lo + (i : Nat) * 1) ((n : Int) - (i : Nat)) 1) where
  mem := by simp
  obj := fun i h st b hb => by
    have e : b = it := by simpa using hb
    subst e
    exact ⟨_, st, fun v z => by
      have z' : Data.fields _ = Data.cell v := z
      cases z'⟩
  keep := fun i h h' st k => k it (by simp) _ st
  item := by
    intro X hP hw hK hc i pins s σ H E I hf st hg
    subst hP hw hK
    obtain ⟨f0, f1, f2, f3, f4, f5⟩ := hf it (by simp)
    have W := Walks.range (prog := X.prog) (w := X.w) (I.ok.hd hc) it lo 1 n
    refine W.item i s _ _ hg st fun v h' tk hv st' kk => ?_
    obtain ⟨t, rfl⟩ := hv
    have I1 : Inv X pins σ H { s with heap := h', toks := tk } := I.turned (fun b o hb e => kk b o (by simpa using hb) e) f0 f1 f3 f4 f5
    refine ⟨_, rfl, go_of (s := { s with heap := h', toks := tk }) (n := "range_iterator") st' rfl rfl (by decide) ⟨.int (lo + i), H, I1, ⟨t, ?_⟩, ⟨rfl, rfl⟩, st', fun b hb => (hf b hb).1⟩⟩
    rw [Int.mul_one]
  done := by
    intro X hP hw hK hc i pins s σ H E I hf st hg
    subst hP hw hK
    obtain ⟨f0, f1, f2, f3, f4, f5⟩ := hf it (by simp)
    exact wpAny_pyNext_range_end (I.ok.hd hc) st (by have : n ≤ i := hg; omega) fun h' eb => ⟨rfl, I.turned (t' := s.toks) (fun b o hb e => eb b o hb e) f0 f1 f3 f4 f5⟩
  self := fun _ _ _ _ _ st h => wpAny_pyIter_rangeiter st h
end L2
namespace L2
open PySem PySem.Spec PyProof.Rows
section
variable {X : Cx} {tg : Expr}
def iList (K : PySem.W.Frag) (tl : TE) : TI := fun σ H R => tl σ H fun x H1 => ∃ a, x = .ref a ∧ (∃ xs, SqL K H1 a xs) ∧ R (Itl K a) H1
def iTup (K : PySem.W.Frag) (tl : TE) : TI := fun σ H R => tl σ H fun x H1 => ∃ a, x = .ref a ∧ (∃ xs, SqT K H1 a xs) ∧ R (Itt K a) H1
theorem pi_list {l : Expr} {tl : TE} (hl : PE X l tl) : PI X tg l (iList X.K tl) := by
  intro pins s σ H R I h
  refine thn (hl pins s σ H _ I h) fun v s1 ⟨x, H1, I1, r1, q1⟩ => ?_
  obtain ⟨a, e, ⟨xs, hq⟩, q⟩ := q1
  subst e
  cases r1
  obtain ⟨its, rv, p, hz⟩ := I1.list hq
  refine wpAny_pyIter_list p.isList ?_
  refine ⟨s1.heap.objs.size, [s1.heap.objs.size], _, _, H1, rfl, I1.kept (t' := s1.toks) fun b o e => Heap.get?_push_of_some _ e, turn_list a _, ⟨_, Heap.get?_push_size _ rfl, rfl, rfl⟩, fun b hb => ?_, q⟩
  have e : b = s1.heap.objs.size := by simpa using hb
  subst e
  exact I1.fpOk (Nat.le_refl _) (I1.hok.fresh (Nat.le_refl _))
theorem pi_tup {l : Expr} {tl : TE} (hl : PE X l tl) : PI X tg l (iTup X.K tl) := by
  intro pins s σ H R I h
  refine thn (hl pins s σ H _ I h) fun v s1 ⟨x, H1, I1, r1, q1⟩ => ?_
  obtain ⟨a, e, ⟨xs, hq⟩, q⟩ := q1
  subst e
  cases r1
  obtain ⟨its, rv, p, hz⟩ := I1.tuple hq
  refine wpAny_pyIter_tuple (show s1.heap.IsTuple a its.toArray from p) ?_
  refine ⟨s1.heap.objs.size, [s1.heap.objs.size], _, _, H1, rfl, I1.kept (t' := s1.toks) fun b o e => Heap.get?_push_of_some _ e, turn_tuple a _, ⟨_, Heap.get?_push_size _ rfl, rfl, rfl⟩, fun b hb => ?_, q⟩
  have e : b = s1.heap.objs.size := by simpa using hb
  subst e
  exact I1.fpOk (Nat.le_refl _) (I1.hok.fresh (Nat.le_refl _))
theorem range_it {pins : List (Addr × Obj)} {σ : St} {H : Hp} {s : Shared} {R : It → Hp → Prop} {E : Value → Shared → Prop} {lo hi : Int} {t u v : Tok} {tk : Nat} (I : Inv X pins σ H s) (h1 : -(2 ^ 62) ≤ lo) (h2 : lo < 2 ^ 62) (h3 : -(2 ^ 62) ≤ hi) (h4 : hi < 2 ^ 62)
    (q : R (Itr lo (hi - lo).toNat) H) : wpAny (model X.prog X.w) X.A (pyIter (.ref s.heap.objs.size)) (PIE X pins σ tg R) E { s with heap := s.heap.push { cls := .type "range", data := .fields #[.int lo t, .int hi u, .int 1 v] }, toks := tk } := by
  refine wpAny_pyIter_range (IsRange.new ..) (small_one h1 h2 h3 h4) ?_
  have I1 : Inv X pins σ H { s with heap := s.heap.push { cls := .type "range", data := .fields #[.int lo t, .int hi u, .int 1 v] }, toks := tk } := I.kept fun b o e => Heap.get?_push_of_some _ e
  refine ⟨(s.heap.push { cls := .type "range", data := .fields #[.int lo t, .int hi u, .int 1 v] }).objs.size, [(s.heap.push { cls := .type "range", data := .fields #[.int lo t, .int hi u, .int 1 v] }).objs.size], _, _, H, rfl,
    I1.kept (t' := tk) fun b o e => Heap.get?_push_of_some _ e, turn_range _ lo (hi - lo).toNat, ?_, fun b hb => ?_, q⟩
  · have e1 : lo + ((0 : Nat) : Int) * 1 = lo := by simp
    have e2 : (((hi - lo).toNat : Nat) : Int) - ((0 : Nat) : Int) = Builtin.Range.rangeSize lo hi 1 := by rw [rangeSize_one]; split <;> omega
    show IsRangeIter _ _ (lo + ((0 : Nat) : Int) * 1) ((((hi - lo).toNat : Nat) : Int) - ((0 : Nat) : Int)) 1
    rw [e1, e2]
    exact Heap.get?_push_size _ rfl
  · have e : b = (s.heap.push { cls := .type "range", data := .fields #[.int lo t, .int hi u, .int 1 v] }).objs.size := by simpa using hb
    subst e
    exact I1.fpOk (Nat.le_refl _) (I1.hok.fresh (Nat.le_refl _))
def iRng1 (ta : TA) : TI := fun σ H R => ta σ H fun vs H1 => ∃ j : Int, vs = [.int j] ∧ -(2 ^ 62) ≤ j ∧ j < 2 ^ 62 ∧ R (Itr 0 j.toNat) H1
def iRng2 (ta : TA) : TI := fun σ H R => ta σ H fun vs H1 => ∃ i j : Int, vs = [.int i, .int j] ∧ (-(2 ^ 62) ≤ i ∧ i < 2 ^ 62 ∧ -(2 ^ 62) ≤ j ∧ j < 2 ^ 62) ∧ R (Itr i (j - i).toNat) H1
theorem pi_range1 {a : Expr} {ta : TA} {p pos : Pos} (hg : Gl X "range") (hm : X.mg "range" = none) (ha : PA X [a] ta) (hs : starEach [a] X.env = [(false, eval a X.env)] := by rfl) : PI X tg (.Call (.Name "range" p) [a] [] pos) (iRng1 ta) := by
  intro pins s σ H R I h
  refine Call_ (ld_blt I hg hm boot_range (PyProof.Rows.callWith_type1 (thn (ha pos pins s σ H _ I h) fun us s1 ⟨vs, H1, I1, r1, q1⟩ => ?_) hs rfl))
  obtain ⟨j, e, q1, q2, q⟩ := q1
  subst e
  cases r1 with
  | cons r rr =>
    cases rr
    obtain ⟨t, rfl⟩ := r
    exact call_range_1 (range_it I1 (by omega) (by omega) q1 q2 (by simpa using q))
theorem pi_range2 {a b : Expr} {ta : TA} {p pos : Pos} (hg : Gl X "range") (hm : X.mg "range" = none) (ha : PA X [a, b] ta) (hs : starEach [a, b] X.env = [(false, eval a X.env), (false, eval b X.env)] := by rfl) (hs2 : starEach [b] X.env = [(false, eval b X.env)] := by rfl) :
    PI X tg (.Call (.Name "range" p) [a, b] [] pos) (iRng2 ta) := by
  intro pins s σ H R I h
  refine Call_ (ld_blt I hg hm boot_range (PyProof.Rows.callWith_type1 (thn (ha pos pins s σ H _ I h) fun us s1 ⟨vs, H1, I1, r1, q1⟩ => ?_) (by rw [hs, hs2]) (by rw [hs2]; rfl)))
  obtain ⟨i, j, e, ⟨q1, q2, q3, q4⟩, q⟩ := q1
  subst e
  cases r1 with
  | cons r rr =>
    cases rr with
    | cons r' rr =>
      cases rr
      obtain ⟨t, rfl⟩ := r
      obtain ⟨t', rfl⟩ := r'
      exact call_range_2 (range_it I1 q1 q2 q3 q4 q)
def tFor (wi : TI) (g : TG) (tb : TS) : TS := fun D σ H => wi σ H fun J H1 => ∃ W : Nat → Nat → St → Hp → Prop, (∃ m, W 0 m σ H1) ∧ ∀ i m σ H, W i m σ H →
  (J.stop i H ∧ D.nx σ H) ∨ (J.go i H ∧ ∃ N : St → Hp → Prop, (∀ σ' H', N σ' H' → ∃ m', m' < m ∧ W (i + 1) m' σ' H') ∧ ∀ x H', J.yld i H x H' → g x σ H' fun σ2 H2 => tb { D with nx := N, ct := N, bk := D.nx } σ2 H2)
def pinsAt (fp : List Addr) (h : Heap) : List (Addr × Obj) := fp.filterMap fun b => (h.get? b).map fun o => (b, o)
theorem mem_pinsAt {fp : List Addr} {h : Heap} {b : Addr} {o : Obj} (hb : b ∈ fp) (e : h.get? b = some o) : (b, o) ∈ pinsAt fp h := List.mem_filterMap.mpr ⟨b, hb, by rw [e]; rfl⟩
theorem of_pinsAt {fp : List Addr} {h : Heap} {p : Addr × Obj} (hp : p ∈ pinsAt fp h) : p.1 ∈ fp ∧ h.get? p.1 = some p.2 := by
  obtain ⟨b, hb, e⟩ := List.mem_filterMap.mp hp
  cases q : h.get? b with
  | none => rw [q] at e; cases e
  | some o =>
    rw [q] at e
    have e' : (b, o) = p := Option.some.inj e
    subst e'
    exact ⟨hb, q⟩
theorem Inv.pinned {pins : List (Addr × Obj)} {σ : St} {H : Hp} {s : Shared} {fp : List Addr} (I : Inv X pins σ H s) (hf : ∀ b ∈ fp, FpOk X pins H b) (ho : ∀ b ∈ fp, ∃ o, s.heap.get? b = some o ∧ ∀ v, o.data ≠ .cell v) : Inv X (pins ++ pinsAt fp s.heap) σ H s :=
  I.pins_of fun p hp => (List.mem_append.mp hp).elim (fun z => I.pin p (List.mem_append_right _ z)) fun z => by
    obtain ⟨hb, e⟩ := of_pinsAt z
    obtain ⟨f0, f1, f2, _⟩ := hf p.1 hb
    obtain ⟨o, e', d⟩ := ho p.1 hb
    rw [e] at e'; cases e'
    exact ⟨e, f0, f1, f2, d⟩
theorem Inv.unpinned {pins pl : List (Addr × Obj)} {σ : St} {H : Hp} {s : Shared} (I : Inv X (pins ++ pl) σ H s) : Inv X pins σ H s := I.pins_of fun p hp => I.pin p (List.mem_append_right _ (List.mem_append_left _ hp))
theorem ps_for {iter : Expr} {body : List Stmt} {wi : TI} {g : TG} {tb : TS} {pos : Pos} (hp : PassesOwn (model X.prog X.w) X.A X.env X.xe) (hc : X.calm = true) (hi : PI X tg iter wi) (hg : PG X tg g) (hb : PSs X body tb)
    (hs : ∀ x, foldedSetIterable iter X.env x = pure x := by intro _; rfl) : PS X (.For tg iter body [] pos) (tFor wi g tb) := by
  intro pins s σ H D I h
  refine wpAny_For (thn (hi pins s σ H _ I h) fun v s1 h1 => thn h1 fun itv s2 h2 => ?_) hs
  obtain ⟨it, fp, tn, J, H2, e, I2, T, st2, f2, W, ⟨m0, w0⟩, turn⟩ := h2
  subst e
  -- what stays true of the iterator's objects through the loop
  have stat : ∀ {H' : Hp}, (∀ b ∈ fp, H' b = none) → ∀ b ∈ fp, FpOk X pins H' b := fun hn b hb => ⟨hn b hb, (f2 b hb).2⟩
  refine codeAny_forLoop_any (fun n s' => ∃ i σ' H', Inv X pins σ' H' s' ∧ tn i s'.heap ∧ (∀ b ∈ fp, H' b = none) ∧ W i n σ' H') ?_ m0 ⟨0, σ, H2, I2, st2, fun b hb => (f2 b hb).1, w0⟩
  rintro n s3 ⟨i, σ3, H3, I3, st3, fr3, w3⟩
  rcases turn i n σ3 H3 w3 with ⟨stop, qn⟩ | ⟨go, N, hN, step⟩
  · refine wpAny_passesOwn hp (thn (T.done X rfl rfl rfl hc i pins s3 σ3 H3 X.xe I3 (stat fr3) st3 stop) fun r s4 ⟨hr, I4⟩ => ?_)
    subst hr
    exact wpAny_execs_nil ⟨σ3, H3, I4, qn⟩
  · refine wpAny_passesOwn hp (thn (T.item X rfl rfl rfl hc i pins s3 σ3 H3 X.xe I3 (stat fr3) st3 go) fun r s4 ⟨u, hr, h4⟩ => ?_)
    subst hr
    refine wpAny_passesOwn hp (thn h4 fun _ s5 ⟨x, H5, I5, r5, y5, st5, fr5⟩ => ?_)
    have I5' := I5.pinned (stat fr5) (T.obj _ _ st5)
    refine wpAny_passesOwn hp (thn (hg _ s5 σ3 H5 x u _ I5' r5 (step x H5 y5)) fun _ s6 ⟨σ6, H6, I6, q6⟩ => ?_)
    refine wpAny_passesOwn hp (thn (hb _ s6 σ6 H6 _ I6 q6) fun f s7 q7 => ?_)
    have again : ∀ {σ7 : St} {H7 : Hp}, Inv X (pins ++ pinsAt fp s5.heap) σ7 H7 s7 → N σ7 H7 → ∃ m, m < n ∧ ∃ i σ' H', Inv X pins σ' H' s7 ∧ tn i s7.heap ∧ (∀ b ∈ fp, H' b = none) ∧ W i m σ' H' := fun {σ7 H7} I7 n7 => by
      obtain ⟨m', hm, w7⟩ := hN σ7 H7 n7
      refine ⟨m', hm, i + 1, σ7, H7, I7.unpinned, T.keep _ _ _ st5 fun b hb o e => (I7.pin (b, o) (List.mem_append_right _ (List.mem_append_right _ (mem_pinsAt hb e)))).1, fun b hb => ?_, w7⟩
      obtain ⟨o, e, d⟩ := T.obj _ _ st5 b hb
      exact (I7.pin (b, o) (List.mem_append_right _ (List.mem_append_right _ (mem_pinsAt hb e)))).2.1
    cases f with
    | next => obtain ⟨σ7, H7, I7, n7⟩ := q7; exact again I7 n7
    | cont => obtain ⟨σ7, H7, I7, n7⟩ := q7; exact again I7 n7
    | brk => obtain ⟨σ7, H7, I7, q7⟩ := q7; exact ⟨σ7, H7, I7.unpinned, q7⟩
    | ret v => obtain ⟨x7, σ7, H7, I7, r7, q7⟩ := q7; exact ⟨x7, σ7, H7, I7.unpinned, r7, q7⟩
end
end L2
namespace L2
open PySem PySem.Spec PyProof.Rows
abbrev R2 := V → V → Hp → VK → Prop
def OpR (X : Cx) (f : Value → Value → Sem Value) (r : R2) : Prop :=
  ∀ (pins : List (Addr × Obj)) (s : Shared) (σ : St) (H : Hp) (x y : V) (v u : Value) (Q : VK), Inv X pins σ H s → RelV x v → RelV y u → r x y H Q →
    wpAny (model X.prog X.w) X.A (f v u) (EP X pins σ Q) X.xe s
def UnR (X : Cx) (f : Value → Sem Value) (r : V → Hp → VK → Prop) : Prop :=
  ∀ (pins : List (Addr × Obj)) (s : Shared) (σ : St) (H : Hp) (x : V) (v : Value) (Q : VK), Inv X pins σ H s → RelV x v → r x H Q →
    wpAny (model X.prog X.w) X.A (f v) (EP X pins σ Q) X.xe s
def CallR (X : Cx) (f : Value) (r : List V → Hp → VK → Prop) : Prop :=
  ∀ (pins : List (Addr × Obj)) (s : Shared) (σ : St) (H : Hp) (xs : List V) (us : List Value) (Q : VK), Inv X pins σ H s → Vals xs us → r xs H Q →
    wpAny (model X.prog X.w) X.A (call f us) (EP X pins σ Q) X.xe s
def TruR (X : Cx) (r : V → Hp → (Bool → Hp → Prop) → Prop) : Prop :=
  ∀ (pins : List (Addr × Obj)) (s : Shared) (σ : St) (H : Hp) (x : V) (v : Value) (Q : Bool → Hp → Prop), Inv X pins σ H s → RelV x v → r x H Q →
    wpAny (model X.prog X.w) X.A (truthy v) (TP X pins σ Q) X.xe s
def tOp (r : R2) (ta tb : TE) : TE := fun σ H Q => ta σ H fun x H1 => tb σ H1 fun y H2 => r x y H2 Q
def tUn (r : V → Hp → VK → Prop) (ta : TE) : TE := fun σ H Q => ta σ H fun x H1 => r x H1 Q
def rI (C : Int → Int → Prop) (g : Int → Int → V) : R2 := fun x y H Q => ∃ i j, x = .int i ∧ y = .int j ∧ C i j ∧ Q (g i j) H
def rI0 (g : Int → Int → V) : R2 := fun x y H Q => ∃ i j, x = .int i ∧ y = .int j ∧ Q (g i j) H
def rU (g : Int → V) : V → Hp → VK → Prop := fun x H Q => ∃ i, x = .int i ∧ Q (g i) H
section
variable {X : Cx} {a b c : Expr} {ta tb tc : TE} {pos : Pos}
theorem binT (ha : PE X a ta) (hb : PE X b tb) {pins : List (Addr × Obj)} {s : Shared} {σ : St} {H : Hp} {R : V → V → Hp → Prop} (I : Inv X pins σ H s)
    (h : ta σ H fun x H1 => tb σ H1 fun y H2 => R x y H2) {Q : Value → Shared → Prop} {f : Value → Value → Sem Value}
    (hf : ∀ v u s2 x y H2, Inv X pins σ H2 s2 → RelV x v → RelV y u → R x y H2 → wpAny (model X.prog X.w) X.A (f v u) Q X.xe s2) :
    wpAny (model X.prog X.w) X.A (eval a X.env) (fun v s₁ => wpAny (model X.prog X.w) X.A (eval b X.env) (fun u s₂ => wpAny (model X.prog X.w) X.A (f v u) Q X.xe s₂) X.xe s₁) X.xe s := by
  refine thn (ha pins s σ H _ I h) fun v s1 ⟨x, H1, I1, r1, q1⟩ => ?_
  refine thn (hb pins s1 σ H1 _ I1 q1) fun u s2 ⟨y, H2, I2, r2, q2⟩ => ?_
  exact hf v u s2 x y H2 I2 r1 r2 q2
theorem pe_op {op : Operator} {r : R2} (ho : OpR X (binaryOp op) r) (ha : PE X a ta) (hb : PE X b tb) : PE X (.BinOp a op b pos) (tOp r ta tb) := by
  intro pins s σ H Q I h
  exact wpAny_BinOp (binT ha hb I h fun v u s2 x y H2 I2 rx ry q => ho pins s2 σ H2 x y v u Q I2 rx ry q)
theorem pe_un {op : UnaryOp} {r : V → Hp → VK → Prop} (ho : UnR X (unaryOp op) r) (ha : PE X a ta) : PE X (.UnaryOp op a pos) (tUn r ta) := by
  intro pins s σ H Q I h
  exact UnaryOp_ (thn (ha pins s σ H _ I h) fun v s1 ⟨x, H1, I1, r1, q1⟩ => ho pins s1 σ H1 x v Q I1 r1 q1)
theorem opI {f : Value → Value → Sem Value} {C : Int → Int → Prop} {g : Int → Int → Int}
    (rule : ∀ (i j : Int) (t u : Tok) (s : Shared) (Q : Value → Shared → Prop) (E : Value → Shared → Prop), C i j → Q (.int (g i j) s.toks) { s with toks := s.toks + 1 } → wpAny (model X.prog X.w) X.A (f (.int i t) (.int j u)) Q E s) :
    OpR X f (rI C fun i j => .int (g i j)) := by
  intro pins s σ H x y v u Q I rx ry h
  obtain ⟨i, j, rfl, rfl, hc, q⟩ := h
  obtain ⟨t, rfl⟩ := rx
  obtain ⟨t', rfl⟩ := ry
  exact rule i j t t' s _ _ hc ⟨.int (g i j), H, I.tok _, ⟨_, rfl⟩, q⟩
theorem opI0 {f : Value → Value → Sem Value} {g : Int → Int → Int}
    (rule : ∀ (i j : Int) (t u : Tok) (s : Shared) (Q : Value → Shared → Prop) (E : Value → Shared → Prop), Q (.int (g i j) s.toks) { s with toks := s.toks + 1 } → wpAny (model X.prog X.w) X.A (f (.int i t) (.int j u)) Q E s) :
    OpR X f (rI0 fun i j => .int (g i j)) := by
  intro pins s σ H x y v u Q I rx ry h
  obtain ⟨i, j, rfl, rfl, q⟩ := h
  obtain ⟨t, rfl⟩ := rx
  obtain ⟨t', rfl⟩ := ry
  exact rule i j t t' s _ _ ⟨.int (g i j), H, I.tok _, ⟨_, rfl⟩, q⟩
theorem opB0 {f : Value → Value → Sem Value} {g : Int → Int → Bool}
    (rule : ∀ (i j : Int) (t u : Tok) (s : Shared) (Q : Value → Shared → Prop) (E : Value → Shared → Prop), Q (.bool (g i j)) s → wpAny (model X.prog X.w) X.A (f (.int i t) (.int j u)) Q E s) :
    OpR X f (rI0 fun i j => .bl (g i j)) := by
  intro pins s σ H x y v u Q I rx ry h
  obtain ⟨i, j, rfl, rfl, q⟩ := h
  obtain ⟨t, rfl⟩ := rx
  obtain ⟨t', rfl⟩ := ry
  exact rule i j t t' s _ _ ⟨.bl (g i j), H, I, rfl, q⟩
def CDiv (i j : Int) : Prop := 0 < j ∧ j < 1073741824
def CPow (i j : Int) : Prop := 0 ≤ j ∧ j ≤ 1000000 ∧ i.natAbs < 2 ^ 64
def CMul (i j : Int) : Prop := (-(2 ^ 64) < i ∧ i < 2 ^ 64) ∨ (-(2 ^ 64) < j ∧ j < 2 ^ 64)
theorem CMul.ok {i j : Int} (h : CMul i j) : IntMulOk i j := by
  rcases h with ⟨h1, h2⟩ | ⟨h1, h2⟩
  · exact .of_left (intBits_le_64 h1 h2)
  · exact .of_right (intBits_le_64 h1 h2)
theorem op_add : OpR X (binaryOp .Add) (rI0 fun i j => .int (i + j)) := opI0 fun _ _ _ _ _ _ _ q => add_int q
theorem op_sub : OpR X (binaryOp .Sub) (rI0 fun i j => .int (i - j)) := opI0 fun _ _ _ _ _ _ _ q => sub_int q
theorem op_mul : OpR X (binaryOp .Mult) (rI CMul fun i j => .int (i * j)) := opI fun _ _ _ _ _ _ _ hc q => mul_int q hc.ok
theorem op_fdiv : OpR X (binaryOp .FloorDiv) (rI CDiv fun i j => .int (i / j)) := opI fun i j _ _ _ _ _ hc q => by
  have h1 : (0 : Int) < j := hc.1
  have h2 : j < 1073741824 := hc.2
  exact floordiv_int (by omega) (by rw [Int.fdiv_eq_ediv_of_nonneg i (by omega)]; exact q) (.inl (PyProof.noPylong_small (by omega)))
theorem op_mod : OpR X (binaryOp .Mod) (rI (fun _ j => 0 < j) fun i j => .int (i % j)) := opI fun i j _ _ _ _ _ hc q => by
  have h1 : (0 : Int) < j := hc
  exact mod_int' (by omega) (by rw [Int.fmod_eq_emod_of_nonneg i (by omega)]; exact q)
theorem op_pow : OpR X (binaryOp .Pow) (rI CPow fun i j => .int (i ^ j.toNat)) := opI fun _ _ _ _ _ _ _ hc q => pow_int_small hc.1 hc.2.1 hc.2.2 q
theorem unI {f : Value → Sem Value} {g : Int → Int}
    (rule : ∀ (i : Int) (t : Tok) (s : Shared) (Q : Value → Shared → Prop) (E : Value → Shared → Prop), Q (.int (g i) s.toks) { s with toks := s.toks + 1 } → wpAny (model X.prog X.w) X.A (f (.int i t)) Q E s) :
    UnR X f (rU fun i => .int (g i)) := by
  intro pins s σ H x v Q I rx h
  obtain ⟨i, rfl, q⟩ := h
  obtain ⟨t, rfl⟩ := rx
  exact rule i t s _ _ ⟨.int (g i), H, I.tok _, ⟨_, rfl⟩, q⟩
theorem un_neg : UnR X (unaryOp .USub) (rU fun i => .int (-i)) := unI fun _ _ _ _ _ q => neg_int q
end
section
variable {X : Cx} {a b c : Expr} {ta tb tc : TE} {pos : Pos}
theorem fin_bl {pins : List (Addr × Obj)} {σ : St} {H : Hp} {s : Shared} {Q : VK} {k k' : Bool} (I : Inv X pins σ H s) (q : Q (.bl k) H) (e : k = k') : EP X pins σ Q (.bool k') s := by
  subst e
  exact ⟨.bl k, H, I, rfl, q⟩
theorem op_le : OpR X (compareOp .LtE) (rI0 fun i j => .bl (decide (i ≤ j))) := opB0 fun _ _ _ _ _ _ _ q => le_int q
theorem op_gt : OpR X (compareOp .Gt) (rI0 fun i j => .bl (decide (j < i))) := opB0 fun _ _ _ _ _ _ _ q => gt_int q
theorem op_in_str : OpR X (compareOp .In) (fun x y H Q => ∃ i j, x = .str i ∧ y = .str j ∧ Q (.bl (!(Builtin.Str.occurrences j i 0 j.length 1).isEmpty)) H) := by
  intro pins s σ H x y v u Q I rx ry h
  obtain ⟨i, j, rfl, rfl, q⟩ := h
  obtain ⟨t, rfl⟩ := rx
  obtain ⟨t', rfl⟩ := ry
  exact in_str (fin_bl I q rfl)
theorem op_notin_str : OpR X (compareOp .NotIn) (fun x y H Q => ∃ i j, x = .str i ∧ y = .str j ∧ Q (.bl (!(!(Builtin.Str.occurrences j i 0 j.length 1).isEmpty))) H) := by
  intro pins s σ H x y v u Q I rx ry h
  obtain ⟨i, j, rfl, rfl, q⟩ := h
  obtain ⟨t, rfl⟩ := rx
  obtain ⟨t', rfl⟩ := ry
  exact notIn_str (fin_bl I q rfl)
theorem OpR.or {f : Value → Value → Sem Value} {r r' : R2} (h : OpR X f r) (h' : OpR X f r') : OpR X f (fun x y H Q => r x y H Q ∨ r' x y H Q) := by
  intro pins s σ H x y v u Q I rx ry q
  rcases q with q | q
  · exact h pins s σ H x y v u Q I rx ry q
  · exact h' pins s σ H x y v u Q I rx ry q
theorem pe_cmpR {op : CmpOp} {r : R2} (ho : OpR X (compareOp op) r) (ha : PE X a ta) (hb : PE X b tb) (hm : behindInMarks op b = false) : PE X (.Compare a [op] [b] pos) (tOp r ta tb) := by
  intro pins s σ H Q I h
  exact wpAny_Compare1 (binT ha hb I h fun v u s2 x y H2 I2 rx ry q => ho pins s2 σ H2 x y v u Q I2 rx ry q) hm
def tTest (t : TE) : TT := fun σ H Q => t σ H fun x H' => ∃ k, x = .bl k ∧ Q k H'
theorem pt_cmpR {op : CmpOp} {r : R2} (ho : OpR X (compareOp op) r) (ha : PE X a ta) (hb : PE X b tb) (hm : behindInMarks op b = false) : PT X (.Compare a [op] [b] pos) (tTest (tOp r ta tb)) := by
  intro pins s σ H Q I h
  refine wpAny_isTrue_Compare1 (thn (ha pins s σ H _ I h) fun v s1 ⟨x, H1, I1, r1, q1⟩ => thn (hb pins s1 σ H1 _ I1 q1) fun u s2 ⟨y, H2, I2, r2, q2⟩ =>
    thn (ho pins s2 σ H2 x y v u _ I2 r1 r2 q2) fun c s3 ⟨z, H3, I3, r3, k, e, q3⟩ => ?_) hm
  subst e
  cases r3
  exact wpAny_truthy_bool ⟨H3, I3, q3⟩
def tChain (r r' : R2) (ta tb tc : TE) : TE := fun σ H Q => ta σ H fun x H1 => tb σ H1 fun y H2 => r x y H2 fun z H3 => ∃ k, z = .bl k ∧
  (if k = true then tc σ H3 fun w' H4 => r' y w' H4 Q else Q (.bl false) H3)
theorem pe_chain {op op' : CmpOp} {r r' : R2} (ho : OpR X (compareOp op) r) (ho' : OpR X (compareOp op') r') (ha : PE X a ta) (hb : PE X b tb) (hc : PE X c tc)
    (hm : lastMarks [op, op'] [b, c] = false := by with_unfolding_all rfl) : PE X (.Compare a [op, op'] [b, c] pos) (tChain r r' ta tb tc) := by
  intro pins s σ H Q I h
  refine Compare_chain (thn (ha pins s σ H _ I h) fun v s1 ⟨x, H1, I1, r1, q1⟩ => chain_link (thn (hb pins s1 σ H1 _ I1 q1) fun u s2 ⟨y, H2, I2, r2, q2⟩ =>
    thn (ho pins s2 σ H2 x y v u _ I2 r1 r2 q2) fun d s3 ⟨z, H3, I3, r3, k, e, q3⟩ => ?_)) hm
  subst e
  cases r3
  refine wpAny_truthy_bool ?_
  cases k with
  | false => exact ite_ff ⟨.bl false, H3, I3, rfl, q3⟩
  | true => exact ite_tt (chain_last (thn (hc pins s3 σ H3 _ I3 q3) fun w' s4 ⟨z', H4, I4, r4, q4⟩ => ho' pins s4 σ H4 y z' u w' Q I4 r2 r4 q4))
def TruV (K : PySem.W.Frag) (x : V) (H : Hp) (k : Bool) : Prop :=
  match x with
  | .non => k = false
  | .bl b => k = b
  | .int i => k = (i != 0)
  | .str y => y.length ≤ sizeLine ∧ k = ((y.length : Int) != 0)
  | .byt y => y.size ≤ sizeLine ∧ k = ((y.size : Int) != 0)
  | .ref p => (∃ xs, SqL K H p xs ∧ k = !xs.isEmpty) ∨ (∃ xs, SqT K H p xs ∧ k = !xs.isEmpty) ∨ ∃ kvs, H p = some (.dK kvs) ∧ k = !kvs.isEmpty
  | _ => False
theorem isEmpty_kv {κ : Type} {kvs : List (κ × V)} {vs : List (κ × Value)} (r : KV kvs vs) : (!vs.isEmpty) = !kvs.isEmpty := by
  cases r <;> rfl
theorem isEmpty_of {xs : List V} {its : List Value} (r : Vals xs its) : (!its.toArray.isEmpty) = !xs.isEmpty := by
  cases r <;> simp
theorem line63 : (sizeLine : Nat) < 2 ^ 63 := by rw [sizeLine_eq]; decide
theorem tru_ok : TruR X (fun x H Q => ∃ k, TruV X.K x H k ∧ Q k H) := by
  intro pins s σ H x v Q I rx h
  obtain ⟨k, e, q⟩ := h
  have hl := line63
  have hs : sizeLine = 16777216 := sizeLine_eq
  cases x with
  | non =>
    cases rx
    have e' : k = false := e
    subst e'
    exact truthy_none ⟨H, I, q⟩
  | bl b =>
    cases rx
    have e' : k = b := e
    subst e'
    exact wpAny_truthy_bool ⟨H, I, q⟩
  | int i =>
    obtain ⟨t, rfl⟩ := rx
    have e' : k = (i != 0) := e
    subst e'
    exact PySem.P.truthy_int ⟨H, I, q⟩
  | str y =>
    obtain ⟨t, rfl⟩ := rx
    obtain ⟨hy, e'⟩ : y.length ≤ sizeLine ∧ k = ((y.length : Int) != 0) := e
    subst e'
    exact PySem.P.truthy_str (by omega) ⟨H, I.tok _, q⟩
  | byt y =>
    obtain ⟨t, rfl⟩ := rx
    obtain ⟨hy, e'⟩ : y.size ≤ sizeLine ∧ k = ((y.size : Int) != 0) := e
    subst e'
    exact PySem.W.truthy_bytes (by omega) ⟨H, I.tok _, q⟩
  | ref p =>
    cases rx
    have e' : (∃ xs, SqL X.K H p xs ∧ k = !xs.isEmpty) ∨ (∃ xs, SqT X.K H p xs ∧ k = !xs.isEmpty) ∨ ∃ kvs, H p = some (.dK kvs) ∧ k = !kvs.isEmpty := e
    rcases e' with ⟨xs, hx, e'⟩ | ⟨xs, hx, e'⟩ | ⟨kvs, hx, e'⟩
    · subst e'
      obtain ⟨its, r, pl, hz⟩ := I.list hx
      have hlen := r.length
      exact wpAny_truthy_list pl.isList (by simp only [List.size_toArray]; omega) ⟨H, I.tok _, by rw [isEmpty_of r]; exact q⟩
    · subst e'
      obtain ⟨its, r, pl, hz⟩ := I.tuple hx
      have hlen := r.length
      exact truthy_tuple pl (by simp only [List.size_toArray]; omega) ⟨H, I.tok _, by rw [isEmpty_of r]; exact q⟩
    · subst e'
      obtain ⟨hz, hS, vs, r, m⟩ : kvs.length ≤ sizeLine ∧ (p == sysModules) = false ∧ ∃ vs, KV kvs vs ∧ s.heap.DictOf (mixKind X.prog X.w) p vs := I.hok p _ hx
      have hlen : kvs.length = vs.length := Paired.length r
      exact wpAny_truthy_dict hS m (by omega) ⟨H, I.tok _, by rw [isEmpty_kv r]; exact q⟩
  | _ => exact (show False from e).elim
theorem pt_truth (ha : PE X a ta) (he : ∀ whole, isTrue a X.env whole = (do let v ← whole; standAt a.pos; holding [v] (truthy v))) :
    PT X a (fun σ H Q => ta σ H fun x H' => ∃ k, TruV X.K x H' k ∧ Q k H') := by
  intro pins s σ H Q I h
  exact isTrue_plain (thn (ha pins s σ H _ I h) fun v s1 ⟨x, H1, I1, r1, q1⟩ => tru_ok pins s1 σ H1 x v Q I1 r1 q1) (he _)
theorem op_add_str : OpR X (binaryOp .Add) (fun x y H Q => ∃ i j, x = .str i ∧ y = .str j ∧ i.length + j.length ≤ sizeLine ∧ Q (.str (i ++ j)) H) := by
  intro pins s σ H x y v u Q I rx ry h
  obtain ⟨i, j, rfl, rfl, hz, q⟩ := h
  obtain ⟨t, rfl⟩ := rx
  obtain ⟨t', rfl⟩ := ry
  exact add_str (fun t' tk => ⟨.str (i ++ j), H, I.tok _, ⟨_, rfl⟩, q⟩) hz
theorem vals1 {x : V} {us : List Value} (r : Vals [x] us) : ∃ u, us = [u] ∧ RelV x u := by
  cases r with
  | cons r1 r2 => cases r2; exact ⟨_, rfl, r1⟩
theorem vals2 {x y : V} {us : List Value} (r : Vals [x, y] us) : ∃ u w', us = [u, w'] ∧ RelV x u ∧ RelV y w' := by
  cases r with
  | cons r1 r2 =>
    cases r2 with
    | cons r3 r4 => cases r4; exact ⟨_, _, rfl, r1, r3⟩
def LenV (K : PySem.W.Frag) (x : V) (H : Hp) (n : Nat) : Prop :=
  match x with
  | .str y => y.length ≤ sizeLine ∧ n = y.length
  | .byt y => y.size ≤ sizeLine ∧ n = y.size
  | .ref p => (∃ xs, SqL K H p xs ∧ n = xs.length) ∨ ∃ xs, SqT K H p xs ∧ n = xs.length
  | _ => False
theorem call_len : CallR X (.builtin "len") (fun xs H Q => ∃ x n, xs = [x] ∧ LenV X.K x H n ∧ Q (.int n) H) := by
  intro pins s σ H xs us Q I r h
  obtain ⟨x, n, rfl, e, q⟩ := h
  obtain ⟨u, rfl, rx⟩ := vals1 r
  have hl := line63
  have hs : sizeLine = 16777216 := sizeLine_eq
  cases x with
  | str y =>
    obtain ⟨t, rfl⟩ := rx
    obtain ⟨hy, e'⟩ : y.length ≤ sizeLine ∧ n = y.length := e
    subst e'
    exact len_str (by omega) ⟨.int _, H, I.tok _, ⟨_, rfl⟩, q⟩
  | byt y =>
    obtain ⟨t, rfl⟩ := rx
    obtain ⟨hy, e'⟩ : y.size ≤ sizeLine ∧ n = y.size := e
    subst e'
    exact PySem.W.len_bytes (by omega) ⟨.int _, H, I.tok _, ⟨_, rfl⟩, q⟩
  | ref p =>
    cases rx
    have e' : (∃ xs, SqL X.K H p xs ∧ n = xs.length) ∨ ∃ xs, SqT X.K H p xs ∧ n = xs.length := e
    rcases e' with ⟨xs, hx, e'⟩ | ⟨xs, hx, e'⟩
    · subst e'
      obtain ⟨its, r', pl, hz⟩ := I.list hx
      have hlen := r'.length
      exact Calls.call_len_list pl.isList (by simp only [List.size_toArray]; omega) ⟨.int xs.length, H, I.tok _, ⟨_, by simp only [List.size_toArray]; rw [hlen]⟩, q⟩
    · subst e'
      obtain ⟨its, r', pl, hz⟩ := I.tuple hx
      have hlen := r'.length
      exact len_tuple pl (by simp only [List.size_toArray]; omega) ⟨.int xs.length, H, I.tok _, ⟨_, by simp only [List.size_toArray]; rw [hlen]⟩, q⟩
  | _ => exact (show False from e).elim
end
end L2
namespace L2
open PySem PySem.Spec PyProof.Rows
section
variable {prog : Program} {w : World} {A : Around} {E : Value → Shared → Prop} {s : Shared} {K : PySem.W.Frag} {x dx C f : Addr} {mA : Str → Option Value} {name : Str} {v : Value}
end
section
variable {P : Program} {w : World} {H H' : Hp} {h h' : Heap} {a C dx : Addr} {fs fs' : List (Str × V)}
end
structure Cls (K : PySem.W.Frag) (C : Addr) : Prop where
  pg : PySem.W.plainGet K C Str.empty = true
  hd : PySem.W.hasDictIn K C = true
  po : PySem.W.plainOver K C = true
  sa : PySem.W.findIn K (.ref C) "__setattr__" = some (some (.builtin "object.__setattr__"))
theorem Cls.get {K : PySem.W.Frag} {C : Addr} (c : Cls K C) (f : Str) : PySem.W.plainGet K C f = true := c.pg
section
variable {X : Cx} {pins : List (Addr × Obj)} {σ : St} {H : Hp} {s : Shared} {a C dx : Addr} {fs : List (Str × V)} {f : Str} {v : V} {A : Around} {E : Value → Shared → Prop}
end
section
variable {X : Cx} {o e value : Expr} {f : Str} {pos pos' tpos : Pos} {ta tv : TE}
end
section
variable {X : Cx} {pins : List (Addr × Obj)} {σ : St} {H : Hp} {s : Shared} {A : Around} {E : Value → Shared → Prop} {Q : Value → Shared → Prop} {c : Value} {b : Bool}
end
end L2
namespace L2
open PySem PySem.Spec PyProof.Rows
structure Room (k : Nat) (A : Around) : Prop where
  hd : A.handled = none
  dp : A.depth + 3 * k + 5 < recursionLimit
  un : A.units + 16 * k + 200 < cLine
theorem Room.mono {j k : Nat} {A : Around} (r : Room k A) (h : j ≤ k) : Room j A := ⟨r.hd, by have := r.dp; omega, by have := r.un; omega⟩
theorem Room.deeper {k : Nat} {A : Around} (r : Room (k + 1) A) (env : Env) : Room k (A.deeper env) :=
  ⟨r.hd, by have := r.dp; show A.depth + 1 + 3 * k + 5 < _; omega, by have := r.un; show A.units + 3 + 16 * k + 200 < _; omega⟩
theorem Room.in1 {k : Nat} {A : Around} (r : Room (k + 1) A) : Room k A.in1 :=
  ⟨r.hd, by have := r.dp; show A.depth + 3 * k + 5 < _; omega, by have := r.un; show A.units + 1 + 16 * k + 200 < _; omega⟩
theorem Room.depth {k : Nat} {A : Around} (r : Room k A) : A.depth < recursionLimit := by have := r.dp; omega
theorem Room.units {k : Nat} {A : Around} (r : Room k A) : A.units + 64 < cLine := by have := r.un; omega
def tNil : TA := fun _ H Q => Q [] H
def tCons (ta : TE) (tr : TA) : TA := fun σ H Q => ta σ H fun x H1 => tr σ H1 fun xs H2 => Q (x :: xs) H2
section
variable {X : Cx} {e : Expr} {es : List Expr} {te : TE} {t : TA} {pos : Pos}
theorem pa_nil : PA X [] tNil := fun _ _ _ _ H Q I h => Calls.spliced_nil ⟨[], H, I, .nil, h⟩
theorem pa_cons (ha : PE X e te) (hr : PA X es t) (hs : starEach (e :: es) X.env = (false, eval e X.env) :: starEach es X.env := by rfl) : PA X (e :: es) (tCons te t) := by
  intro pos pins s σ H Q I h
  rw [hs]
  show wpAny _ _ (spliced ((false, eval e X.env) :: backTo pos (starEach es X.env))) _ _ s
  refine Calls.spliced_cons (thn (ha pins s σ H _ I h) fun u s1 ⟨x, H1, I1, r1, q1⟩ => ?_)
  exact thn (hr pos pins s1 σ H1 _ I1 q1) fun us s2 ⟨xs, H2, I2, r2, q2⟩ => ⟨x :: xs, H2, I2, .cons r1 r2, q2⟩
def tTup (t : TA) : TE := fun σ H Q => t σ H fun xs H1 => xs.length ≤ sizeLine ∧ ∀ p, H1 p = none → Q (.ref p) (upd H1 p (.tup xs))
def tLst (t : TA) : TE := fun σ H Q => t σ H fun xs H1 => xs.length ≤ sizeLine ∧ ∀ p, H1 p = none → Q (.ref p) (upd H1 p (.lst xs))
theorem pe_tup {x1} (h : PA X es t) : PE X (.Tuple es x1 pos) (tTup t) := by
  intro pins s σ H Q I hq
  refine wpAny_Tuple_spliced (thn (h pos pins s σ H _ I hq) fun us s1 ⟨xs, H1, I1, r, z, q⟩ => ⟨by rw [← r.length]; exact z, ?_⟩)
  have hf : H1 s1.heap.objs.size = none := I1.hok.fresh (Nat.le_refl _)
  refine ⟨.ref s1.heap.objs.size, upd H1 s1.heap.objs.size (.tup xs), I1.laid (t' := s1.toks) (fun b u e => Heap.get?_push_of_some _ e) (Nat.le_refl _) ?_, rfl, q _ hf⟩
  exact ⟨z, us, r, ⟨_, Heap.get?_push_size _ rfl, rfl, _, rfl⟩⟩
theorem pe_lst (h : PA X es t) : PE X (.List es pos) (tLst t) := by
  intro pins s σ H Q I hq
  refine wpAny_List_spliced (thn (h pos pins s σ H _ I hq) fun us s1 ⟨xs, H1, I1, r, z, q⟩ => ⟨by rw [← r.length]; exact z, ?_⟩)
  have hf : H1 s1.heap.objs.size = none := I1.hok.fresh (Nat.le_refl _)
  refine ⟨.ref s1.heap.objs.size, upd H1 s1.heap.objs.size (.lst xs), I1.laid (t' := s1.toks) (fun b u e => Heap.get?_push_of_some _ e) (Nat.le_refl _) ?_, rfl, q _ hf⟩
  exact ⟨z, us, 0, r, Heap.get?_push_size _ rfl⟩
end
abbrev Sp := List V → Hp → VK → XK → Prop
abbrev CXT := List Env → Hp → Shared → XK → Value → Shared → Prop
structure Env0 (P : Program) (w : World) (K : PySem.W.Frag) (mg : Str → Option Value) (base : Heap) (A : Around) (outer : List Env) (s : Shared) (H : Hp) : Prop where
  frames : A.frames = some outer
  mod : Mod K mg base
  bs : ∀ b o, base.get? b = some o → s.heap.get? b = some o ∧ H b = none
  bsz : base.objs.size ≤ s.heap.objs.size
  funs : s.heap.FunFrames base outer
  frf : ∀ b ∈ frs outer, H b = none
  hok : HOk P w H s.heap
  bare : AllBare s.gens
def CE (outer : List Env) (P : Program) (w : World) (H : Hp) (s : Shared) (Q : VK) (u : Value) (s' : Shared) : Prop :=
  ∃ v H', s'.os = s.os ∧ AllBare s'.gens ∧ Un (frs outer) [] H H' s.heap s'.heap ∧ HOk P w H' s'.heap ∧ RelV v u ∧ Q v H'
def CR (CX : CXT) (outer : List Env) (P : Program) (w : World) (H : Hp) (s : Shared) (Q : VK) (E : XK) (r : Result) (s' : Shared) : Prop :=
  match r with
  | .ok (.ret u) => CE outer P w H s Q u s'
  | .ok _ => False
  | .error e => CX outer H s E e s'
structure FnOk (P : Program) (w : World) (K : PySem.W.Frag) (mg : Str → Option Value) (base : Heap) (CX : CXT) (k : Nat) (f : Addr) (fd : FuncData) (ps : List Str) (sp : Sp) : Prop where
  len : ∀ vs H Q E, sp vs H Q E → vs.length = ps.length
  run : ∀ (A : Around) (outer : List Env) (s : Shared) (H : Hp) (args : Args) (us : List Value) (vs : List V) (Q : VK) (E : XK), Room k A → Env0 P w K mg base A outer s H → BindsTo s fd args (ps.zip us) → Vals vs us → sp vs H Q E →
    codeAny (model P w) A (.call (.ref f) args) (CR CX outer P w H s Q E) s
theorem FnOk.mono {P : Program} {w : World} {K : PySem.W.Frag} {mg : Str → Option Value} {base : Heap} {CX : CXT} {j k : Nat} {f : Addr} {fd : FuncData} {ps : List Str} {sp : Sp} (F : FnOk P w K mg base CX j f fd ps sp) (h : j ≤ k) :
    FnOk P w K mg base CX k f fd ps sp := ⟨F.len, fun A outer s H args us vs Q E hr => F.run A outer s H args us vs Q E (hr.mono h)⟩
theorem FnOk.imp {P : Program} {w : World} {K : PySem.W.Frag} {mg : Str → Option Value} {base : Heap} {CX : CXT} {k : Nat} {f : Addr} {fd : FuncData} {ps : List Str} {sp sp' : Sp} (F : FnOk P w K mg base CX k f fd ps sp)
    (h : ∀ vs H Q E, sp' vs H Q E → sp vs H Q E) : FnOk P w K mg base CX k f fd ps sp' :=
  ⟨fun vs H Q E q => F.len vs H Q E (h _ _ _ _ q), fun A outer s H args us vs Q E hr he hb hv hs => F.run A outer s H args us vs Q E hr he hb hv (h _ _ _ _ hs)⟩
theorem Env0.in1 {P : Program} {w : World} {K : PySem.W.Frag} {mg : Str → Option Value} {base : Heap} {A : Around} {outer : List Env} {s : Shared} {H : Hp} (e : Env0 P w K mg base A outer s H) :
    Env0 P w K mg base A.in1 outer s H := ⟨e.frames, e.mod, e.bs, e.bsz, e.funs, e.frf, e.hok, e.bare⟩
section
variable {X : Cx} {pins : List (Addr × Obj)} {σ : St} {H : Hp} {s s' : Shared}
theorem Inv.env0 (I : Inv X pins σ H s) : Env0 X.prog X.w X.K X.mg X.base X.A X.stack s H :=
  ⟨I.ok.frames, I.ok.mod, I.bs, Nat.le_trans I.ok.bsz I.sz, I.stack, I.stkFree, I.hok, I.bare⟩
theorem Inv.after {Q : VK} {u : Value} (I : Inv X pins σ H s) (h : CE X.stack X.prog X.w H s Q u s') : EP X pins σ Q u s' := by
  obtain ⟨v, H', os, bare, un, hok, r, q⟩ := h
  obtain ⟨hh, g, d, t, os'⟩ := s'
  obtain rfl : os' = s.os := os
  exact ⟨v, H', I.call (h' := hh) (g' := g) (d' := d) (t' := t) (ch := []) un hok bare (fun b z => absurd z (by simp)), r, q⟩
end
def tCall (sp : Sp) (dvs : List V) (E : XK) (t : TA) : TE := fun σ H Q => t σ H fun vs H1 => sp (vs ++ dvs) H1 Q E
def Binds (K : PySem.W.Frag) (fd : FuncData) (ps : List Str) (ds : List Value) : Prop :=
  ∀ (s : Shared) (us : List Value), K.In s.heap → (us ++ ds).length = ps.length → BindsTo s fd ⟨us, []⟩ (ps.zip (us ++ ds))
theorem Binds.all {K : PySem.W.Frag} {fd : FuncData} {ps : List Str} (h : ∀ us : List Value, us.length = ps.length → bindArgs fd ⟨us, []⟩ = pure (ps.zip us)) : Binds K fd ps [] := fun s us _ hl => by
  rw [List.append_nil] at hl ⊢
  exact .of_eq (h us hl)
def Passes (CX : CXT) (X : Cx) (E : XK) : Prop := ∀ (pins : List (Addr × Obj)) (σ : St) (H : Hp) (s : Shared) (e : Value) (s' : Shared), Inv X pins σ H s → CX X.stack H s E e s' → X.xe e s'
section
variable {X : Cx} {CX : CXT} {k : Nat} {f C : Addr} {fd : FuncData} {ps : List Str} {sp : Sp} {dvs : List V} {ds : List Value} {E : XK} {x m : Str} {p pos apos : Pos} {e o : Expr} {es : List Expr} {ta : TE} {t : TA}
theorem run_fn {pins : List (Addr × Obj)} {σ : St} {H : Hp} {s : Shared} {Q : VK} {us : List Value} {vs : List V} (F : FnOk X.prog X.w X.K X.mg X.base CX k f fd ps sp) (hr : Room k X.A) (hb : Binds X.K fd ps ds) (hd : Vals dvs ds) (hx : Passes CX X E)
    (I : Inv X pins σ H s) (r : Vals vs us) (h : sp (vs ++ dvs) H Q E) : wpAny (model X.prog X.w) X.A (call (.ref f) us) (EP X pins σ Q) X.xe s := by
  have r2 : Vals (vs ++ dvs) (us ++ ds) := r.append hd
  have hl : (us ++ ds).length = ps.length := by rw [← r2.length]; exact F.len _ _ _ _ h
  refine wpAny_call (codeAny_mono (F.run X.A X.stack s H ⟨us, []⟩ (us ++ ds) (vs ++ dvs) Q E hr I.env0 (hb s us I.kIn hl) r2 h) fun r s' hq => ?_)
  cases r with
  | error e => exact hx pins σ H s e s' I hq
  | ok fl =>
    cases fl with
    | ret u => exact I.after hq
    | next => exact False.elim hq
    | brk => exact False.elim hq
    | cont => exact False.elim hq
theorem pe_call (F : FnOk X.prog X.w X.K X.mg X.base CX k f fd ps sp) (hr : Room k X.A) (hg : Gl X x) (hm : X.mg x = some (.ref f)) (hk : PySem.W.keepIn X.K (.ref f) = true) (hb : Binds X.K fd ps ds) (hd : Vals dvs ds) (hx : Passes CX X E)
    (ha : PA X (e :: es) t) (hdb : (x == ("__debug__" : Str)) = false := by decide) (he : starEach (e :: es) X.env = (false, eval e X.env) :: starEach es X.env := by rfl) (hpl : (backTo pos (starEach es X.env)).any (·.1) = false := by rfl) :
    PE X (.Call (.Name x p) (e :: es) [] pos) (tCall sp dvs E t) := by
  intro pins s σ H Q I h
  refine wpAny_Call_Name_kw (ld_glob I hg hm ?_ hdb)
  refine PySem.W.callWith_K (h₀ := X.base) I.ok.mod.kin hk (thn (ha pos pins s σ H _ I h) fun us s1 ⟨vs, H1, I1, r, q⟩ => ⟨I1.kIn, ?_⟩) he hpl
  exact run_fn F hr hb hd hx I1 r q
end
def PK (X : Cx) (kws : List Keyword) (t : TA) : Prop :=
  ∀ (pos : Pos) (pins : List (Addr × Obj)) (s : Shared) (σ : St) (H : Hp) (Q : List V → Hp → Prop), Inv X pins σ H s → t σ H Q → wpAny (model X.prog X.w) X.A (evalAll ((backToKw pos (keywordEach kws X.env)).map (·.2))) (AP X pins σ Q) X.xe s
section
variable {X : Cx} {CX : CXT} {k : Nat} {f C : Addr} {fd : FuncData} {ps ks : List Str} {sp : Sp} {E : XK} {x m : Str} {p pos apos kpos : Pos} {e o : Expr} {es : List Expr} {kws : List Keyword} {te ta : TE} {t tk : TA} {nm : Option Str}
theorem pk_nil : PK X [] tNil := fun _ _ _ _ H Q I h => wpAny_evalAll_nil ⟨[], H, I, .nil, h⟩
theorem pk_cons (ha : PE X e te) (hr : PK X kws t) : PK X (⟨nm, e, kpos⟩ :: kws) (tCons te t) := by
  intro pos pins s σ H Q I h
  show wpAny _ _ (evalAll ((do let v ← eval e X.env; standAt pos; pure v) :: (backToKw pos (keywordEach kws X.env)).map (·.2))) _ _ s
  refine wpAny_evalAll_cons (wpAny_bind (thn (ha pins s σ H _ I h) fun u s1 ⟨x, H1, I1, r1, q1⟩ => wpAny_bind (wpAny_standAt (wpAny_pure ?_))))
  exact thn (hr pos pins s1 σ H1 _ I1 q1) fun us s2 ⟨xs, H2, I2, r2, q2⟩ => ⟨x :: xs, H2, I2, .cons r1 r2, q2⟩
variable {g : List Value → List Value → List Value} {gV : List V → List V → List V}
end
structure FnScope (N P : List Str) (sc : Scope) : Prop where
  kind : sc.kind = .function
  co : sc.isCoroutine = false
  gen : sc.isGenerator = false
  nd : N.Nodup
  pre : N.take P.length = P
  par : ∀ x ∈ P, sc.names.lookup x = some .local ∨ sc.names.lookup x = some .cell
  nofree : ∀ y ∈ sc.names, y.2 ≠ .free
theorem bindL_out {kindOf : Str → Option NameKind} {x : Str} : ∀ {binds : List (Str × Value)} {m : Str → Option Value}, (∀ v, (x, v) ∉ binds) → bindL kindOf binds m x = m x
  | [], _, _ => rfl
  | (n, v) :: r, m, h => by
    unfold bindL
    rw [bindL_out fun w hw => h w (List.mem_cons_of_mem _ hw)]
    split
    · have : x ≠ n := by rintro rfl; exact h v List.mem_cons_self
      simp [this]
    · rfl
theorem bindC_out {kindOf : Str → Option NameKind} {x : Str} : ∀ {binds : List (Str × Value)} {m : Str → Option Value}, (∀ v, (x, v) ∉ binds) → bindC kindOf binds m x = m x
  | [], _, _ => rfl
  | (n, v) :: r, m, h => by
    unfold bindC
    rw [bindC_out fun w hw => h w (List.mem_cons_of_mem _ hw)]
    split
    · rfl
    · have : x ≠ n := by rintro rfl; exact h v List.mem_cons_self
      simp [this]
theorem bindL_get {kindOf : Str → Option NameKind} {x : Str} {v : Value} : ∀ {P : List Str} {vs : List Value} {i : Nat} {m : Str → Option Value}, P.Nodup → P[i]? = some x → vs[i]? = some v → kindOf x = some .local →
    bindL kindOf (P.zip vs) m x = some v
  | [], _, _, _, _, h, _, _ => by simp at h
  | _ :: _, [], _, _, _, _, h, _ => by simp at h
  | p :: P, w :: vs, 0, m, nd, h1, h2, hk => by
    simp at h1 h2; subst h1; subst h2
    show bindL kindOf ((p, w) :: P.zip vs) m p = _
    unfold bindL
    rw [bindL_out fun v hv => (List.nodup_cons.mp nd).1 (List.of_mem_zip hv).1, if_pos hk]
    simp
  | p :: P, w :: vs, i + 1, m, nd, h1, h2, hk => by
    show bindL kindOf ((p, w) :: P.zip vs) m x = _
    unfold bindL
    exact bindL_get (i := i) (List.nodup_cons.mp nd).2 (by simpa using h1) (by simpa using h2) hk
theorem bindC_get {kindOf : Str → Option NameKind} {x : Str} {v : Value} : ∀ {P : List Str} {vs : List Value} {i : Nat} {m : Str → Option Value}, P.Nodup → P[i]? = some x → vs[i]? = some v → kindOf x ≠ some .local →
    bindC kindOf (P.zip vs) m x = some v
  | [], _, _, _, _, h, _, _ => by simp at h
  | _ :: _, [], _, _, _, _, h, _ => by simp at h
  | p :: P, w :: vs, 0, m, nd, h1, h2, hk => by
    simp at h1 h2; subst h1; subst h2
    show bindC kindOf ((p, w) :: P.zip vs) m p = _
    unfold bindC
    rw [bindC_out fun v hv => (List.nodup_cons.mp nd).1 (List.of_mem_zip hv).1, if_neg hk]
    simp
  | p :: P, w :: vs, i + 1, m, nd, h1, h2, hk => by
    show bindC kindOf ((p, w) :: P.zip vs) m x = _
    unfold bindC
    exact bindC_get (i := i) (List.nodup_cons.mp nd).2 (by simpa using h1) (by simpa using h2) hk
def start (N : List Str) (vs : List V) : St := vs.map some ++ List.replicate (N.length - vs.length) none
def cxOf (CX : CXT) (P : Program) (w : World) (K : PySem.W.Frag) (mg : Str → Option Value) (base : Heap) (N : List Str) (qual : Str) (scope : Scope) (f : Addr) (cd : Value) (A : Around) (outer : List Env) (s : Shared) (H : Hp) (E : XK) : Cx where
  prog := P
  w := w
  K := K
  mg := mg
  base := base
  A := A.deeper (envOfC qual scope s.heap.objs.size f cd)
  N := N
  s₀ := s
  H₀ := H
  env := envOfC qual scope s.heap.objs.size f cd
  outer := outer
  stack := envOfC qual scope s.heap.objs.size f cd :: outer
  ex := []
  calm := true
  fn := fun _ => true
  pn := []
  xe := fun e s' => wpAny (model P w) (A.deeper (envOfC qual scope s.heap.objs.size f cd)) (leaving (envOfC qual scope s.heap.objs.size f cd) e) (fun _ s'' => CX outer H s E e s'') (fun e' s'' => CX outer H s E e' s'') s'
theorem cell_has {sc : Scope} {n : Nat} {x : Str} (h : sc.names.lookup x = some .cell) : ∃ c, (cellsFrom n sc.names []).lookup x = some c := by
  have q := PySem.W.cellsFrom_some sc.names n [] (.inl h)
  exact Option.isSome_iff_exists.mp q
theorem inv_start {CX : CXT} {P : Program} {w : World} {K : PySem.W.Frag} {mg : Str → Option Value} {base : Heap} {N ps : List Str} {qual : Str} {scope : Scope} {f : Addr} {cd : Value} {A : Around} {outer : List Env} {s s1 : Shared} {H : Hp} {E : XK} {us : List Value} {vs : List V}
    (S : FnScope N ps scope) (hd : A.handled = none) (e0 : Env0 P w K mg base A outer s H) (hl : vs.length = ps.length) (r : Vals vs us)
    (x : InCallC s s.heap.objs.size (bindL (envOfC qual scope s.heap.objs.size f cd).kindOf (ps.zip us) fun _ => none) (cellsFrom (s.heap.objs.size + 1) scope.names []) (bindC (envOfC qual scope s.heap.objs.size f cd).kindOf (ps.zip us) fun _ => none) s1) :
    Inv (cxOf CX P w K mg base N qual scope f cd A outer s H E) [] (start N vs) H s1 := by
  have hpl : ps.length ≤ N.length := by have := congrArg List.length S.pre; rw [List.length_take] at this; omega
  obtain ⟨h1, tk, rfl, hk⟩ := x.done
  have noA : ∀ b : Addr, b ∉ (cxOf CX P w K mg base N qual scope f cd A outer s H E).ex := fun b z => absurd (show b ∈ ([] : List Addr) from z) (by simp)
  refine ⟨⟨e0.mod, S.kind, rfl, rfl, Nat.le_refl _, fun y z c h1 h2 => ?_, fun y hy => ?_, fun y c _ h => ?_, fun _ => hd, Around.frames_deeper e0.frames, .inr ⟨rfl, rfl⟩, fun b z => absurd z (noA b), e0.bs, e0.bsz, fun b _ _ => noA b, fun b z => absurd z (noA b), e0.funs, e0.frf⟩,
    rfl, e0.bare, Un.kept hk, ⟨_, x.toInCall.ns, fun i y v h1 h2 h3 => ?_⟩, fun y c h => ⟨_, x.cell y c h⟩, e0.hok.fresh (Nat.le_refl _), fun y c h => ?_, fun p hp => absurd (show p ∈ ([] : List (Addr × Obj)) from hp) (by simp), e0.hok.kept hk, ?_⟩
  · exact name_of_addr x.apart (PySem.mem_of_lookup h1) (PySem.mem_of_lookup h2)
  · have hy : scope.names.lookup y = some .cell ∨ scope.names.lookup y = some .free := hy
    rcases hy with hy | hy
    · exact cell_has hy
    · exact absurd rfl (S.nofree _ (PySem.mem_of_lookup hy))
  · exact Nat.le_of_lt (x.above y c (PySem.mem_of_lookup h))
  · have hi : i < vs.length := by
      unfold start at h2
      by_cases hi : i < vs.length
      · exact hi
      · rw [List.getElem?_append_right (by simpa using hi)] at h2
        rw [List.getElem?_replicate] at h2
        split at h2 <;> cases h2
    have ha : vs[i]? = some v := by
      unfold start at h2
      rw [List.getElem?_append_left (by simpa using hi), List.getElem?_map] at h2
      cases e : vs[i]? with
      | none => rw [e] at h2; cases h2
      | some a => rw [e] at h2; cases h2; rfl
    obtain ⟨u, hu, rv⟩ := r.get ha
    have hp : ps[i]? = some y := by
      rw [← S.pre, List.getElem?_take_of_lt (by omega)]; exact h1
    have ndP : ps.Nodup := by rw [← S.pre]; exact S.nd.sublist (List.take_sublist _ _)
    refine ⟨u, rv, ?_⟩
    rcases S.par y (List.mem_of_getElem? hp) with k | k
    · exact .inl ⟨k, bindL_get ndP hp hu k⟩
    · obtain ⟨c, e⟩ := cell_has (n := s.heap.objs.size + 1) k
      refine .inr ⟨.inl k, c, e, ?_⟩
      have q := x.cell y c e
      rw [bindC_get ndP hp hu (by show scope.names.lookup y ≠ _; rw [k]; decide)] at q
      exact q
  · exact e0.hok.fresh (Nat.le_of_lt (x.above y c (PySem.mem_of_lookup h)))
  · unfold start
    show _ = N.length
    rw [List.length_append, List.length_map, List.length_replicate]
    omega
theorem fn_of {CX : CXT} {P : Program} {w : World} {K : PySem.W.Frag} {mg : Str → Option Value} {base : Heap} {k : Nat} {f : Addr} {name qual : Str} {params : Arguments} {body : List Stmt} {scope : Scope} {dV kV doc pm cdv ct oc : Value} {an od : Option Addr}
    {osl : Array (Option Value)} {N ps : List Str} {sp : Sp} (lk : K.lookup f = some ⟨oc, od, .func (PySem.W.fnOf name qual params body scope dV kV doc pm an cdv ct), osl⟩) (hcd : PySem.W.codeIn K cdv qual = true) (S : FnScope N ps scope)
    (len : ∀ vs H Q E, sp vs H Q E → vs.length = ps.length)
    (hbody : ∀ (A : Around) (outer : List Env) (s : Shared) (H : Hp) (vs : List V) (Q : VK) (E : XK), Room k (A.deeper (envOfC qual scope s.heap.objs.size f cdv)) → sp vs H Q E →
      ∃ t, PSs (cxOf CX P w K mg base N qual scope f cdv A outer s H E) body t ∧ t { nx := fun _ H' => Q .non H', rt := Q } (start N vs) H) :
    FnOk P w K mg base CX (k + 1) f (PySem.W.fnOf name qual params body scope dV kV doc pm an cdv ct) ps sp := by
  refine ⟨len, fun A outer s H args us vs Q E hr e0 hb r hsp => ?_⟩
  have hl := len _ _ _ _ hsp
  have KX : K.In s.heap := e0.mod.kin.keeps fun b o e => (e0.bs b o e).1
  have lim : s.heap.NoLimit := e0.mod.nolimit.keeps fun b o e => (e0.bs b o e).1
  have hkind : ∀ y ∈ ps.zip us, scope.names.lookup y.1 = some .local ∨ (scope.names.lookup y.1 = some .cell ∧ ((cellsFrom (s.heap.objs.size + 1) scope.names []).lookup y.1).isSome = true) := fun ⟨n, v⟩ hy => by
    rcases S.par n (List.of_mem_zip hy).1 with q | q
    · exact .inl q
    · exact .inr ⟨q, PySem.W.cellsFrom_some _ _ _ (.inl q)⟩
  refine codeAny_call_function hr.depth (KX _ _ lk) rfl S.co S.gen rfl (PySem.W.codeRec_of KX hcd) (hb _ _ _ _ ?_)
  refine wpAny_newFunctionEnv_cells S.kind hkind fun env he s1 x => ?_
  subst he
  refine ⟨lim.keeps x.toInCall.keep, codeAny_func ?_⟩
  obtain ⟨t, ht, hq⟩ := hbody A outer s H vs Q E (hr.deeper _) hsp
  have I : Inv (cxOf CX P w K mg base N qual scope f cdv A outer s H E) [] (start N vs) H s1 := inv_start S hr.hd e0 hl r x
  refine wpAny_mono (ht [] s1 (start N vs) H _ I hq) (fun fl s' hs => ?_) fun e s' hs => hs
  have fin : ∀ {σ' : St} {H' : Hp} {v : V} {u : Value}, Inv (cxOf CX P w K mg base N qual scope f cdv A outer s H E) [] σ' H' s' → RelV v u → Q v H' → CE outer P w H s Q u s' :=
    fun {σ' H' v u} J rv q => ⟨v, H', J.os, J.bare, J.base, J.hok, rv, q⟩
  cases fl with
  | ret u =>
    obtain ⟨v, σ', H', J, rv, q⟩ := hs
    exact fin J rv q
  | next =>
    obtain ⟨σ', H', J, q⟩ := hs
    exact fin (v := V.non) (u := Value.none) J rfl q
  | brk =>
    obtain ⟨_, _, _, q⟩ := hs
    exact False.elim q
  | cont =>
    obtain ⟨_, _, _, q⟩ := hs
    exact False.elim q
end L2
namespace L2
open PySem PySem.Spec PyProof.Rows
section
variable {X : Cx} {x : Str} {p pos : Pos} {e : Expr} {es : List Expr} {t : TA} {id T : String} {r : List V → Hp → VK → Prop}
def tCB (r : List V → Hp → VK → Prop) (t : TA) : TE := fun σ H Q => t σ H fun vs H1 => r vs H1 Q
theorem pe_callB (hc : CallR X (.builtin id) r) (hg : Gl X x) (hm : X.mg x = none) (hv : bootBuiltins x = some (.builtin id)) (ha : PA X (e :: es) t) (hn : x ≠ "__name__" := by decide) (hdb : (x == ("__debug__" : Str)) = false := by decide)
    (he : starEach (e :: es) X.env = (false, eval e X.env) :: starEach es X.env := by rfl) (hpl : (backTo pos (starEach es X.env)).any (·.1) = false := by rfl) : PE X (.Call (.Name x p) (e :: es) [] pos) (tCB r t) := by
  intro pins s σ H Q I h
  refine wpAny_Call_Name_kw (ld_blt I hg hm hv ?_ hn hdb)
  exact PyProof.Rows.callWith_builtin1 (thn (ha pos pins s σ H _ I h) fun us s1 ⟨vs, H1, I1, r1, q1⟩ => hc pins s1 σ H1 vs us Q I1 r1 q1) he hpl
theorem pe_callTy (hc : CallR X (.type T) r) (hg : Gl X x) (hm : X.mg x = none) (hv : bootBuiltins x = some (.type T)) (ha : PA X (e :: es) t) (hn : x ≠ "__name__" := by decide) (hdb : (x == ("__debug__" : Str)) = false := by decide)
    (he : starEach (e :: es) X.env = (false, eval e X.env) :: starEach es X.env := by rfl) (hpl : (backTo pos (starEach es X.env)).any (·.1) = false := by rfl) : PE X (.Call (.Name x p) (e :: es) [] pos) (tCB r t) := by
  intro pins s σ H Q I h
  refine wpAny_Call_Name_kw (ld_blt I hg hm hv ?_ hn hdb)
  exact PyProof.Rows.callWith_type1 (thn (ha pos pins s σ H _ I h) fun us s1 ⟨vs, H1, I1, r1, q1⟩ => hc pins s1 σ H1 vs us Q I1 r1 q1) he hpl
end
end L2
namespace HT
open PySem PyProof.Rows
theorem rcLt_int (A : Around) (s : Shared) (a : Int) (t : Tok) (c : Int) (u : Tok) (prog : Program) (w : World) (E : Value → Shared → Prop) (Q : Value → Shared → Prop) (h : Q (.bool (decide (a < c))) s) :
    wpAny (model prog w) A (richCompare .Lt (.int a t) (.int c u)) Q E s :=
  (PyProof.Rows.lt_int h : wpAny (model prog w) A (compareOp .Lt (.int a t) (.int c u)) Q E s)
section
open PySem.SeqAt
open PySem.AutoSeq1 (wpAny_loadPart')
open PySem.MeetsSeq PySem.MeetsSeq2 PySem.MeetsSeq3
end
section
variable {prog : Program} {w : World} {A : Around} {E : Value → Shared → Prop} {s : Shared}
def sIx (n d : Nat) : Option Int → Nat
  | none => d
  | some v => if v < 0 then (v + (n : Int)).toNat else min v.toNat n
theorem sIx_le (n d : Nat) (hd : d ≤ n) (o : Option Int) : sIx n d o ≤ n := by
  cases o with
  | none => exact hd
  | some v =>
    show (if v < 0 then (v + (n : Int)).toNat else min v.toNat n) ≤ n
    by_cases hv : v < 0
    · rw [if_pos hv]; omega
    · rw [if_neg hv]; exact Nat.min_le_right _ _
theorem clip_eq (v : Int) (n d : Nat) : (if v < 0 then max (v + (n : Int)) 0 else min v (n : Int)) = ((sIx n d (some v) : Nat) : Int) := by
  show (if v < 0 then max (v + (n : Int)) 0 else min v (n : Int)) = (((if v < 0 then (v + (n : Int)).toNat else min v.toNat n) : Nat) : Int)
  by_cases hv : v < 0
  · simp only [if_pos hv]; omega
  · simp only [if_neg hv]; omega
theorem adjust_gen (lo hi : Option Int) (n : Nat) : Builtin.Slice.sliceAdjust lo hi 1 (n : Int) = (((sIx n 0 lo : Nat) : Int), ((sIx n n hi : Nat) : Int)) := by
  have h1 : ¬ ((1 : Int) < 0) := by omega
  unfold Builtin.Slice.sliceAdjust
  simp only [h1, if_false]
  refine Prod.ext ?_ ?_
  · cases lo with
    | none => rfl
    | some v => exact clip_eq v n 0
  · cases hi with
    | none => rfl
    | some v => exact clip_eq v n n
theorem places_gen (i j : Nat) : Builtin.Slice.slicePlaces (i : Int) (j : Int) 1 = j - i := by
  unfold Builtin.Slice.slicePlaces
  have h1 : (1 : Int) > 0 := by omega
  simp only [h1, if_true, Int.ediv_one]
  split <;> omega
theorem slicePart_ {v : Value} {o : Option Int} {Q : Option Int → Shared → Prop} (p : IsPart v o) (h : Q o s) : wpAny (model prog w) A (Builtin.Slice.slicePartIndex v) Q E s := by
  cases p with
  | none => exact slicePart_none h
  | int i t => exact slicePart_int h
theorem sliceApplied_gen {sl : Addr} {vl vu : Value} {lo hi : Option Int} {n : Nat} {Q : Int × Int × Nat → Shared → Prop} (hs : s.heap.IsSliceOf sl vl vu .none) (pl : IsPart vl lo) (pu : IsPart vu hi)
    (h : Q (((sIx n 0 lo : Nat) : Int), 1, sIx n n hi - sIx n 0 lo) s) : wpAny (model prog w) A (Builtin.Slice.sliceApplied (.ref sl) (pure (n : Int))) Q E s := by
  obtain ⟨os, hos, hcs, hds⟩ := id hs
  unfold Builtin.Slice.sliceApplied Builtin.Slice.sliceFields
  refine wpAny_bind (wpAny_bind (wpAny_field hos hds (x := vl) rfl (wpAny_bind (wpAny_field hos hds (x := vu) rfl (wpAny_bind (wpAny_field hos hds (x := .none) rfl (wpAny_pure ?_)))))))
  refine wpAny_bind (slicePart_none ?_)
  show wpAny _ _ (if ((1 : Int) == 0) = true then _ else _) _ _ s
  rw [if_neg (by decide)]
  refine wpAny_bind (slicePart_ pl (wpAny_bind (slicePart_ pu (wpAny_bind (wpAny_pure ?_)))))
  show wpAny _ _ (match Builtin.Slice.sliceAdjust lo hi 1 (n : Int) with | (lo, hi) => pure (lo, (1 : Int), Builtin.Slice.slicePlaces lo hi 1)) _ _ s
  rw [adjust_gen lo hi n]
  show wpAny _ _ (pure (((sIx n 0 lo : Nat) : Int), (1 : Int), Builtin.Slice.slicePlaces ((sIx n 0 lo : Nat) : Int) ((sIx n n hi : Nat) : Int) 1)) _ _ s
  rw [places_gen]
  exact wpAny_pure h
theorem pick_gen (xs : Array Value) (i k : Nat) : ((List.range k).filterMap fun (m : Nat) => xs[((i : Int) + (m : Int) * 1).toNat]?).toArray = ((xs.toList.drop i).take k).toArray := by
  have e : (fun (m : Nat) => xs[((i : Int) + (m : Int) * 1).toNat]?) = fun m => xs[i + m]? := by
    funext m
    have : ((i : Int) + (m : Int) * 1).toNat = i + m := by omega
    rw [this]
  rw [e]
  have := pick_run xs i k
  rw [List.filterMap_map] at this
  have e2 : ((fun x => xs[x]?) ∘ fun x => i + x) = fun m => xs[i + m]? := rfl
  rw [e2] at this
  rw [this]
theorem getItem_tuple_cut {t sl : Addr} {items : Array Value} {vl vu : Value} {lo hi : Option Int} {Q : Value → Shared → Prop} (ht : IsTup s.heap t items) (hs : s.heap.IsSliceOf sl vl vu .none) (pl : IsPart vl lo) (pu : IsPart vu hi)
    (hw : ¬ (sIx items.size 0 lo = 0 ∧ sIx items.size items.size hi = items.size))
    (h : Q (.ref s.heap.objs.size) { s with heap := s.heap.push { cls := .type "tuple", data := .seq ((items.toList.drop (sIx items.size 0 lo)).take (sIx items.size items.size hi - sIx items.size 0 lo)).toArray } })
    (hsz : items.size ≤ sizeLine) : wpAny (model prog w) A (getItem (.ref t) (.ref sl)) Q E s := by
  have htake : sizeOk (.seq ((items.toList.drop (sIx items.size 0 lo)).take (sIx items.size items.size hi - sIx items.size 0 lo)).toArray) := by
    show ((items.toList.drop (sIx items.size 0 lo)).take (sIx items.size items.size hi - sIx items.size 0 lo)).toArray.size ≤ sizeLine
    rw [List.size_toArray, List.length_take, List.length_drop, Array.length_toList]
    omega
  have hj : sIx items.size items.size hi ≤ items.size := sIx_le _ _ (Nat.le_refl _) hi
  obtain ⟨os, hos, hcs, hds⟩ := id hs
  have hTs : s.TypeIs (.ref sl) "slice" := ⟨os, hos, hcs⟩
  unfold getItem
  try with_reducible refine wpAny_holding ?_
  first | refine wpAny_bind (wpAny_pure ?_) | skip
  refine wpAny_bind (wpAny_sequenceKey ht.typeIs (by decide) ?_)
  refine wpAny_bind (wpAny_callSpecial?_slot (name := Str.ofString "__getitem__") ht.typeIs PyProof.Rows.slot_tuple_getitem
    (wpAny_call_entry PyProof.Rows.slot_tuple_getitem ht.typeIs entry_tuple_getitem ?_ (args_tuple_getitem _ _)))
  show wpAny _ _ (Builtin.Tuple.tupleItemsOf (.ref t) >>= _) _ _ s
  refine wpAny_bind (tupleItemsOf_ ht ?_)
  refine wpAny_bind (wpAny_typeOf hTs ?_)
  rw [if_pos (by decide)]
  refine wpAny_bind (sliceApplied_gen hs pl pu ?_)
  have hno : ¬ ((((sIx items.size 0 lo : Nat) : Int) == 0 && (1 : Int) == 1 && (sIx items.size items.size hi - sIx items.size 0 lo) == items.size) = true) := by
    intro q
    rw [Bool.and_eq_true, Bool.and_eq_true] at q
    have q1 : ((sIx items.size 0 lo : Nat) : Int) = 0 := eq_of_beq q.1.1
    have q2 : sIx items.size items.size hi - sIx items.size 0 lo = items.size := eq_of_beq q.2
    exact hw ⟨by omega, by omega⟩
  show wpAny _ _ (if (((sIx items.size 0 lo : Nat) : Int) == 0 && (1 : Int) == 1 && (sIx items.size items.size hi - sIx items.size 0 lo) == items.size) = true then _ else _) _ _ s
  rw [if_neg hno, pick_gen]
  first
    | exact wpAny_bind (m := Builtin.Tuple.tupleExact _) (wpAny_newObj_type (wpAny_pure ⟨_, rfl, wpAny_pure h⟩) htake)
    | exact wpAny_bind (m := Builtin.Tuple.tupleExact _) (wpAny_newObj_type (wpAny_bind (wpAny_pure (wpAny_pure ⟨_, rfl, wpAny_pure h⟩))) htake)
    | exact wpAny_bind (wpAny_bind (m := Builtin.Tuple.tupleExact _) (wpAny_newObj_type (wpAny_pure (wpAny_pure ⟨_, rfl, wpAny_pure h⟩)) htake))
    | exact wpAny_bind (wpAny_bind (m := Builtin.Tuple.tupleExact _) (wpAny_newObj_type (wpAny_pure ⟨_, rfl, wpAny_pure h⟩) htake))
end
end HT
namespace L2
open PySem PySem.Spec PyProof.Rows
abbrev TO := St → Hp → (Option Int → Hp → Prop) → Prop
def PO (X : Cx) (e : Option Expr) (t : TO) : Prop :=
  ∀ (pins : List (Addr × Obj)) (s : Shared) (σ : St) (H : Hp) (Q : Option Int → Hp → Prop), Inv X pins σ H s → t σ H Q →
    wpAny (model X.prog X.w) X.A (evalPart e X.env) (fun u s' => ∃ o H', Inv X pins σ H' s' ∧ IsPart u o ∧ Q o H') X.xe s
def tNoPart : TO := fun _ H Q => Q none H
def tPart (t : TE) : TO := fun σ H Q => t σ H fun x H1 => ∃ i, x = .int i ∧ Q (some i) H1
section
variable {X : Cx} {e : Expr} {te : TE} {lo hi : Option Expr} {tl th : TO} {pos p2 : Pos}
theorem po_none : PO X none tNoPart := by
  intro pins s σ H Q I h
  rw [evalPart_none]
  exact wpAny_pure ⟨none, H, I, .none, h⟩
theorem po_some (h : PE X e te) : PO X (some e) (tPart te) := by
  intro pins s σ H Q I hw
  rw [evalPart_some]
  refine thn (h pins s σ H _ I hw) fun u s1 ⟨x, H1, I1, r1, q1⟩ => ?_
  obtain ⟨i, rfl, q⟩ := q1
  obtain ⟨t, rfl⟩ := r1
  exact ⟨some i, H1, I1, .int i t, q⟩
def SlR (X : Cx) (r : V → Option Int → Option Int → Hp → VK → Prop) : Prop :=
  ∀ (pins : List (Addr × Obj)) (s : Shared) (σ : St) (H : Hp) (x : V) (v vl vu : Value) (lo hi : Option Int) (sl : Addr) (Q : VK), Inv X pins σ H s → RelV x v → s.heap.IsSliceOf sl vl vu .none → IsPart vl lo → IsPart vu hi → r x lo hi H Q →
    ∃ T id, typeLookup (.type T) "__getitem__" = pure (some (.builtin id)) ∧ s.TypeIs v T ∧ wpAny (model X.prog X.w) X.A (getItem v (.ref sl)) (EP X pins σ Q) X.xe s
theorem SlR.or {r r' : V → Option Int → Option Int → Hp → VK → Prop} (h : SlR X r) (h' : SlR X r') : SlR X (fun x lo hi H Q => r x lo hi H Q ∨ r' x lo hi H Q) := by
  intro pins s σ H x v vl vu lo hi sl Q I rx hs pl pu q
  rcases q with q | q
  · exact h pins s σ H x v vl vu lo hi sl Q I rx hs pl pu q
  · exact h' pins s σ H x v vl vu lo hi sl Q I rx hs pl pu q
def tSl (r : V → Option Int → Option Int → Hp → VK → Prop) (te : TE) (tl th : TO) : TE := fun σ H Q => te σ H fun x H1 => tl σ H1 fun l H2 => th σ H2 fun u H3 => r x l u H3 Q
theorem pe_slice {r : V → Option Int → Option Int → Hp → VK → Prop} (hr : SlR X r) (he : PE X e te) (hl : PO X lo tl) (hu : PO X hi th) : PE X (.Subscript e (.Slice lo hi none p2) pos) (tSl r te tl th) := by
  intro pins s σ H Q I h
  refine Subscript_ (thn (he pins s σ H _ I h) fun v s1 ⟨x, H1, I1, r1, q1⟩ => ?_)
  refine wpAny_Slice (thn (hl pins s1 σ H1 _ I1 q1) fun vl s2 ⟨l, H2, I2, pl, q2⟩ => thn (hu pins s2 σ H2 _ I2 q2) fun vu s3 ⟨u, H3, I3, pu, q3⟩ => ?_)
  rw [evalPart_none]
  refine wpAny_pure ?_
  have I4 : Inv X pins σ H3 { s3 with heap := s3.heap.push { cls := .type "slice", data := .fields #[vl, vu, .none] } } := I3.kept (t' := s3.toks) fun b ob q => Heap.get?_push_of_some _ q
  obtain ⟨T, id, hT, ht, hg⟩ := hr pins { s3 with heap := s3.heap.push { cls := .type "slice", data := .fields #[vl, vu, .none] } } σ H3 x v vl vu l u s3.heap.objs.size Q I4 r1 (Heap.IsSliceOf.new ..) pl pu q3
  show wpAny (model X.prog X.w) X.A (subscriptTail e (.Slice lo hi none p2) v (.ref s3.heap.objs.size)) (EP X pins σ Q) X.xe { s3 with heap := s3.heap.push { cls := .type "slice", data := .fields #[vl, vu, .none] } }
  exact tail_any (ops := [.ref s3.heap.objs.size, v]) ht hT hg (by with_unfolding_all rfl)
def cutV (xs : List V) (lo hi : Option Int) : List V := (xs.drop (HT.sIx xs.length 0 lo)).take (HT.sIx xs.length xs.length hi - HT.sIx xs.length 0 lo)
theorem cutV_length (xs : List V) (lo hi : Option Int) : (cutV xs lo hi).length ≤ xs.length := by
  unfold cutV
  rw [List.length_take, List.length_drop]
  omega
def rSlT (K : PySem.W.Frag) : V → Option Int → Option Int → Hp → VK → Prop := fun x lo hi H Q => ∃ a xs, x = .ref a ∧ SqT K H a xs ∧
  ¬ (HT.sIx xs.length 0 lo = 0 ∧ HT.sIx xs.length xs.length hi = xs.length) ∧ ∀ p, H p = none → Q (.ref p) (upd H p (.tup (cutV xs lo hi)))
theorem sl_tup : SlR X (rSlT X.K) := by
  intro pins s σ H x v vl vu lo hi sl Q I rx hs pl pu h
  obtain ⟨a, xs, rfl, hx, hw, q⟩ := h
  cases rx
  obtain ⟨its, r, ht, hz⟩ := I.tuple hx
  have hlen : its.toArray.size = xs.length := by rw [List.size_toArray]; exact r.length.symm
  refine ⟨"tuple", _, PyProof.Rows.slot_tuple_getitem.lookup, ht.typeIs, ?_⟩
  refine HT.getItem_tuple_cut ht hs pl pu (by rw [hlen]; exact hw) ?_ (by rw [hlen]; exact hz)
  rw [hlen]
  refine ⟨.ref s.heap.objs.size, _, I.laid (t' := s.toks) (o := .tup (cutV xs lo hi)) (fun b ob q => Heap.get?_push_of_some _ q) (Nat.le_refl _) ?_, rfl, q _ (I.hok.fresh (Nat.le_refl _))⟩
  exact ⟨Nat.le_trans (cutV_length xs lo hi) hz, _, (r.drop (HT.sIx xs.length 0 lo)).take (HT.sIx xs.length xs.length hi - HT.sIx xs.length 0 lo), IsTup.new _ _⟩
end
end L2
namespace L2
open PySem PySem.Spec PyProof.Rows
def ixN (n : Nat) (i : Int) : Option Nat := if 0 ≤ i then (if i < n then some i.toNat else none) else if -(n : Int) ≤ i then some (i + n).toNat else none
def atI {α : Type} (xs : List α) (i : Int) : Option α := (ixN xs.length i).bind fun j => xs[j]?
theorem ixN_seq {n : Nat} {i : Int} {j : Nat} (h : ixN n i = some j) : seqIndex? i n = some j ∧ j < n ∧ -(n : Int) ≤ i ∧ i < n := by
  unfold ixN at h
  by_cases h0 : 0 ≤ i
  · rw [if_pos h0] at h
    by_cases h1 : i < n
    · rw [if_pos h1] at h
      have e : i.toNat = j := Option.some.inj h
      exact ⟨by rw [seqIndex_of h0 h1, e], by omega, by omega, h1⟩
    · rw [if_neg h1] at h; cases h
  · rw [if_neg h0] at h
    by_cases h1 : -(n : Int) ≤ i
    · rw [if_pos h1] at h
      have e : (i + n).toNat = j := Option.some.inj h
      exact ⟨by rw [seqIndex_neg (by omega) h1, e], by omega, h1, by omega⟩
    · rw [if_neg h1] at h; cases h
theorem atI_get {α : Type} {xs : List α} {i : Int} {v : α} (h : atI xs i = some v) : ∃ j, seqIndex? i xs.length = some j ∧ xs[j]? = some v ∧ j < xs.length ∧ -(xs.length : Int) ≤ i ∧ i < xs.length := by
  unfold atI at h
  cases e : ixN xs.length i with
  | none => rw [e] at h; cases h
  | some j =>
    rw [e] at h
    obtain ⟨h1, h2, h3, h4⟩ := ixN_seq e
    exact ⟨j, h1, h, h2, h3, h4⟩
theorem atI_nat {α : Type} {xs : List α} {j : Nat} {v : α} (h : xs[j]? = some v) : atI xs (j : Int) = some v := by
  have hj : j < xs.length := (List.getElem?_eq_some_iff.mp h).1
  have e : ixN xs.length (j : Int) = some j := by
    unfold ixN
    rw [if_pos (by omega), if_pos (by omega)]; simp
  unfold atI; rw [e]; exact h
theorem atI_last {α : Type} (xs : List α) (v : α) : atI (xs ++ [v]) (-1) = some v := by
  have hl : (xs ++ [v]).length = xs.length + 1 := by simp
  have e : ixN (xs ++ [v]).length (-1) = some xs.length := by
    unfold ixN
    rw [hl, if_neg (by decide), if_pos (by omega)]
    congr 1
    omega
  unfold atI
  rw [e]
  show (xs ++ [v])[xs.length]? = some v
  simp
def PlainIx (b : Expr) : Prop := ∀ o i, subscripted b false o i = operate [o, i] (getItem o i)
def IxR (X : Cx) (r : R2) : Prop :=
  ∀ (value slice : Expr) (pins : List (Addr × Obj)) (s : Shared) (σ : St) (H : Hp) (x y : V) (v u : Value) (Q : VK), Inv X pins σ H s → RelV x v → RelV y u → r x y H Q →
    subscripted slice false v u = operate [v, u] (getItem v u) → wpAny (model X.prog X.w) X.A (subscriptTail value slice v u) (EP X pins σ Q) X.xe s
def MtR (X : Cx) (id : String) (r : V → List V → Hp → VK → Prop) : Prop :=
  ∀ (pins : List (Addr × Obj)) (s : Shared) (σ : St) (H : Hp) (x : V) (xs : List V) (v : Value) (us : List Value) (Q : VK), Inv X pins σ H s → RelV x v → Vals xs us → r x xs H Q →
    wpAny (model X.prog X.w) X.A (call (.builtin id) (v :: us)) (EP X pins σ Q) X.xe s
section
variable {X : Cx} {a b : Expr} {ta tb : TE} {pos : Pos}
theorem IxR.or {r r' : R2} (h : IxR X r) (h' : IxR X r') : IxR X (fun x y H Q => r x y H Q ∨ r' x y H Q) := by
  intro value slice pins s σ H x y v u Q I rx ry q hs
  rcases q with q | q
  · exact h value slice pins s σ H x y v u Q I rx ry q hs
  · exact h' value slice pins s σ H x y v u Q I rx ry q hs
theorem MtR.or {id : String} {r r' : V → List V → Hp → VK → Prop} (h : MtR X id r) (h' : MtR X id r') : MtR X id (fun x xs H Q => r x xs H Q ∨ r' x xs H Q) := by
  intro pins s σ H x xs v us Q I rx rs q
  rcases q with q | q
  · exact h pins s σ H x xs v us Q I rx rs q
  · exact h' pins s σ H x xs v us Q I rx rs q
theorem pe_ix {r : R2} (hr : IxR X r) (ha : PE X a ta) (hb : PE X b tb) (hs : PlainIx b) : PE X (.Subscript a b pos) (tOp r ta tb) := by
  intro pins s σ H Q I h
  exact Subscript_ (binT ha hb I h fun v u s2 x y H2 I2 rx ry q => hr a b pins s2 σ H2 x y v u Q I2 rx ry q (hs _ _))
def rIxL (K : PySem.W.Frag) : R2 := fun x y H Q => ∃ p xs i v, x = .ref p ∧ y = .int i ∧ SqL K H p xs ∧ atI xs i = some v ∧ Q v H
def rIxT (K : PySem.W.Frag) : R2 := fun x y H Q => ∃ p xs i v, x = .ref p ∧ y = .int i ∧ SqT K H p xs ∧ atI xs i = some v ∧ Q v H
def rIxS : R2 := fun x y H Q => ∃ z i c, x = .str z ∧ y = .int i ∧ z.length ≤ sizeLine ∧ atI z.cps.toList i = some c ∧ Q (.str ⟨#[c]⟩) H
theorem ix_list : IxR X (rIxL X.K) := by
  intro value slice pins s σ H x y v u Q I rx ry h hs
  obtain ⟨p, xs, i, z, rfl, rfl, hq, he, q⟩ := h
  cases rx
  obtain ⟨t, rfl⟩ := ry
  obtain ⟨its, r, pl, hz⟩ := I.list hq
  obtain ⟨j, h1, h2, h3, h4, h5⟩ := atI_get he
  obtain ⟨w, ew, rw'⟩ := r.get h2
  have hl := r.length
  have hn := line63
  have fin : EP X pins σ Q w s := ⟨z, H, I, rw', q⟩
  by_cases h0 : 0 ≤ i
  · have hj : i.toNat = j := by
      rw [seqIndex_of h0 h5] at h1
      exact Option.some.inj h1
    exact item_listR pl.isList h0 (by omega) (by rw [hj]; simpa using ew) fin hs
  · have hj : (i + (its.toArray.size : Int)).toNat = j := by
      rw [seqIndex_neg (by omega) h4] at h1
      rw [List.size_toArray, ← hl]
      exact Option.some.inj h1
    exact subscriptTail_builtinR (x := w) pl.isList.typeIs slot_list_getitem.lookup
      (wpAny_getItem_list_neg (Q := fun r s' => r = w ∧ EP X pins σ Q r s') pl.isList (by omega) (by rw [List.size_toArray] <;> omega) (by omega) (by rw [hj]; simpa using ew) ⟨rfl, fin⟩) hs
theorem ix_tup : IxR X (rIxT X.K) := by
  intro value slice pins s σ H x y v u Q I rx ry h hs
  obtain ⟨p, xs, i, z, rfl, rfl, hq, he, q⟩ := h
  cases rx
  obtain ⟨t, rfl⟩ := ry
  obtain ⟨its, r, pl, hz⟩ := I.tuple hq
  obtain ⟨j, h1, h2, h3, h4, h5⟩ := atI_get he
  obtain ⟨w, ew, rw'⟩ := r.get h2
  have hl := r.length
  have hn := line63
  have fin : EP X pins σ Q w s := ⟨z, H, I, rw', q⟩
  exact subscriptTail_builtinR (x := w) pl.typeIs slot_tuple_getitem.lookup
    (getItem_tuple (j := j) (Q := fun r s' => r = w ∧ EP X pins σ Q r s') pl (by omega) (by omega) (by rw [List.size_toArray, ← hl]; exact h1) (by simpa using ew) ⟨rfl, fin⟩) hs
theorem ix_str : IxR X rIxS := by
  intro value slice pins s σ H x y v u Q I rx ry h hs
  obtain ⟨z, i, c, rfl, rfl, hz, he, q⟩ := h
  obtain ⟨t, rfl⟩ := rx
  obtain ⟨t', rfl⟩ := ry
  obtain ⟨j, h1, h2, h3, h4, h5⟩ := atI_get he
  have hl : z.cps.toList.length = z.length := by simp [Str.length]
  rw [hl] at h1 h4 h5
  have hn := line63
  exact tail_any (typeIs_str s z t) slot_str_getitem.lookup (getItem_str (c := c) (by
    have e1 : decide (i < -(2 ^ 63 : Int)) = false := decide_eq_false (by omega)
    have e2 : decide (i ≥ 2 ^ 63) = false := decide_eq_false (by omega)
    rw [e1, e2, Bool.or_false]) (by rw [h1]; simpa using h2) ⟨.str ⟨#[c]⟩, H, I.tok _, ⟨_, rfl⟩, q⟩) hs
def rIx (K : PySem.W.Frag) : R2 := fun x y H Q => rIxL K x y H Q ∨ rIxT K x y H Q ∨ rIxS x y H Q
theorem ix_seq : IxR X (rIx X.K) := ix_list.or (ix_tup.or ix_str)
theorem Inv.lst {pins : List (Addr × Obj)} {σ : St} {H : Hp} {s : Shared} {p : Addr} {xs : List V} (I : Inv X pins σ H s) (h : H p = some (.lst xs)) :
    ∃ (its : List Value) (n : Nat), Vals xs its ∧ s.heap.get? p = some { cls := .type "list", data := .seq its.toArray n } ∧ xs.length ≤ sizeLine := by
  obtain ⟨z, its, n, r, e⟩ := I.hok p _ h
  exact ⟨its, n, r, e, z⟩
theorem slice_bounds (lo hi : Option Int) (n : Nat) : (sliceBounds lo hi none n).1 = ((HT.sIx n 0 lo : Nat) : Int) ∧ (sliceBounds lo hi none n).2.1 = ((HT.sIx n n hi : Nat) : Int) ∧ (sliceBounds lo hi none n).2.2 = 1 := by
  refine ⟨?_, ?_, rfl⟩
  · cases lo with
    | none => simp [sliceBounds, HT.sIx]
    | some i =>
      simp only [sliceBounds, HT.sIx, Option.getD_none, show (1 : Int) > 0 by decide, if_true]
      by_cases h : i < 0
      · simp only [h, if_true] <;> omega
      · simp only [h, if_false] <;> omega
  · cases hi with
    | none => simp [sliceBounds, HT.sIx]
    | some i =>
      simp only [sliceBounds, HT.sIx, Option.getD_none, show (1 : Int) > 0 by decide, if_true]
      by_cases h : i < 0
      · simp only [h, if_true] <;> omega
      · simp only [h, if_false] <;> omega
theorem slicePick_cut (its : List Value) (lo hi : Option Int) : slicePick its.toArray lo hi none = ((its.drop (HT.sIx its.length 0 lo)).take (HT.sIx its.length its.length hi - HT.sIx its.length 0 lo)).toArray := by
  obtain ⟨h1, h2, h3⟩ := slice_bounds lo hi its.toArray.size
  unfold slicePick
  rw [h1, h2, h3]
  simp only [sliceRange_one, pick_run, List.size_toArray] <;> rfl
def rSlL (K : PySem.W.Frag) : V → Option Int → Option Int → Hp → VK → Prop := fun x lo hi H Q => ∃ a xs, x = .ref a ∧ SqL K H a xs ∧ ∀ p, H p = none → Q (.ref p) (upd H p (.lst (cutV xs lo hi)))
theorem sl_list : SlR X (rSlL X.K) := by
  intro pins s σ H x v vl vu lo hi sl Q I rx hs pl pu h
  obtain ⟨a, xs, rfl, hx, q⟩ := h
  cases rx
  obtain ⟨its, r, ht, hz⟩ := I.list hx
  have hlen := r.length
  refine ⟨"list", _, slot_list_getitem.lookup, ht.isList.typeIs, ?_⟩
  refine wpAny_getItem_list_slice ht.isList hs pl pu .none (by simp) ?_ (by rw [List.size_toArray] <;> omega)
  rw [slicePick_cut, ← hlen]
  refine ⟨.ref s.heap.objs.size, _, I.laid (t' := s.toks) (o := .lst (cutV xs lo hi)) (fun b ob q => Heap.get?_push_of_some _ q) (Nat.le_refl _) ?_, rfl, q _ (I.hok.fresh (Nat.le_refl _))⟩
  exact ⟨Nat.le_trans (cutV_length xs lo hi) hz, _, 0, (r.drop (HT.sIx xs.length 0 lo)).take (HT.sIx xs.length xs.length hi - HT.sIx xs.length 0 lo), Heap.get?_push_size _ rfl⟩
def flatV : V → Bool
  | .non => true
  | .bl _ => true
  | .int _ => true
  | .str _ => true
  | _ => false
def eqV : V → V → Bool
  | .non, .non => true
  | .bl a, .bl b => a == b
  | .bl a, .int b => (if a then 1 else 0) == b
  | .int a, .bl b => a == (if b then 1 else 0)
  | .int a, .int b => a == b
  | .str a, .str b => a == b
  | _, _ => false
theorem CallR.or {f : Value} {r r' : List V → Hp → VK → Prop} (h : CallR X f r) (h' : CallR X f r') : CallR X f (fun xs H Q => r xs H Q ∨ r' xs H Q) := by
  intro pins s σ H xs us Q I rs q
  rcases q with q | q
  · exact h pins s σ H xs us Q I rs q
  · exact h' pins s σ H xs us Q I rs q
theorem call_list_of : CallR X (.type "list") (fun xs H Q => ∃ p ys, xs = [.ref p] ∧ (SqL X.K H p ys ∨ SqT X.K H p ys) ∧ ∀ l, H l = none → Q (.ref l) (upd H l (.lst ys))) := by
  intro pins s σ H xs us Q I r h
  obtain ⟨p, ys, rfl, hq, q⟩ := h
  obtain ⟨u, rfl, rx⟩ := vals1 r
  cases rx
  have fin : ∀ (its : List Value), Vals ys its → ys.length ≤ sizeLine → ∀ (h' : Heap) (c' : Nat), (∀ b o', s.heap.get? b = some o' → h'.get? b = some o') →
      h'.get? s.heap.objs.size = some { cls := .type "list", dict := none, data := .seq its.toArray c', slots := #[] } → EP X pins σ Q (.ref s.heap.objs.size) { s with heap := h' } := fun its r' hz h' c' kp e =>
    ⟨.ref s.heap.objs.size, _, I.laid (t' := s.toks) kp (Nat.le_refl _) (show ObjOk X.prog X.w _ h' _ (.lst ys) from ⟨hz, its, c', r', e⟩), rfl, q _ (I.hok.fresh (Nat.le_refl _))⟩
  rcases hq with hq | hq
  · obtain ⟨its, r', pl, hz⟩ := I.list hq
    have hlen := r'.length
    obtain ⟨o, ho, hc, n, hd⟩ := pl.isList
    exact call_list_seq p (.inl rfl) ho hc hd (fun h' c' kp e => fin its r' hz h' c' kp e) (by simp only [List.size_toArray] <;> omega)
  · obtain ⟨its, r', pl, hz⟩ := I.tuple hq
    have hlen := r'.length
    obtain ⟨o, ho, hc, n, hd⟩ := pl
    exact call_list_seq p (.inr rfl) ho hc hd (fun h' c' kp e => fin its r' hz h' c' kp e) (by simp only [List.size_toArray] <;> omega)
theorem call_tuple_of : CallR X (.type "tuple") (fun xs H Q => ∃ p ys, xs = [.ref p] ∧ ((SqL X.K H p ys ∧ ∀ l, H l = none → Q (.ref l) (upd H l (.tup ys))) ∨ (SqT X.K H p ys ∧ Q (.ref p) H))) := by
  intro pins s σ H xs us Q I r h
  obtain ⟨p, ys, rfl, h⟩ := h
  obtain ⟨u, rfl, rx⟩ := vals1 r
  cases rx
  rcases h with ⟨hq, q⟩ | ⟨hq, q⟩
  · obtain ⟨its, r', pl, hz⟩ := I.list hq
    have hlen := r'.length
    refine call_tuple_list pl.isList (fun h' kp => ?_) (by simp only [List.size_toArray] <;> omega)
    have I1 : Inv X pins σ H { s with heap := h' } := I.kept (t' := s.toks) kp
    have I2 : Inv X pins σ (upd H h'.objs.size (.tup ys)) { s with heap := h'.push { cls := .type "tuple", data := .seq its.toArray } } :=
      I1.laid (t' := s.toks) (fun b o e => Heap.get?_push_of_some _ e) (Nat.le_refl _) (show ObjOk X.prog X.w _ _ _ (.tup ys) from ⟨hz, its, r', IsTup.new _ _⟩)
    exact ⟨.ref h'.objs.size, _, I2, rfl, q _ (I1.hok.fresh (Nat.le_refl _))⟩
  · obtain ⟨its, r', pl, hz⟩ := I.tuple hq
    exact call_tuple_same pl ⟨.ref p, H, I, rfl, q⟩
def tyV (K : PySem.W.Frag) (T : String) (x : V) (H : Hp) : Prop := match x with
  | .str _ => T = "str"
  | .int _ => T = "int"
  | .ref p => (T = "list" ∧ ∃ xs, SqL K H p xs) ∨ (T = "tuple" ∧ ∃ o, K.lookup p = some o ∧ o.cls = .type "tuple" ∧ o.dict = none) ∨
      (T = "dict" ∧ ((∃ kvs, H p = some (.dK kvs)) ∨ (∃ kvs, H p = some (.dT kvs)) ∨ ∃ ks vs, Rd H p (.dct ks vs))) ∨ (T = "set" ∧ ∃ S n, H p = some (.set S n))
  | _ => False
theorem tyV_is {pins : List (Addr × Obj)} {σ : St} {H : Hp} {s : Shared} {T : String} {x : V} {v : Value} (I : Inv X pins σ H s) (r : RelV x v) (ty : tyV X.K T x H) :
    s.TypeIs v T ∧ ∀ a, v = .ref a → ∃ ob, s.heap.get? a = some ob ∧ ob.dict = none := by
  cases x with
  | str z =>
    obtain ⟨t, rfl⟩ := r
    cases (show T = "str" from ty)
    exact ⟨typeIs_str s z t, fun _ e => nomatch e⟩
  | int i =>
    obtain ⟨t, rfl⟩ := r
    cases (show T = "int" from ty)
    exact ⟨typeIs_int s i t, fun _ e => nomatch e⟩
  | ref p =>
    cases r
    rcases ty with ⟨rfl, xs, hq⟩ | ⟨rfl, o, hk, hc, hd⟩ | ⟨rfl, hk⟩ | ⟨rfl, S, n, hk⟩
    · obtain ⟨its, _, pl, _⟩ := I.list hq
      refine ⟨pl.isList.typeIs, fun a e => ?_⟩
      cases e
      obtain ⟨o, n, e, c, hd, _⟩ := pl
      exact ⟨o, e, hd⟩
    · refine ⟨⟨o, I.kIn p o hk, hc⟩, fun a e => ?_⟩
      cases e
      exact ⟨o, I.kIn _ o hk, hd⟩
    · have z : ∃ o, s.heap.get? p = some o ∧ o.ExactDict := by
        rcases hk with ⟨kvs, hk⟩ | ⟨kvs, hk⟩ | ⟨ks, vs, hk⟩
        · obtain ⟨_, _, _, _, o, _, _, e, ex, _⟩ := I.hok p _ hk
          exact ⟨o, e, ex⟩
        · obtain ⟨_, _, _, _, o, _, _, e, ex, _⟩ := I.hok p _ hk
          exact ⟨o, e, ex⟩
        · obtain ⟨_, _, _, o, _, _, e, ex, _⟩ := hk.ok I.hok
          exact ⟨o, e, ex⟩
      obtain ⟨o, e, ex⟩ := z
      refine ⟨⟨o, e, ex.1⟩, fun a e2 => ?_⟩
      cases e2
      exact ⟨o, e, ex.2.1⟩
    · obtain ⟨o, _, _, _, e, ex, _⟩ := I.hok p _ hk
      refine ⟨⟨o, e, ex.1⟩, fun a e2 => ?_⟩
      cases e2
      exact ⟨o, e, ex.2.1⟩
  | _ => exact False.elim ty
def tBM (K : PySem.W.Frag) (T : String) (r : V → List V → Hp → VK → Prop) (to : TE) (t : TA) : TE := fun σ H Q => to σ H fun x H1 => tyV K T x H1 ∧ t σ H1 fun xs H2 => r x xs H2 Q
variable {o e : Expr} {es : List Expr} {to : TE} {t : TA} {name : Str} {apos cpos : Pos} {T id : String} {r : V → List V → Hp → VK → Prop}
theorem pe_bm (pa : PlainAttrs T) (slot : Slot T name id) (hty : typeOf (.builtin id) = pure (.type "method_descriptor")) (hm : MtR X id r) (ho : PE X o to) (ha : PA X (e :: es) t)
    (hbase : attributeBase o name X.env (eval o X.env) = eval o X.env := by rfl)
    (hfew : ((backTo cpos (starEach (e :: es) X.env)).all (fun x => !x.1) && (backToKw cpos (keywordEach [] X.env)).all (fun x => x.1.isSome)
      && decide ((e :: es).length + ([] : List Keyword).length + (if ([] : List Keyword).isEmpty then 0 else 1) < 30)) = true := by rfl)
    (hline : (apos.endLine == cpos.line) = true := by rfl) (hs : starEach (e :: es) X.env = (false, eval e X.env) :: starEach es X.env := by rfl) (hplain : (backTo cpos (starEach es X.env)).any (·.1) = false := by rfl) :
    PE X (.Call (.Attribute o name apos) (e :: es) [] cpos) (tBM X.K T r to t) := by
  intro pins s σ H Q I h
  refine wpAny_Call_method_late hbase hfew hline rfl (thn (ho pins s σ H _ I h) fun v s1 ⟨x, H1, I1, r1, ty, q1⟩ => ?_)
  obtain ⟨h1, h2⟩ := tyV_is I1 r1 ty
  refine ⟨T, id, pa, slot, hty, h1, h2, ?_⟩
  have hA := ha cpos pins s1 σ H1 _ I1 q1
  rw [hs] at hA ⊢
  refine Calls.callWith_builtin (by show (false || (backTo cpos (starEach es X.env)).any (·.1)) = false; rw [hplain] <;> rfl) (Calls.evalArgs_plain ?_)
  exact thn hA fun us s2 ⟨vs, H2, I2, r2, q2⟩ => hm pins s2 σ H2 x vs v us Q I2 r1 r2 q2
end
end L2
namespace L2
open PySem PySem.Spec PyProof.Rows
def MtM (X : Cx) (id : String) (r : V → List V → Hp → VK → Prop) : Prop :=
  ∀ (pins : List (Addr × Obj)) (s : Shared) (σ : St) (H : Hp) (x : V) (xs : List V) (v : Value) (us : List Value) (Q : VK), Inv X pins σ H s → RelV x v → Vals xs us → r x xs H Q →
    wpAny (model X.prog X.w) X.A (call (.builtin id) (v :: us)) (EP X pins σ Q) X.xe s
theorem Vals.one : ∀ {x : V} {us : List Value}, Vals [x] us → ∃ u, us = [u] ∧ RelV x u
  | _, _, .cons r .nil => ⟨_, rfl, r⟩
theorem Vals.two : ∀ {x y : V} {us : List Value}, Vals [x, y] us → ∃ u v, us = [u, v] ∧ RelV x u ∧ RelV y v
  | _, _, _, .cons r (.cons q .nil) => ⟨_, _, rfl, r, q⟩
theorem Vals.zero : ∀ {us : List Value}, Vals [] us → us = []
  | _, .nil => rfl
theorem Vals.dropLast {xs : List V} {us : List Value} (h : Vals xs us) : Vals xs.dropLast us.dropLast := by
  induction h with
  | nil => exact .nil
  | cons r t ih =>
    cases t with
    | nil => exact .nil
    | cons q t' => exact .cons r ih
theorem Vals.reverse {xs : List V} {us : List Value} (h : Vals xs us) : Vals xs.reverse us.reverse := by
  induction h with
  | nil => exact .nil
  | cons r t ih => rw [List.reverse_cons, List.reverse_cons]; exact Vals.append ih (.cons r .nil)
theorem Vals.rep {xs : List V} {us : List Value} (h : Vals xs us) : ∀ k : Nat, Vals (List.replicate k xs).flatten (List.replicate k us).flatten
  | 0 => .nil
  | k + 1 => by
    rw [List.replicate_succ, List.replicate_succ, List.flatten_cons, List.flatten_cons]
    exact Vals.append h (Vals.rep h k)
section
variable {X : Cx} {pins : List (Addr × Obj)} {σ : St} {H : Hp} {s : Shared} {l b : Addr} {xs ys zs : List V}
theorem Inv.lset {its its' : List Value} {n : Nat} {f : Array Value → Array Value} {t' : Nat} (I : Inv X pins σ H s) (hH : H l = some (.lst xs))
    (e : s.heap.get? l = some { cls := .type "list", data := .seq its.toArray n }) (hf : f its.toArray = its'.toArray) (hv : Vals ys its') (hz : ys.length ≤ sizeLine) :
    Inv X pins σ (upd H l (.lst ys)) { s with heap := s.heap.update l (Obj.mapSeq f), toks := t' } := by
  have q := PySem.IsL.update e f
  rw [hf] at q
  refine I.write (x := l) (e := l) (by rw [hH]; exact trivial) (.inl rfl) (fun b' u hb hu => (Heap.get?_update_other s.heap (Obj.mapSeq f) (Ne.symm hb)).trans hu) ⟨_, q⟩ ?_
  exact ⟨hz, its', _, hv, q⟩
theorem Inv.lnew {its : List Value} {t' : Nat} (I : Inv X pins σ H s) (hv : Vals ys its) (hz : ys.length ≤ sizeLine) :
    Inv X pins σ (upd H s.heap.objs.size (.lst ys)) { s with heap := s.heap.push { cls := .type "list", data := .seq its.toArray }, toks := t' } :=
  I.laid (fun _ _ q => Heap.get?_push_of_some _ q) (Nat.le_refl _) ⟨hz, its, 0, hv, Heap.get?_push_size _ rfl⟩
theorem Inv.fresh (I : Inv X pins σ H s) : H s.heap.objs.size = none := I.hok.fresh (Nat.le_refl _)
theorem Inv.lstM (I : Inv X pins σ H s) (hH : H l = some (.lst xs)) : xs.length ≤ sizeLine ∧ ∃ (its : List Value) (n : Nat), Vals xs its ∧ xs.length = its.length ∧ s.heap.get? l = some { cls := .type "list", data := .seq its.toArray n } := by
  obtain ⟨z, its, n, r, e⟩ := I.hok l _ hH
  exact ⟨z, its, n, r, r.length, e⟩
end
section
variable {X : Cx}
def rAppend : V → List V → Hp → VK → Prop := fun x vs H Q => ∃ l xs y, x = .ref l ∧ vs = [y] ∧ H l = some (.lst xs) ∧ xs.length < sizeLine ∧ Q .non (upd H l (.lst (xs ++ [y])))
theorem mt_append : MtM X "list.append" rAppend := by
  intro pins s σ H x vs v us Q I rx rv h
  obtain ⟨l, xs, y, rfl, rfl, hH, hz, q⟩ := h
  cases rx
  obtain ⟨u, rfl, ru⟩ := rv.one
  obtain ⟨z, its, n, r, hl, e⟩ := I.lstM hH
  refine call_meets F.slot_list_append ⟨_, e, rfl⟩ F.entry_list_append (F.args_list_append_2 _ _) (PySem.list_append l its.toArray n u (by rw [List.size_toArray]; omega)) ⟨e, ?_⟩
  refine ⟨.non, _, I.lset (its' := its ++ [u]) hH e (by simp) (r.append (.cons ru .nil)) ?_, rfl, q⟩
  rw [List.length_append, List.length_singleton]
  omega
end
section
variable {prog : Program} {w : World} {A : Around} {E : Value → Shared → Prop} {s : Shared}
set_option maxRecDepth 100000 in
end
section
variable {X : Cx}
end
end L2
namespace Att
open PySem PySem.W PySem.Calls PyProof.Rows
theorem ints_of_wellAll {P : Params} {h : Heap} : ∀ (ns : List Int) (vs : List Value), WellAll P h vs (ns.map WData.int) → IntsAre vs ns := by
  intro ns
  induction ns with
  | nil =>
    intro vs w
    rw [List.map_nil] at w
    cases w
    exact .nil
  | cons n ns ih =>
    intro vs w
    rw [List.map_cons] at w
    cases w with
    | cons a b =>
      cases a
      exact .cons _ _ (ih _ b)
theorem script_of {l : OpenLaw} {n : Nat} (hn : l.most = some n) {P : Params} {h : Heap} {args : List WData} {vals : List Value}
    (hpre : l.row.toRowW.claim.pre args = true) (hwl : WellAll P h vals args) :
    ∃ a vs ns, vals = [Value.ref a] ∧ args = [WData.list (ns.map WData.int)] ∧ h.get? a = some { cls := .type "list", data := .seq vs.toArray } ∧ IntsAre vs ns ∧ ns.length ≤ n := by
  have hsh : WShape.hasAll [] args [.list .int] = true := (pre_splitW hpre).1
  have hc : l.pre.holds [] { args := args } = true := (pre_splitW hpre).2
  obtain ⟨d, r, rfl, h1, h2⟩ := hasAllW_cons hsh
  obtain rfl := hasAllW_nil h2
  obtain ⟨xs, rfl, h3⟩ := hasW_list h1
  obtain ⟨ns, rfl⟩ := items_int h3
  have hlen : ns.length ≤ n := by
    unfold OpenLaw.pre at hc
    have h4 : (WTm.not (.lt (.lit (.int (n : Int))) (.len (.arg 0)))).holds [] { args := [.list (ns.map .int)] } = true := by
      have h4 := (holds_andW hc).1
      rw [hn] at h4
      exact h4
    have h5 := condW_of h4 (w_not (w_lt w_lit (w_len_list (w_arg rfl))))
    rw [List.length_map] at h5
    refine Nat.le_of_not_lt fun q => ?_
    have q' : (n : Int) < ((ns.length : Nat) : Int) := by omega
    first
      | (rw [decide_eq_true q'] at h5; exact absurd h5 (by decide))
      | (simp at h5; omega)
  cases hwl with
  | cons w1 w2 =>
    cases w2
    cases w1 with
    | list ho hall => exact ⟨_, _, ns, rfl, rfl, ho, ints_of_wellAll ns _ hall, hlen⟩
theorem post_true (l : OpenLaw) (args : List WData) : l.row.toRowW.claim.post args (.bool true) args = true :=
  postW_of (r := l.row.toRowW) (X := (true == true))
    (show WShape.has [] (.bool true) .bool = true by first | rfl | decide | simp [WShape.has, WShape.arms, WShape.armsAll])
    (show (WTm.eq .res (.lit (.bool true))).value [] { args := args, res := some (.bool true), after := args } = some (.bool (true == true)) from w_eq_bool (w_res rfl) w_lit) rfl
theorem attach_call {l : OpenLaw} {n : Nat} {q : Program} {loose : List Str} {XP : (Str → Option Value) → Heap → Prop} {YP : World → Heap → Prop} {d : DefRec}
    (hn : l.most = some n) (hdf : d.params.defaults = [])
    (call : ∀ (w : World) (s₀ s₁ : Shared) (mg mb : Str → Option Value) (fa : Addr) (o : Obj) (pm cd doc : Value) (a : Addr) (vs : List Value) (ns : List Int),
      Ground q loose [] XP w s₀ mg mb s₁.heap → YP w s₁.heap →
      s₁.heap.get? fa = some o → o.data = .func (docDef d.name d.params d.body d.scope pm cd doc) → s₁.heap.CodeRec cd d.name → mg d.name = some (.ref fa) →
      s₁.heap.get? a = some { cls := .type "list", data := .seq vs.toArray } → IntsAre vs ns → ns.length ≤ n → s₁.gens = #[] →
      codeAny (model l.prog w) callerA (.call (.ref fa) ⟨[.ref a], []⟩) (fun r s' => r = .ok (.ret (.bool true)) ∧ OldK s₁.heap s'.heap ∧ s'.os = s₁.os ∧ AllBare s'.gens) s₁) :
    WalkO q loose XP YP l.row.toRowW d [] (fun f vs => PySem.call f vs) := by
  intro w s₀ s₁ mg mb G Y fa o pm cd doc dV kV ho hd hcd hD hmg hg args vals as hpre hlay hrd hwl hlo
  obtain rfl : dV = .none := Dflts.none hD hdf
  obtain rfl : kV = .none := Dflts.noKw hD
  obtain ⟨a, vs, ns, rfl, rfl, hobj, hints, hlen⟩ := script_of hn hpre hwl
  refine enter_call (codeAny_mono (call w s₀ s₁ mg mb fa o pm cd doc a vs ns G Y ho (fd_plain hd) hcd hmg hobj hints hlen hg) fun r s' hq => ?_)
  obtain ⟨rfl, h2, h3, h4⟩ := hq
  exact ⟨.inl ⟨.bool true, .bool true, [], rfl, fun _ => rfl, .bool true, post_true l _, fun _ => ⟨List.Pairwise.nil, fun _ hm => (nomatch hm)⟩⟩, h2, h3, h4⟩
section
variable {prog : Program} {w : World} {A : Around} {E : Value → Shared → Prop} {s : Shared} {K : Frag}
end
end Att
namespace L2
open PySem PySem.Spec PyProof.Rows
theorem vals_ints : ∀ {vs : List Value} {ns : List Int}, IntsAre vs ns → Vals (ns.map V.int) vs
  | _, _, .nil => .nil
  | _, _, .cons n t h => .cons ⟨t, rfl⟩ (vals_ints h)
def Only (H : Hp) : Prop := ∀ b, H b = none ∨ ∃ o xs, H b = some (.frz o (.lst xs))
theorem law_call {P : Program} {w : World} {K : PySem.W.Frag} {mg mb : Str → Option Value} {CX : CXT} {k : Nat} {fa a : Addr} {fd : FuncData} {x : Str} {sp : Sp} {s₁ : Shared} {vs : List Value} {ns : List Int}
    (KX : K.In s₁.heap) (hns : s₁.heap.Ns mainGlobals mg) (hb : s₁.heap.Ns builtinsNs mb) (hbb : ∀ x : Str, x ≠ "__name__" → mb x = bootBuiltins x) (hlim : s₁.heap.NoLimit) (hg : s₁.gens = #[])
    (ha : s₁.heap.get? a = some { cls := .type "list", data := .seq vs.toArray }) (hi : IntsAre vs ns) (hl : ns.length ≤ sizeLine) (hr : Room k callerA)
    (F : ∀ base : Heap, K.In base → base.Ns mainGlobals mg → FnOk P w K mg base CX k fa fd [x] sp) (hbind : ∀ (s : Shared) (u : Value), BindsTo s fd ⟨[u], []⟩ [(x, u)])
    (hsp : ∀ H : Hp, Only H → SqL K H a (ns.map V.int) → sp [.ref a] H (fun v _ => v = .bl true) fun _ _ _ => False)
    (hCX : ∀ H e s', CX [] H s₁ (fun _ _ _ => False) e s' → False) :
    codeAny (model P w) callerA (.call (.ref fa) ⟨[.ref a], []⟩) (fun r s' => r = .ok (.ret (.bool true)) ∧ OldK s₁.heap s'.heap ∧ s'.os = s₁.os ∧ AllBare s'.gens) s₁ := by
  have rv := vals_ints hi
  have lenV := hi.length
  -- from an abstract heap in which nothing but the script may be tracked
  have core : ∀ H : Hp, Only H → SqL K H a (ns.map V.int) → HOk P w H s₁.heap → (∀ b, H b ≠ none → b = a) → (H a ≠ none → K.lookup a = none) →
      codeAny (model P w) callerA (.call (.ref fa) ⟨[.ref a], []⟩) (fun r s' => r = .ok (.ret (.bool true)) ∧ OldK s₁.heap s'.heap ∧ s'.os = s₁.os ∧ AllBare s'.gens) s₁ := by
    intro H hO hS hok hA hK
    have base_of : ∀ {b : Addr} {o : Obj}, s₁.heap.get? b = some o → H b = none → (hidT s₁.heap H).get? b = some o := fun e n => hidT_get e n
    have noA : ∀ {b : Addr} {o : Obj} {es : Array DictEntry} {ep : Nat}, s₁.heap.get? b = some o → o.data = .dict es ep → H b = none := fun {b o es ep} e d => by
      cases q : H b with
      | none => rfl
      | some u =>
        have e' : b = a := hA b (by rw [q]; simp)
        subst e'
        rw [ha] at e; cases e
        have d' : Data.seq vs.toArray _ = Data.dict es ep := d
        cases d'
    have nsK : ∀ {b : Addr} {m : Str → Option Value}, s₁.heap.Ns b m → (hidT s₁.heap H).Ns b m := fun {b m} ⟨o, es, ep, e, d, r⟩ => ⟨o, es, ep, base_of e (noA e d), d, r⟩
    have hKb : K.In (hidT s₁.heap H) := fun b o e => base_of (KX b o e) (by
      cases q : H b with
      | none => rfl
      | some u =>
        have e' : b = a := hA b (by rw [q]; simp)
        subst e'
        rw [hK (by rw [q]; simp)] at e; cases e)
    have hM : Mod K mg (hidT s₁.heap H) := ⟨hKb, nsK hns, ⟨mb, nsK hb, hbb⟩, let ⟨mc, h1, h2⟩ := hlim; ⟨mc, nsK h1, h2⟩⟩
    have e0 : Env0 P w K mg (hidT s₁.heap H) callerA [] s₁ H := ⟨rfl, hM, fun b o e => of_hidT e, Nat.le_of_eq (hidT_size _ _), trivial, fun b hb => absurd (show b ∈ ([] : List Addr) from hb) (by simp), hok, .of_eq hg⟩
    refine codeAny_mono ((F _ hKb (nsK hns)).run callerA [] s₁ H ⟨[.ref a], []⟩ [.ref a] [.ref a] _ _ hr e0 (hbind s₁ (.ref a)) (.cons rfl .nil) (hsp H hO hS)) fun r s' h => ?_
    cases r with
    | error e => exact (hCX H e s' h).elim
    | ok fl =>
      cases fl with
      | next => exact False.elim h
      | brk => exact False.elim h
      | cont => exact False.elim h
      | ret u =>
        obtain ⟨v, H', os, bare, un, hok', r', q⟩ := h
        have q' : v = .bl true := q
        subst q'
        obtain rfl : u = Value.bool true := r'
        refine ⟨rfl, OldK.of_keep fun b o e => ?_, os, bare⟩
        cases q : H b with
        | none => exact un.keep b o e q (by intro z; exact absurd (show b ∈ ([] : List Addr) from z) (by simp)) (by simp)
        | some u =>
          rcases hO b with z | ⟨ob, xs, z⟩
          · rw [q] at z; cases z
          · have z2 := un.frzs b ob _ z
            obtain ⟨e1, _⟩ := hok b _ z
            obtain ⟨e2, _⟩ := hok' b _ z2
            rw [e] at e1; cases e1
            exact e2
  cases hk : K.lookup a with
  | some o =>
    -- the script is one of the module's own objects
    have e := KX a o hk
    rw [ha] at e
    cases e
    refine core (fun _ => none) (fun _ => .inl rfl) (.inr ⟨_, vs.toArray, _, hk, rfl, rfl, rfl, by rw [List.size_toArray, lenV]; exact hl, by simpa using rv⟩) (fun b u z => by have z' : (none : Option HO) = some u := z; cases z') (fun b z => absurd rfl z) fun z => absurd rfl z
  | none =>
    refine core (fun b => if b = a then some (.frz { cls := .type "list", data := .seq vs.toArray } (.lst (ns.map V.int))) else none) (fun b => ?_) (.inl (.inr ⟨{ cls := .type "list", data := .seq vs.toArray }, if_pos rfl⟩)) (fun b u z => ?_) (fun b z => ?_) fun _ => hk
    · by_cases hb : b = a
      · exact .inr ⟨_, _, if_pos hb⟩
      · exact .inl (if_neg hb)
    · by_cases hb : b = a
      · have z' := (if_pos hb).symm.trans z
        cases z'
        subst hb
        exact ⟨ha, by rw [List.length_map]; exact hl, vs, _, rv, ha⟩
      · have z' := (if_neg hb).symm.trans z
        cases z'
    · by_cases hb : b = a
      · exact hb
      · exact absurd (if_neg hb) z
end L2
namespace L2
open PySem PySem.Spec PyProof.Rows
theorem walk_of {l : PySem.W.OpenLaw} {n k : Nat} {q : Program} {loose : List Str} {XP : (Str → Option Value) → Heap → Prop} {YP : World → Heap → Prop} {d : DefRec} {K : Params → PySem.W.Frag} {CX : World → CXT} {sp : World → Sp} {x : Str}
    (hn : l.most = some n) (hn2 : n ≤ sizeLine) (hdf : d.params.defaults = []) (hr : Room k callerA)
    (hY : ∀ (w : World) (h : Heap), YP w h → (K w.params).In h)
    (F : ∀ (w : World) (mg : Str → Option Value) (fa : Addr) (h : Heap), (K w.params).In h → h.Ns mainGlobals mg → mg d.name = some (.ref fa) →
      ∃ fd : FuncData, (∀ (s : Shared) (u : Value), BindsTo s fd ⟨[u], []⟩ [(x, u)]) ∧
        ∀ base : Heap, (K w.params).In base → base.Ns mainGlobals mg → FnOk l.prog w (K w.params) mg base (CX w) k fa fd [x] (sp w))
    (hsp : ∀ (w : World) (H : Hp) (a : Addr) (ns : List Int), ns.length ≤ n → Only H → SqL (K w.params) H a (ns.map V.int) → sp w [.ref a] H (fun v _ => v = .bl true) fun _ _ _ => False)
    (hCX : ∀ (w : World) (H : Hp) (s : Shared) (e : Value) (s' : Shared), CX w [] H s (fun _ _ _ => False) e s' → False) :
    PySem.W.WalkO q loose XP YP l.row.toRowW d [] (fun f vs => PySem.call f vs) := by
  refine Att.attach_call hn hdf fun w s₀ s₁ mg mb fa o pm cd doc a vs ns G Y ho hd hcd hmg hobj hints hlen hg => ?_
  have KX := hY w _ Y
  obtain ⟨fd, hb, hF⟩ := F w mg fa _ KX G.T.g hmg
  exact law_call KX G.T.g G.T.b G.T.builtins G.T.nolimit hg hobj hints (Nat.le_trans hlen hn2) hr hF hb (fun H hO hS => hsp w H a ns hlen hO hS) fun H e s' => hCX w H s₁ e s'
end L2
namespace L2
open PySem PySem.Spec PyProof.Rows
def defArgs (s : Stmt) : Arguments := match s with
  | .FunctionDef _ a _ _ _ _ _ _ _ _ => a
  | _ => { posonlyargs := [], args := [], vararg := none, kwonlyargs := [], kw_defaults := [], kwarg := none, defaults := [] }
def defBody (s : Stmt) : List Stmt := match s with
  | .FunctionDef _ _ b _ _ _ _ _ _ _ => b
  | _ => []
def defScope (s : Stmt) : Scope := match s with
  | .FunctionDef _ _ _ _ _ _ sc _ _ _ => sc
  | _ => { kind := .function, names := [], isGenerator := false, isCoroutine := false }
abbrev CX0 : CXT := fun _ _ _ _ _ _ => False
abbrev E0 : XK := fun _ _ _ => False
theorem pass0 {X : Cx} : Passes CX0 X E0 := fun _ _ _ _ _ _ _ h => h.elim
structure Fun (K : PySem.W.Frag) (x qual : Str) (st : Stmt) (f : Addr) (fd : FuncData) : Prop where
  ex : ∃ (oc : Value) (od : Option Addr) (kV doc pm : Value) (an : Option Addr) (cdv ct : Value) (osl : Array (Option Value)),
    fd = PySem.W.fnOf x qual (defArgs st) (defBody st) (defScope st) .none kV doc pm an cdv ct ∧ K.lookup f = some ⟨oc, od, .func fd, osl⟩ ∧ PySem.W.codeIn K cdv qual = true
  kp : PySem.W.keepIn K (.ref f) = true
section
variable {P : Program} {w : World} {K : PySem.W.Frag} {mg : Str → Option Value} {base : Heap}
theorem Fun.ok {x qual : Str} {st : Stmt} {f : Addr} {fd : FuncData} {N ps : List Str} {k : Nat} {sp : Sp} (F : Fun K x qual st f fd) (S : FnScope N ps (defScope st)) (len : ∀ vs H Q E, sp vs H Q E → vs.length = ps.length)
    (hbody : ∀ (cdv : Value) (A : Around) (outer : List Env) (s : Shared) (H : Hp) (vs : List V) (Q : VK) (E : XK), Room k (A.deeper (envOfC qual (defScope st) s.heap.objs.size f cdv)) → sp vs H Q E →
      ∃ t, PSs (cxOf CX0 P w K mg base N qual (defScope st) f cdv A outer s H E).nox (defBody st) t ∧ t { nx := fun _ H' => Q .non H', rt := Q } (start N vs) H) : FnOk P w K mg base CX0 (k + 1) f fd ps sp := by
  obtain ⟨oc, od, kV, doc, pm, an, cdv, ct, osl, rfl, lk, hcd⟩ := F.ex
  refine fn_of lk hcd S len fun A outer s H vs Q E hr hsp => ?_
  obtain ⟨t, h, q⟩ := hbody cdv A outer s H vs Q E hr hsp
  exact ⟨t, h.nox, q⟩
theorem Fun.binds {x qual : Str} {st : Stmt} {f : Addr} {fd : FuncData} {ps : List Str} (F : Fun K x qual st f fd)
    (h : ∀ (kV doc pm : Value) (an : Option Addr) (cdv ct : Value) (us : List Value), us.length = ps.length → bindArgs (PySem.W.fnOf x qual (defArgs st) (defBody st) (defScope st) .none kV doc pm an cdv ct) ⟨us, []⟩ = pure (ps.zip us)) : Binds K fd ps [] := by
  obtain ⟨oc, od, kV, doc, pm, an, cdv, ct, osl, rfl, lk, hcd⟩ := F.ex
  exact .all (h kV doc pm an cdv ct)
theorem fun_mk {x qual : Str} {st : Stmt} {f : Addr} {oc : Value} {od an : Option Addr} {osl : Array (Option Value)} {kV doc pm cdv ct : Value} (l : K.lookup f = some ⟨oc, od, .func (PySem.W.fnOf x qual (defArgs st) (defBody st) (defScope st) .none kV doc pm an cdv ct), osl⟩)
    (c : PySem.W.codeIn K cdv qual = true) (k : PySem.W.keepIn K (.ref f) = true) : Fun K x qual st f (PySem.W.fnOf x qual (defArgs st) (defBody st) (defScope st) .none kV doc pm an cdv ct) := ⟨⟨oc, od, kV, doc, pm, an, cdv, ct, osl, rfl, l, c⟩, k⟩
end
section
variable {X : Cx}
end
def Same (H H' : Hp) : Prop := ∀ b o, H b = some o → H' b = some o
theorem Same.refl (H : Hp) : Same H H := fun _ _ h => h
theorem Same.trans {H H1 H2 : Hp} (a : Same H H1) (b : Same H1 H2) : Same H H2 := fun c o h => b c o (a c o h)
theorem Same.free {H H' : Hp} (e : Same H H') {l : Addr} (h : H' l = Option.none) : H l = Option.none := by
  cases q : H l with
  | none => rfl
  | some o =>
    rw [e l o q] at h
    cases h
theorem Same.seq {K : PySem.W.Frag} {H H' : Hp} {a : Addr} {xs : List V} (e : Same H H') (h : SqL K H a xs) : SqL K H' a xs := by
  rcases h with (h | ⟨o, h⟩) | h
  · exact .inl (.inl (e _ _ h))
  · exact .inl (.inr ⟨o, e _ _ h⟩)
  · exact .inr h
end L2
set_option Elab.async false
set_option linter.all false
set_option maxRecDepth 100000
set_option maxHeartbeats 4000000
namespace L2
open PySem PySem.Spec PyProof.Rows
def closL (env : Env) : List (Str × NameKind) → List (Str × Addr) → List (Str × Addr)
  | [], cs => cs
  | (n, k) :: r, cs => if k = NameKind.free then closL env r ((n, (env.cells.lookup n).getD 0) :: cs) else closL env r cs
theorem closureFor_eq {scope : Scope} {env : Env} (h : ∀ x ∈ scope.names, x.2 = .free → ∃ c, env.cells.lookup x.1 = some c) :
    closureFor scope env = pure (closL env scope.names []) := by
  have all : ∀ (l : List (Str × NameKind)) (cs : List (Str × Addr)), (∀ x ∈ l, x.2 = .free → ∃ c, env.cells.lookup x.1 = some c) →
      (forIn l cs (fun (x : Str × NameKind) (cs : List (Str × Addr)) => if (x.2 == NameKind.free) = true then (do let a ← cellOf env x.1; pure (ForInStep.yield ((x.1, a) :: cs))) else pure (ForInStep.yield cs)) : Sem (List (Str × Addr))) = pure (closL env l cs) := by
    intro l
    induction l with
    | nil => intro cs _; rfl
    | cons x l ih =>
      intro cs hx
      obtain ⟨n, k⟩ := x
      rw [List.forIn_cons]
      have hr := fun cs => ih cs (fun y hy => hx y (List.mem_cons_of_mem _ hy))
      by_cases hk : k = .free
      · subst hk
        obtain ⟨c, hc⟩ := hx (n, .free) List.mem_cons_self rfl
        have e : cellOf env n = pure c := by unfold cellOf; simp only [hc]
        simp only [beq_self_eq_true, if_true, e, pure_bind, hr, closL, hc, Option.getD_some]
      · have hb : (k == NameKind.free) = false := by simpa using hk
        simp only [hb, Bool.false_eq_true, if_false, pure_bind, hr, closL, hk]
  have := all scope.names [] h
  simp only [closureFor]
  rw [← bind_pure (pure (closL env scope.names []) : Sem _), ← this]
theorem closL_mem {env : Env} : ∀ (l : List (Str × NameKind)) (cs : List (Str × Addr)), (∀ x ∈ l, x.2 = .free → ∃ c, env.cells.lookup x.1 = some c) →
    (∀ p ∈ cs, env.cells.lookup p.1 = some p.2) → ∀ p ∈ closL env l cs, env.cells.lookup p.1 = some p.2
  | [], cs, _, h => h
  | (n, k) :: r, cs, hx, h => by
    have hr : ∀ x ∈ r, x.2 = .free → ∃ c, env.cells.lookup x.1 = some c := fun y hy => hx y (List.mem_cons_of_mem _ hy)
    by_cases hk : k = .free
    · subst hk
      obtain ⟨c, hc⟩ := hx (n, .free) List.mem_cons_self rfl
      simp only [closL, if_true]
      refine closL_mem r _ hr fun p hp => ?_
      rcases List.mem_cons.mp hp with e | hp
      · subst e; simp only [hc, Option.getD_some]
      · exact h p hp
    · simp only [closL, hk, if_false]
      exact closL_mem r cs hr h
theorem closL_has {env : Env} : ∀ (l : List (Str × NameKind)) (cs : List (Str × Addr)) (x : Str), ((x, NameKind.free) ∈ l ∨ ∃ c, (x, c) ∈ cs) → ∃ c, (x, c) ∈ closL env l cs
  | [], cs, x, h => by
    rcases h with h | h
    · cases h
    · exact h
  | (n, k) :: r, cs, x, h => by
    by_cases hk : k = .free
    · subst hk
      simp only [closL, if_true]
      refine closL_has r _ x ?_
      rcases h with h | ⟨c, h⟩
      · rcases List.mem_cons.mp h with e | h
        · cases e; exact .inr ⟨_, List.mem_cons_self⟩
        · exact .inl h
      · exact .inr ⟨c, List.mem_cons_of_mem _ h⟩
    · simp only [closL, hk, if_false]
      refine closL_has r cs x ?_
      rcases h with h | h
      · rcases List.mem_cons.mp h with e | h
        · cases e; exact absurd rfl hk
        · exact .inl h
      · exact .inr h
theorem lookup_has {β : Type} : ∀ {l : List (Str × β)} {x : Str} {c : β}, (x, c) ∈ l → ∃ d, l.lookup x = some d
  | [], _, _, h => by cases h
  | (n, b) :: r, x, c, h => by
    rw [List.lookup_cons]
    cases e : x == n with
    | true => exact ⟨b, rfl⟩
    | false =>
      rcases List.mem_cons.mp h with z | h
      · cases z; simp at e
      · exact lookup_has h
structure CompSc (own outs : List Str) (sc osc : Scope) : Prop where
  kind : sc.kind = .function
  nocell : ∀ x ∈ sc.names, x.2 ≠ .cell
  free : ∀ x ∈ sc.names, x.2 = .free → osc.names.lookup x.1 = some .cell ∨ osc.names.lookup x.1 = some .free
  loc : ∀ x ∈ sc.names, x.2 = .local → sc.names.lookup x.1 = some .local
  out : ∀ x ∈ outs, sc.names.lookup x = some .free
  nd : (own ++ outs).Nodup
theorem relabel_free {env : Env} : ∀ {names : List (Str × NameKind)} {x : Str}, names.lookup x = some .free →
    ((names.map fun (n, k) => if (k == NameKind.free && env.scope.kind == .function && env.kindOf n == some .cell) then (n, NameKind.cell) else (n, k)).lookup x = some .cell ∨
      (names.map fun (n, k) => if (k == NameKind.free && env.scope.kind == .function && env.kindOf n == some .cell) then (n, NameKind.cell) else (n, k)).lookup x = some .free)
  | [], _, h => by simp at h
  | (n, k) :: r, x, h => by
    have ih := @relabel_free env r x
    rw [List.map_cons]
    by_cases hc : (k == NameKind.free && env.scope.kind == .function && env.kindOf n == some .cell) = true
    · rw [show (match ((n, k) : Str × NameKind) with | (n, k) => if (k == NameKind.free && env.scope.kind == .function && env.kindOf n == some .cell) then (n, NameKind.cell) else (n, k)) = (n, NameKind.cell) from if_pos hc]
      rw [List.lookup_cons] at h ⊢
      cases hx : x == n with
      | true => exact .inl rfl
      | false => rw [hx] at h; exact ih h
    · rw [show (match ((n, k) : Str × NameKind) with | (n, k) => if (k == NameKind.free && env.scope.kind == .function && env.kindOf n == some .cell) then (n, NameKind.cell) else (n, k)) = (n, k) from if_neg hc]
      rw [List.lookup_cons] at h ⊢
      cases hx : x == n with
      | true => rw [hx] at h; exact .inr h
      | false => rw [hx] at h; exact ih h
theorem relabel_mem {env : Env} : ∀ {names : List (Str × NameKind)} {x : Str} {k : NameKind}, k = .cell ∨ k = .free → (∀ y ∈ names, y.2 ≠ .cell) →
    (names.map fun (n, k) => if (k == NameKind.free && env.scope.kind == .function && env.kindOf n == some .cell) then (n, NameKind.cell) else (n, k)).lookup x = some k → (x, NameKind.free) ∈ names
  | [], _, _, _, _, h => by simp at h
  | (n, j) :: r, x, k, hk, hn, h => by
    have ih := @relabel_mem env r x k hk fun y hy => hn y (List.mem_cons_of_mem _ hy)
    rw [List.map_cons] at h
    by_cases hc : (j == NameKind.free && env.scope.kind == .function && env.kindOf n == some .cell) = true
    · rw [show (match ((n, j) : Str × NameKind) with | (n, k) => if (k == NameKind.free && env.scope.kind == .function && env.kindOf n == some .cell) then (n, NameKind.cell) else (n, k)) = (n, NameKind.cell) from if_pos hc] at h
      rw [List.lookup_cons] at h
      cases hx : x == n with
      | true =>
        have e : x = n := by simpa using hx
        have ej : j = .free := by
          simp only [Bool.and_eq_true, beq_iff_eq] at hc
          exact hc.1.1
        subst e ej
        exact List.mem_cons_self
      | false => rw [hx] at h; exact List.mem_cons_of_mem _ (ih h)
    · rw [show (match ((n, j) : Str × NameKind) with | (n, k) => if (k == NameKind.free && env.scope.kind == .function && env.kindOf n == some .cell) then (n, NameKind.cell) else (n, k)) = (n, j) from if_neg hc] at h
      rw [List.lookup_cons] at h
      cases hx : x == n with
      | true =>
        rw [hx] at h
        have e : x = n := by simpa using hx
        have ej : j = k := Option.some.inj h
        subst e ej
        rcases hk with hk | hk
        · exact absurd hk (hn _ List.mem_cons_self)
        · subst hk; exact List.mem_cons_self
      | false => rw [hx] at h; exact List.mem_cons_of_mem _ (ih h)
def cxC (X : Cx) (own outs : List Str) (scope : Scope) (C : Addr) (s2 : Shared) (H2 : Hp) (fp : List Addr) (pins : List (Addr × Obj)) : Cx where
  prog := X.prog
  w := X.w
  K := X.K
  mg := X.mg
  base := X.base
  A := X.A
  N := own ++ outs
  s₀ := s2
  H₀ := H2
  env := compEnvC scope (closL X.env scope.names []) C X.env
  outer := X.stack
  stack := X.stack
  ex := fp
  fn := fun _ => false
  calm := X.calm
  pn := X.pn ++ pins
  xe := fun _ _ => False
def PFs (X : Cx) (ifs : List Expr) (tt : TT) : Prop :=
  ∀ (pins : List (Addr × Obj)) (s : Shared) (σ : St) (H : Hp) (Q : Bool → Hp → Prop), Inv X pins σ H s → tt σ H Q →
    wpAny (model X.prog X.w) X.A (forIn ifs true fun c r => if r = true then do let ok ← isTrue c X.env (eval c X.env); pure (ForInStep.yield ok) else pure (ForInStep.yield r)) (TP X pins σ Q) X.xe s
def tYes : TT := fun _ H Q => Q true H
theorem pf_nil {X : Cx} : PFs X [] tYes := fun _ _ _ H _ I h => wpAny_tests_nil ⟨H, I, h⟩
theorem pf_one {X : Cx} {c : Expr} {tt : TT} (h : PT X c tt) : PFs X [c] tt := fun pins s σ H Q I q => wpAny_tests_one (h pins s σ H Q I q)
def startC (k : Nat) (oix : List Nat) (σ : St) : St := List.replicate k none ++ oix.map fun j => (σ[j]?).join
def tTurns (k : Nat) (oix : List Nat) (g : TG) (tt : TT) (te : TE) (J : It) (σ : St) (H : Hp) (Q : VK) : Prop :=
  ∃ (n : Nat) (W : Nat → List V → Hp → Prop), W 0 [] H ∧ ∀ i ys H2, W i ys H2 →
    (J.stop i H2 ∧ ys.length ≤ sizeLine ∧ ∀ p, H2 p = none → Q (.ref p) (upd H2 p (.lst ys))) ∨
    (J.go i H2 ∧ i < n ∧ ys.length < sizeLine ∧ ∃ N : List V → Hp → Prop, (∀ ys' H', N ys' H' → W (i + 1) ys' H') ∧ ∀ x H3, J.yld i H2 x H3 → g x (startC k oix σ) H3 fun σ4 H4 => σ4.drop k = (startC k oix σ).drop k ∧
      tt σ4 H4 fun b H5 => if b = true then te σ4 H5 fun y H6 => N (ys ++ [y]) H6 else N ys H5)
def tComp (k : Nat) (oix : List Nat) (wi : TI) (g : TG) (tt : TT) (te : TE) : TE := fun σ H Q => wi σ H fun J H1 => tTurns k oix g tt te J σ H1 Q
def lobj (its : List Value) (n : Nat) : Obj := { cls := .type "list", data := .seq its.toArray n }
theorem HOk.track {P : Program} {w : World} {H : Hp} {h : Heap} {a : Addr} {o : HO} (x : HOk P w H h) (hn : H a = none) (new : ObjOk P w (upd H a o) h a o) : HOk P w (upd H a o) h := fun b u e => by
  by_cases hb : b = a
  · subst hb; rw [upd_same] at e; cases e; exact new
  · rw [upd_ne hb] at e
    exact (x b u e).stay (fun c v _ q => q) (fun c q => by rw [upd_ne (ne_of_none q hn)]; exact q) fun c xs q => by rw [upd_ne (ne_of_none q hn)]; exact q
theorem comp_core {X : Cx} {pins : List (Addr × Obj)} {σ : St} {H2 : Hp} {s2 : Shared} {tg elt iter : Expr} {ifs : List Expr} {scope : Scope} {pos : Pos} {J : It} {fp : List Addr} {it : Addr} {tn : Nat → Heap → Prop}
    {own outs : List Str} {oix : List Nat} {g : TG} {tt : TT} {te : TE} {Q : VK} {E : Value → Shared → Prop} {RR : Value → Addr → Result → Shared → Prop}
    (S : CompSc own outs scope X.env.scope) (hox : oix.map (fun j => X.N[j]?) = outs.map some) (hc : X.calm = true)
    (hg : ∀ C s2 H2 fp pins, PG (cxC X own outs scope C s2 H2 fp pins) tg g)
    (ht : ∀ C s2 H2 fp pins, PFs (cxC X own outs scope C s2 H2 fp pins) ifs tt)
    (he : ∀ C s2 H2 fp pins, PE (cxC X own outs scope C s2 H2 fp pins) elt te)
    (I2 : Inv X pins σ H2 s2) (T : Turn X.prog X.w X.K tg J fp it tn) (st : tn 0 s2.heap) (f2 : ∀ b ∈ fp, FpOk X pins H2 b)
    (h : tTurns own.length oix g tt te J σ H2 Q)
    (hRR : ∀ (C : Addr) (s' : Shared) (m : Str → Option Value) (H' : Hp), s'.heap.Ns C m → Inv X pins σ H' s' → H' C = none → C ≠ X.env.locals → X.s₀.heap.objs.size ≤ C →
      (∀ x c, X.env.cells.lookup x = some c → c ≠ C) → (∀ p ∈ X.pn ++ pins, p.1 ≠ C) → Q (.ref s2.heap.objs.size) H' → RR (.ref s2.heap.objs.size) C (.ok .next) s') :
    wpAny (model X.prog X.w) X.A (newList []) (fun acc s₃ => wpAny (model X.prog X.w) X.A (newFunctionEnv scope X.env.globals (closL X.env scope.names []) [] X.env.qual none .none (some X.env)) (fun cenv s₄ =>
      codeAny (model X.prog X.w) X.A (.compStart (.ListComp elt [⟨tg, iter, ifs, 0⟩] scope pos) 0 (.ref it) acc { cenv with scope := relabel scope X.env }) (RR acc cenv.locals) s₄) E s₃) E s2 := by
  obtain ⟨n, W, w0, turn⟩ := h
  refine wpAny_newObj_type (wpAny_newFunctionEnv S.nocell (by intro y hy; simp at hy) (fun h₁ hns₁ hsb₁ => ?_) S.kind)
  dsimp only at hns₁ hsb₁ ⊢
  generalize hP : s2.heap.push { cls := .type "list", dict := none, data := .seq ([] : List Value).toArray } = hp at hns₁ hsb₁ ⊢
  have hC : hp.objs.size = s2.heap.objs.size + 1 := by rw [← hP, Heap.size_push]
  generalize hCC : hp.objs.size = C at hns₁ hsb₁ hC ⊢
  have hDC : s2.heap.objs.size ≠ C := by rw [hC]; exact Nat.ne_of_lt (Nat.lt_succ_self _)
  have hDC' : s2.heap.objs.size < C := by rw [hC]; exact Nat.lt_succ_self _
  have old : ∀ b o, s2.heap.get? b = some o → h₁.get? b = some o := fun b o e =>
    hsb₁.extBut b o (Nat.ne_of_lt (Nat.lt_trans (Heap.lt_size e) hDC')) (Heap.get?_push_of_some _ (hP ▸ Heap.get?_push_of_some _ e))
  have hacc : h₁.get? s2.heap.objs.size = some (lobj [] 0) := hsb₁.extBut _ _ hDC (Heap.get?_push_of_some _ (hP ▸ Heap.get?_push_size _ rfl))
  -- the cells of the closure are cells of the frame
  have hcells : ∀ x ∈ scope.names, x.2 = .free → ∃ c, X.env.cells.lookup x.1 = some c := fun x hx hf => I2.ok.has x.1 (S.free x hx hf)
  have clX : ∀ x c, (closL X.env scope.names []).lookup x = some c → X.env.cells.lookup x = some c := fun x c e =>
    closL_mem scope.names [] hcells (fun p hp => by cases hp) (x, c) (PySem.mem_of_lookup e)
  have clHas : ∀ x, (x, NameKind.free) ∈ scope.names → ∃ c, (closL X.env scope.names []).lookup x = some c := fun x hx => by
    obtain ⟨c, hc⟩ := closL_has (env := X.env) scope.names [] x (.inl hx)
    exact lookup_has hc
  have fpLt : ∀ b ∈ fp, b < s2.heap.objs.size := fun b hb => by
    obtain ⟨o, e, _⟩ := T.obj 0 _ st b hb
    exact Heap.lt_size e
  have cLt : ∀ x c, X.env.cells.lookup x = some c → c < s2.heap.objs.size := fun x c e => by
    obtain ⟨v, q⟩ := I2.cell x c e
    exact q.lt
  have fpStk : ∀ b ∈ fp, b ∉ frs X.stack := fun b hb z => by
    rcases List.mem_cons.mp (I2.stkSub b z) with e | z
    · exact (f2 b hb).2.1 e
    · exact (f2 b hb).2.2.1 z
  have pinLt : ∀ p ∈ X.pn ++ pins, p.1 < s2.heap.objs.size := fun p hp => Heap.lt_size (I2.pin p hp).1
  have pinStk : ∀ p ∈ X.pn ++ pins, p.1 ∉ frs X.stack := fun p hp z => by
    rcases List.mem_cons.mp (I2.stkSub _ z) with e | z
    · exact (I2.pin p hp).2.2.1 e
    · exact (I2.pin p hp).2.2.2.1 z
  have fsLt : ∀ b ∈ frs X.stack, b < s2.heap.objs.size := fun b hb => by
    obtain ⟨_, o, ho, _⟩ := I2.stack.mem hb
    exact Heap.lt_size ho
  let Y : Cx := cxC X own outs scope C s2 H2 fp pins
  have okY : Y.Ok := {
    mod := I2.ok.mod
    kind := S.kind
    glob := I2.ok.glob
    blt := I2.ok.blt
    above := Nat.le_of_lt hDC'
    inj := fun x y c h1 h2 => I2.ok.inj x y c (clX x c h1) (clX y c h2)
    has := fun x hx => by
      refine clHas x ?_
      rcases hx with hx | hx
      · exact relabel_mem (env := X.env) (.inl rfl) S.nocell hx
      · exact relabel_mem (env := X.env) (.inr rfl) S.nocell hx
    cab := fun x c hf _ => absurd (show false = true from hf) Bool.false_ne_true
    hd := I2.ok.hd
    frames := I2.ok.frames
    stk := .inl rfl
    exf := fun b hb => ⟨Nat.ne_of_lt (Nat.lt_trans (fpLt b hb) hDC'), fun x c e => (f2 b hb).2.2.2.2.1 x c (clX x c e)⟩
    bs := I2.bs
    bsz := Nat.le_trans I2.ok.bsz I2.sz
    noex := fun b o e hb => by
      rcases (f2 b hb).2.2.2.1 with z | z
      · exact I2.ok.noex b o e z
      · exact absurd (Nat.lt_of_lt_of_le (Heap.lt_size e) (Nat.le_trans I2.ok.bsz z)) (Nat.lt_irrefl _)
    exfs := fpStk
    funs := I2.stack
    frf := I2.stkFree }
  have hCH : ∀ H' : Hp, HOk X.prog X.w H' h₁ → True := fun _ _ => trivial
  have lenS : (startC own.length oix σ).length = Y.N.length := by
    have e := congrArg List.length hox
    simp only [List.length_map] at e
    show (List.replicate own.length none ++ oix.map _).length = (own ++ outs).length
    rw [List.length_append, List.length_append, List.length_replicate, List.length_map, e]
  have I4 : Inv Y [(s2.heap.objs.size, lobj [] 0)] (startC own.length oix σ) H2 { s2 with heap := h₁ } := {
    ok := okY
    os := rfl
    bare := I2.bare
    base := Un.kept old
    loc := by
      refine ⟨_, hns₁, fun i x v e1 e2 e3 => ?_⟩
      -- an outer name
      have hi : own.length ≤ i := by
        apply Nat.le_of_not_lt
        intro hlt
        unfold startC at e2
        rw [List.getElem?_append_left (by rw [List.length_replicate]; exact hlt), List.getElem?_replicate] at e2
        rw [if_pos hlt] at e2
        cases e2
      unfold startC at e2
      rw [List.getElem?_append_right (by rw [List.length_replicate]; exact hi), List.length_replicate, List.getElem?_map] at e2
      have e1' : outs[i - own.length]? = some x := by
        have e1 : (own ++ outs)[i]? = some x := e1
        rwa [List.getElem?_append_right hi] at e1
      cases ej : oix[i - own.length]? with
      | none => rw [ej] at e2; cases e2
      | some j =>
        rw [ej] at e2
        have e2' : (σ[j]?).join = some v := Option.some.inj e2
        have e2'' : σ[j]? = some (some v) := by
          cases eσ : σ[j]? with
          | none => rw [eσ] at e2'; cases e2'
          | some z => rw [eσ] at e2'; exact congrArg some e2'
        have eN : X.N[j]? = some x := by
          have q := congrArg (fun l => l[i - own.length]?) hox
          simp only [List.getElem?_map, ej, e1', Option.map_some] at q
          exact Option.some.inj q
        have hfree : scope.names.lookup x = some .free := S.out x (List.mem_of_getElem? e1')
        have hmem : (x, NameKind.free) ∈ scope.names := PySem.mem_of_lookup hfree
        have hk : X.env.scope.names.lookup x = some .cell ∨ X.env.scope.names.lookup x = some .free := S.free (x, .free) hmem rfl
        obtain ⟨m, hn, hl⟩ := I2.loc
        obtain ⟨u, r, l⟩ := hl j x v eN e2'' (by rcases hk with hk | hk; exact .inr (.inl hk); exact .inr (.inr hk))
        refine ⟨u, r, .inr ⟨relabel_free (env := X.env) hfree, ?_⟩⟩
        obtain ⟨c, ec⟩ := clHas x hmem
        refine ⟨c, ec, ?_⟩
        have ec' := clX x c ec
        rcases l with ⟨k, _⟩ | ⟨_, c', e', o, ho, hd⟩
        · rcases hk with hk | hk
          · exact absurd (k.symm.trans hk) (by decide)
          · exact absurd (k.symm.trans hk) (by decide)
        · rw [ec'] at e'
          cases e'
          exact ⟨o, old _ _ ho, hd⟩
    cell := fun x c e => by
      obtain ⟨v, o, ho, hd⟩ := I2.cell x c (clX x c e)
      exact ⟨v, o, old _ _ ho, hd⟩
    free := I2.hok.fresh (Nat.le_of_lt hDC')
    freeC := fun x c e => I2.freeC x c (clX x c e)
    pin := fun p hp => by
      rcases List.mem_append.mp hp with hp | hp
      · obtain ⟨e, n, _, _, d⟩ := I2.pin p hp
        exact ⟨old _ _ e, n, Nat.ne_of_lt (Nat.lt_trans (pinLt p hp) hDC'), pinStk p hp, d⟩
      · have e : p = (s2.heap.objs.size, lobj [] 0) := by simpa using hp
        subst e
        refine ⟨hacc, I2.hok.fresh (Nat.le_refl _), hDC, fun z => absurd (fsLt _ z) (Nat.lt_irrefl _), fun v z => ?_⟩
        have z' : Data.seq _ _ = Data.cell v := z
        cases z'
    hok := I2.hok.kept old
    len := lenS }
  -- what stays of the iterator's records
  have fpY : ∀ {H' : Hp} {its : List Value} {k : Nat}, (∀ b ∈ fp, H' b = none) → ∀ b ∈ fp, FpOk Y [(s2.heap.objs.size, lobj its k)] H' b := fun {H' its k} hn b hb => by
    refine ⟨hn b hb, Nat.ne_of_lt (Nat.lt_trans (fpLt b hb) hDC'), fpStk b hb, .inl hb, fun x c e => (f2 b hb).2.2.2.2.1 x c (clX x c e), fun p hp => ?_⟩
    rcases List.mem_append.mp hp with hp | hp
    · exact (f2 b hb).2.2.2.2.2 p hp
    · have e : p = (s2.heap.objs.size, lobj its k) := by simpa using hp
      subst e
      exact Nat.ne_of_gt (fpLt b hb)
  -- the end
  have fin : ∀ (i : Nat) (ys : List V) (its : List Value) (k : Nat) (H' : Hp) (s' : Shared), Inv Y [(s2.heap.objs.size, lobj its k)] (startC own.length oix σ) H' s' → Vals ys its → ys.length ≤ sizeLine →
      Q (.ref s2.heap.objs.size) (upd H' s2.heap.objs.size (.lst ys)) → RR (.ref s2.heap.objs.size) C (.ok .next) s' := fun i ys its k H' s' I' rv hz q => by
    obtain ⟨m, hn, _⟩ := I'.loc
    obtain ⟨eD, nD, _⟩ := I'.pin (s2.heap.objs.size, lobj its k) (List.mem_append_right _ (by simp))
    have un : Un (frs X.stack) fp H2 H' s2.heap s'.heap := I'.base
    have neD : ∀ b o, s2.heap.get? b = some o → b ≠ s2.heap.objs.size := fun b o e => Nat.ne_of_lt (Heap.lt_size e)
    have neH : ∀ b o, H2 b = some o → b ≠ s2.heap.objs.size := fun b o e => Nat.ne_of_lt (I2.hok.lt e)
    have un' : Un (frs X.stack) fp H2 (upd H' s2.heap.objs.size (.lst ys)) s2.heap s'.heap :=
      ⟨un.keep, un.slot, fun b o e n hx => by rw [upd_ne (neD b o e)]; exact un.free b o e n hx, un.there, fun b xs e => by rw [upd_ne (neH b _ e)]; exact un.tups b xs e,
        fun b o u e => by rw [upd_ne (neH b _ e)]; exact un.frzs b o u e, fun b ps e => by rw [upd_ne (neH b _ e)]; exact un.tbls b ps e⟩
    have hok' : HOk X.prog X.w (upd H' s2.heap.objs.size (.lst ys)) s'.heap := HOk.track I'.hok nD ⟨hz, its, k, rv, eD⟩
    have IX : Inv X pins σ (upd H' s2.heap.objs.size (.lst ys)) s' := I2.call' (ch := fp) I'.os un' hok' I'.bare fun b hb => ⟨(f2 b hb).2.2.2.1, (f2 b hb).2.1, (f2 b hb).2.2.2.2.1, (f2 b hb).2.2.2.2.2⟩
    refine hRR C s' m _ hn IX ?_ ?_ ?_ ?_ ?_ q
    · rw [upd_ne (Ne.symm hDC)]; exact I'.free
    · exact Nat.ne_of_gt (Nat.lt_trans I2.lt hDC')
    · exact Nat.le_trans I2.sz (Nat.le_of_lt hDC')
    · exact fun x c e => Nat.ne_of_lt (Nat.lt_trans (cLt x c e) hDC')
    · exact fun p hp => Nat.ne_of_lt (Nat.lt_trans (pinLt p hp) hDC')
  have loop : codeAny (model X.prog X.w) X.A (.compLoop (.ListComp elt [⟨tg, iter, ifs, 0⟩] scope pos) 0 (.ref it) (.ref s2.heap.objs.size) Y.env) (RR (.ref s2.heap.objs.size) C) { s2 with heap := h₁ } := by
    refine codeAny_loop rfl (fun k s' => ∃ (i : Nat) (ys : List V) (its : List Value) (c : Nat) (H' : Hp), Inv Y [(s2.heap.objs.size, lobj its c)] (startC own.length oix σ) H' s' ∧ Vals ys its ∧ tn i s'.heap ∧ (∀ b ∈ fp, H' b = none) ∧ W i ys H' ∧ k = n - i) (fun k s' hI => ?_) n
      ⟨0, [], [], 0, H2, I4, .nil, T.keep 0 _ _ st fun b _ o e => old b o e, fun b hb => (f2 b hb).1, w0, rfl⟩
    show wpAny _ X.A ((compTurn (.ListComp elt [⟨tg, iter, ifs, 0⟩] scope pos) 0 (.ref it) (.ref s2.heap.objs.size) Y.env).onRaise (fun x => do noteFrame x Y.env; theTreesLotGoes x)) _ _ s'
    refine wpAny_noted ?_
    rw [compTurn_list]
    obtain ⟨i, ys, its, c, H', I', rv, st', fr', w', ek⟩ := hI
    rcases turn i ys H' w' with ⟨stop, hz, q⟩ | ⟨go, hin, hz, N, hN, step⟩
    · refine wpAny_bind (wpAny_standAt (wpAny_bind (thn (T.done Y rfl rfl rfl hc i _ s' _ H' _ I' (fpY fr') st' stop) fun r s1 ⟨hr, I1⟩ => ?_)))
      subst hr
      obtain ⟨_, nD, _⟩ := I1.pin (s2.heap.objs.size, lobj its c) (List.mem_append_right _ (by simp))
      exact wpAny_pure (fin i ys its c H' s1 I1 rv hz (q _ nD))
    · refine wpAny_bind (wpAny_standAt (wpAny_bind (thn (T.item Y rfl rfl rfl hc i _ s' _ H' _ I' (fpY fr') st' go) fun r s1 ⟨u, hr, h1⟩ => ?_)))
      subst hr
      refine wpAny_bind (thn h1 fun _ s5 ⟨x, H5, I5, r5, y5, st5, fr5⟩ => ?_)
      have I5' := I5.pinned (fpY fr5) (T.obj _ _ st5)
      refine wpAny_bind (wpAny_noRaise (thn (hg C s2 H2 fp pins _ s5 _ H5 x u _ I5' r5 (step x H5 y5)) fun _ s6 ⟨σ6, H6, I6, dr6, q6⟩ => ?_))
      refine wpAny_bind (wpAny_noRaise (thn (ht C s2 H2 fp pins _ s6 σ6 H6 _ I6 q6) fun ok s7 ⟨H7, I7, q7⟩ => ?_))
      -- back to the begin of a turn
      have back : ∀ {H8 : Hp} {s8 : Shared} {its8 : List Value} {c8 : Nat}, Inv Y ([(s2.heap.objs.size, lobj its8 c8)] ++ pinsAt fp s5.heap) σ6 H8 s8 →
          Inv Y [(s2.heap.objs.size, lobj its8 c8)] (startC own.length oix σ) H8 s8 ∧ tn (i + 1) s8.heap ∧ ∀ b ∈ fp, H8 b = none := fun {H8 s8 its8 c8} I8 => by
        refine ⟨I8.unpinned.weak ?_ fun j v e => ?_, T.keep _ _ _ st5 fun b hb o e => (I8.pin (b, o) (List.mem_append_right _ (List.mem_append_right _ (mem_pinsAt hb e)))).1, fun b hb => ?_⟩
        · exact lenS.trans I8.len.symm
        · have hj : own.length ≤ j := by
            apply Nat.le_of_not_lt
            intro hlt
            unfold startC at e
            rw [List.getElem?_append_left (by rw [List.length_replicate]; exact hlt), List.getElem?_replicate] at e
            rw [if_pos hlt] at e
            cases e
          have e' := congrArg (fun l => l[j - own.length]?) dr6
          simp only [List.getElem?_drop] at e'
          rw [show own.length + (j - own.length) = j by omega] at e'
          exact e'.trans e
        · obtain ⟨o, e, d⟩ := T.obj _ _ st5 b hb
          exact (I8.pin (b, o) (List.mem_append_right _ (List.mem_append_right _ (mem_pinsAt hb e)))).2.1
      cases ok with
      | false =>
        obtain ⟨I8, st8, fr8⟩ := back I7
        exact wpAny_pure ⟨rfl, n - (i + 1), by omega, i + 1, ys, its, c, H7, I8, rv, st8, fr8, hN _ _ q7, rfl⟩
      | true =>
        refine wpAny_bind (wpAny_bind (wpAny_noRaise (thn (he C s2 H2 fp pins _ s7 σ6 H7 _ I7 q7) fun y s8 ⟨z, H8, I8, r8, w8⟩ => ?_)))
        obtain ⟨eD, nD, neL, nF, dD⟩ := I8.pin (s2.heap.objs.size, lobj its c) (List.mem_append_right _ (List.mem_append_left _ (by simp)))
        have hl := rv.length
        refine wpAny_bind (call_meets F.slot_list_append ⟨_, eD, rfl⟩ F.entry_list_append (F.args_list_append_2 _ _) (PySem.list_append _ its.toArray c y (by rw [List.size_toArray]; omega)) ⟨eD, ?_⟩)
        obtain ⟨n', q⟩ : ∃ n', (s8.heap.update s2.heap.objs.size (Obj.mapSeq (·.push y))).get? s2.heap.objs.size = some (lobj (its ++ [y]) n') := by
          have q := PySem.IsL.update eD (·.push y)
          rw [show its.toArray.push y = (its ++ [y]).toArray by simp] at q
          exact ⟨_, q⟩
        have I9 : Inv Y (pinsAt fp s5.heap) σ6 H8 { s8 with heap := s8.heap.update s2.heap.objs.size (Obj.mapSeq (·.push y)) } :=
          (I8.pins_of fun p hp => I8.pin p (List.mem_append_right _ (List.mem_append_right _ hp))).turned (t' := s8.toks) (it := s2.heap.objs.size) (fun b o hb e => (Heap.get?_update_other _ _ (Ne.symm hb)).trans e) nD hDC (.inr (Nat.le_refl _))
            (fun x c' e => Nat.ne_of_lt (cLt x c' (clX x c' e))) fun p hp => by
              rcases List.mem_append.mp hp with hp | hp
              · exact Nat.ne_of_lt (pinLt p hp)
              · exact Nat.ne_of_lt (fpLt _ (of_pinsAt hp).1)
        have I10 : Inv Y ([(s2.heap.objs.size, lobj (its ++ [y]) n')] ++ pinsAt fp s5.heap) σ6 H8 { s8 with heap := s8.heap.update s2.heap.objs.size (Obj.mapSeq (·.push y)) } := I9.pins_of fun p hp => by
          rcases List.mem_append.mp hp with hp | hp
          · have e : p = (s2.heap.objs.size, lobj (its ++ [y]) n') := by simpa using hp
            subst e
            exact ⟨q, nD, neL, nF, fun v z => by
              have z' : Data.seq _ _ = Data.cell v := z
              cases z'⟩
          · exact I9.pin p (List.mem_append_right _ hp)
        obtain ⟨I11, st11, fr11⟩ := back I10
        exact wpAny_pure (wpAny_pure ⟨rfl, n - (i + 1), by omega, i + 1, ys ++ [z], its ++ [y], _, H8, I11, rv.append (.cons r8 .nil), st11, fr11, hN _ _ w8, rfl⟩)
  exact codeAny_compStart_list loop (T.self _ 0 _ _ _ (T.keep 0 _ _ st fun b _ o e => old b o e) loop)
section
variable {X : Cx} {tg elt iter : Expr} {ifs : List Expr} {scope : Scope} {pos : Pos} {oix : List Nat} {wi : TI} {g : TG} {tt : TT} {te : TE}
theorem pe_comp (own outs : List Str) (oix : List Nat) (S : CompSc own outs scope X.env.scope) (hox : oix.map (fun j => X.N[j]?) = outs.map some) (hc : X.calm = true) (hi : PI X tg iter wi)
    (hg : ∀ C s2 H2 fp pins, PG (cxC X own outs scope C s2 H2 fp pins) tg g)
    (ht : ∀ C s2 H2 fp pins, PFs (cxC X own outs scope C s2 H2 fp pins) ifs tt)
    (he : ∀ C s2 H2 fp pins, PE (cxC X own outs scope C s2 H2 fp pins) elt te)
    (hs : ∀ x, foldedSetIterable iter X.env x = pure x := by intro _; rfl) :
    PE X (.ListComp elt [⟨tg, iter, ifs, 0⟩] scope pos) (tComp own.length oix wi g tt te) := by
  intro pins s σ H Q I h
  rw [eval_ListComp]
  refine wpAny_comprehension_free (use := none) rfl hs (closureFor_eq fun x hx hf => I.ok.has x.1 (S.free x hx hf)) S.kind S.loc (thn (hi pins s σ H _ I h) fun xv s₁ h₁ => thn h₁ fun itv s₂ h₂ => ?_)
  obtain ⟨it, fp, tn, J, H2, e, I2, T, st2, f2, turns⟩ := h₂
  subst e
  refine comp_core (RR := fun acc C => compPost (model X.prog X.w) X.A X.xe none (EP X pins σ Q) acc C) S hox hc hg ht he I2 T st2 f2 turns ?_
  intro C s' m H' hn I' hC hL h0 hcell hpin q
  exact ⟨m, hn, fun h' hs' => ⟨.ref _, H', I'.turned (h' := h') (t' := s'.toks) (it := C) (fun b o hb e => hs'.extBut b o hb e) hC hL (.inr h0) hcell hpin, rfl, q⟩⟩
theorem ps_setComp (own outs : List Str) (oix : List Nat) {i : Nat} {x : Str} {pos' spos : Pos} (S : CompSc own outs scope X.env.scope) (hox : oix.map (fun j => X.N[j]?) = outs.map some) (hc : X.calm = true)
    (hN : X.N.Nodup) (hix : X.N[i]? = some x) (hx : X.env.scope.names.lookup x = some .local) (hi : PI X tg iter wi)
    (hg : ∀ C s2 H2 fp pins, PG (cxC X own outs scope C s2 H2 fp pins) tg g)
    (ht : ∀ C s2 H2 fp pins, PFs (cxC X own outs scope C s2 H2 fp pins) ifs tt)
    (he : ∀ C s2 H2 fp pins, PE (cxC X own outs scope C s2 H2 fp pins) elt te)
    (hsw : swapsWith (.ListComp elt [⟨tg, iter, ifs, 0⟩] scope pos) (some (.Name x pos')) spos.line X.env = pure true := by rfl)
    (hs : ∀ x, foldedSetIterable iter X.env x = pure x := by intro _; rfl) :
    PS X (.Assign [.Name x pos'] (.ListComp elt [⟨tg, iter, ifs, 0⟩] scope pos) spos) (tAsg (tComp own.length oix wi g tt te) (gName i)) := by
  intro pins s σ H D I h
  rw [exec_Assign_Name_used _ _ _ _ hsw]
  refine wpAny_bind (wpAny_standAt (wpAny_bind ?_))
  show wpAny _ X.A (do let _ ← comprehension (.ListComp elt [⟨tg, iter, ifs, 0⟩] scope pos) scope X.env _ (newList []) false (eval iter X.env) (some (assign (.Name x pos') X.env))) _ _ s
  refine wpAny_bind (wpAny_mono (wpAny_comprehension_free (use := some (assign (.Name x pos') X.env)) (Q := fun _ s' => SP X pins D .next s') rfl hs (closureFor_eq fun y hy hf => I.ok.has y.1 (S.free y hy hf)) S.kind S.loc
    (thn (hi pins s σ H _ I h) fun xv s₁ h₁ => thn h₁ fun itv s₂ h₂ => ?_)) (fun _ s' hq => wpAny_pure (wpAny_pure hq)) fun _ _ e => e)
  obtain ⟨it, fp, tn, J, H2, e, I2, T, st2, f2, turns⟩ := h₂
  subst e
  refine comp_core (RR := fun acc C => compPost (model X.prog X.w) X.A X.xe (some (assign (.Name x pos') X.env)) (fun _ s' => SP X pins D .next s') acc C) S hox hc hg ht he I2 T st2 f2 turns ?_
  intro C s' m H' hn I' hC hL h0 hcell hpin q
  show wpAny _ X.A (assign (.Name x pos') X.env (.ref s₂.heap.objs.size)) _ _ s'
  refine wpAny_assign_Name (store_ok2 (v := .ref s₂.heap.objs.size) I' hN hix (.inl hx) rfl (fun s'' I'' hsb => ?_) (.inr hx))
  obtain ⟨a, hsb, ha⟩ := hsb
  have hCa : C ≠ a := by
    rcases ha with e | e
    · rw [e]; exact hL
    · exact Ne.symm (hcell _ _ e)
  exact ⟨m, hn.sameBut hsb hCa, fun h' hs' => ⟨_, H', I''.turned (h' := h') (t' := s''.toks) (it := C) (fun b o hb e => hs'.extBut b o hb e) hC hL (.inr h0) hcell hpin, q⟩⟩
end
section
variable {K : PySem.W.Frag} {k : Nat} {oix : List Nat} {g : TG} {tt : TT} {te : TE} {σ : St} {H : Hp} {Q : VK}
end
def Its (x : Str) : It := ⟨fun i _ => i < x.cps.size, fun i H v H' => H' = H ∧ ∃ c, x.cps[i]? = some c ∧ v = .str ⟨#[c]⟩, fun i _ => x.cps.size ≤ i⟩
theorem turn_ascii {P : Program} {w : World} {K : PySem.W.Frag} {tg : Expr} (it : Addr) (x : Str) (t : Tok) : Turn P w K tg (Its x) [it] it (fun i h => h.IsStrIter it "str_ascii_iterator" x t i) where
  mem := by simp
  obj := fun i h st b hb => by
    have e : b = it := by simpa using hb
    subst e
    obtain ⟨o, e, c, d⟩ := st
    exact ⟨o, e, fun v z => by rw [d] at z; cases z⟩
  keep := fun i h h' st k => by
    obtain ⟨o, e, r⟩ := st
    exact ⟨o, k it (by simp) o e, r⟩
  item := by
    intro X hP hw hK hc i pins s σ H E I hf st hg
    subst hP hw hK
    obtain ⟨f0, f1, f2, f3, f4, f5⟩ := hf it (by simp)
    have hg' : i < x.cps.size := hg
    refine wpAny_pyNext_ascii_item st (c := x.cps[i]) (by simp [hg']) fun h' st' sb => ?_
    have I1 : Inv X pins σ H { s with heap := h', toks := s.toks + 1 } := I.turned (t' := s.toks + 1) (fun b o hb e => (sb.2 b hb).trans e) f0 f1 f3 f4 f5
    obtain ⟨o, e, c, d⟩ := id st'
    exact ⟨_, rfl, go_of (s := { s with heap := h', toks := s.toks + 1 }) e c d (by decide) ⟨.str ⟨#[x.cps[i]]⟩, H, I1, ⟨_, rfl⟩, ⟨rfl, _, by simp [hg'], rfl⟩, st', fun b hb => (hf b hb).1⟩⟩
  done := by
    intro X hP hw hK hc i pins s σ H E I hf st hg
    subst hP hw hK
    obtain ⟨f0, f1, f2, f3, f4, f5⟩ := hf it (by simp)
    have hg' : x.cps.size ≤ i := hg
    exact wpAny_pyNext_ascii_end (I.ok.hd hc) st (by simp [hg']) fun h' eb => ⟨rfl, I.turned (t' := s.toks) (fun b o hb e => eb b o hb e) f0 f1 f3 f4 f5⟩
  self := fun _ _ _ _ _ st h => wpAny_pyIter_striter_ascii st h
theorem turn_wide {P : Program} {w : World} {K : PySem.W.Frag} {tg : Expr} (it : Addr) (x : Str) (t : Tok) : Turn P w K tg (Its x) [it] it (fun i h => h.IsStrIter it "str_iterator" x t i) where
  mem := by simp
  obj := fun i h st b hb => by
    have e : b = it := by simpa using hb
    subst e
    obtain ⟨o, e, c, d⟩ := st
    exact ⟨o, e, fun v z => by rw [d] at z; cases z⟩
  keep := fun i h h' st k => by
    obtain ⟨o, e, r⟩ := st
    exact ⟨o, k it (by simp) o e, r⟩
  item := by
    intro X hP hw hK hc i pins s σ H E I hf st hg
    subst hP hw hK
    obtain ⟨f0, f1, f2, f3, f4, f5⟩ := hf it (by simp)
    have hg' : i < x.cps.size := hg
    refine wpAny_pyNext_wide_item st (c := x.cps[i]) (by simp [hg']) fun h' st' sb => ?_
    have I1 : Inv X pins σ H { s with heap := h', toks := s.toks + 1 } := I.turned (t' := s.toks + 1) (fun b o hb e => (sb.2 b hb).trans e) f0 f1 f3 f4 f5
    obtain ⟨o, e, c, d⟩ := id st'
    exact ⟨_, rfl, go_of (s := { s with heap := h', toks := s.toks + 1 }) e c d (by decide) ⟨.str ⟨#[x.cps[i]]⟩, H, I1, ⟨_, rfl⟩, ⟨rfl, _, by simp [hg'], rfl⟩, st', fun b hb => (hf b hb).1⟩⟩
  done := by
    intro X hP hw hK hc i pins s σ H E I hf st hg
    subst hP hw hK
    obtain ⟨f0, f1, f2, f3, f4, f5⟩ := hf it (by simp)
    have hg' : x.cps.size ≤ i := hg
    exact wpAny_pyNext_wide_end (I.ok.hd hc) st (by simp [hg']) fun h' eb => ⟨rfl, I.turned (t' := s.toks) (fun b o hb e => eb b o hb e) f0 f1 f3 f4 f5⟩
  self := fun _ _ _ _ _ st h => wpAny_pyIter_striter_wide st h
section
variable {X : Cx} {tg : Expr}
def iStr (tl : TE) : TI := fun σ H R => tl σ H fun v H1 => ∃ x, v = .str x ∧ R (Its x) H1
theorem pi_str {l : Expr} {tl : TE} (hl : PE X l tl) : PI X tg l (iStr tl) := by
  intro pins s σ H R I h
  refine thn (hl pins s σ H _ I h) fun v s1 ⟨y, H1, I1, r1, q1⟩ => ?_
  obtain ⟨x, e, q⟩ := q1
  subst e
  obtain ⟨t, rfl⟩ := r1
  have fp : ∀ {o : Obj} (b : Addr), b ∈ [s1.heap.objs.size] → FpOk X pins H1 b := fun {o} b hb => by
    have e : b = s1.heap.objs.size := by simpa using hb
    subst e
    exact I1.fpOk (Nat.le_refl _) (I1.hok.fresh (Nat.le_refl _))
  cases ha : x.cps.all (· < 128)
  · exact wpAny_pyIter_wide ha ⟨s1.heap.objs.size, [s1.heap.objs.size], _, _, H1, rfl, I1.kept (t' := s1.toks) fun b o e => Heap.get?_push_of_some _ e, turn_wide _ x t, ⟨_, Heap.get?_push_size _ rfl, rfl, rfl⟩, fp (o := default), q⟩
  · exact wpAny_pyIter_ascii ha ⟨s1.heap.objs.size, [s1.heap.objs.size], _, _, H1, rfl, I1.kept (t' := s1.toks) fun b o e => Heap.get?_push_of_some _ e, turn_ascii _ x t, ⟨_, Heap.get?_push_size _ rfl, rfl, rfl⟩, fp (o := default), q⟩
end
end L2
set_option Elab.async false
set_option linter.all false
set_option maxRecDepth 100000
set_option maxHeartbeats 4000000
namespace L2
open PySem PySem.Spec PyProof.Rows
section
variable {X : Cx}
end
section
variable {X : Cx}
def rSlS : V → Option Int → Option Int → Hp → VK → Prop := fun x lo hi H Q => ∃ z, x = .str z ∧ z.length ≤ sizeLine ∧ Q (.str (Txt.slice z lo hi)) H
theorem sl_str : SlR X rSlS := by
  intro pins s σ H x v vl vu lo hi sl Q I rx hs pl pu h
  obtain ⟨z, rfl, hz, q⟩ := h
  obtain ⟨t, rfl⟩ := rx
  refine ⟨"str", _, PySem.F.slot_str_getitem.lookup, typeIs_str s z t, ?_⟩
  cases pl with
  | none =>
    cases pu with
    | none => exact wpAny_getItem_str_slice (l := none) (u := none) (st := none) hs rfl (post_val_or_str ⟨Nat.le_trans (Txt.slice_le z _ _) hz, fun t' k => ⟨.str (Txt.slice z none none), H, I.tok _, ⟨_, rfl⟩, q⟩⟩)
    | int j uj => exact wpAny_getItem_str_slice (l := none) (u := some (j, uj)) (st := none) hs rfl (post_val_or_str ⟨Nat.le_trans (Txt.slice_le z _ _) hz, fun t' k => ⟨.str (Txt.slice z none (some j)), H, I.tok _, ⟨_, rfl⟩, q⟩⟩)
  | int i ui =>
    cases pu with
    | none => exact wpAny_getItem_str_slice (l := some (i, ui)) (u := none) (st := none) hs rfl (post_val_or_str ⟨Nat.le_trans (Txt.slice_le z _ _) hz, fun t' k => ⟨.str (Txt.slice z (some i) none), H, I.tok _, ⟨_, rfl⟩, q⟩⟩)
    | int j uj => exact wpAny_getItem_str_slice (l := some (i, ui)) (u := some (j, uj)) (st := none) hs rfl (post_val_or_str ⟨Nat.le_trans (Txt.slice_le z _ _) hz, fun t' k => ⟨.str (Txt.slice z (some i) (some j)), H, I.tok _, ⟨_, rfl⟩, q⟩⟩)
end
theorem boolsAre_of {bs : List Bool} : ∀ {us : List Value}, Vals (bs.map V.bl) us → LSm.BoolsAre us bs := by
  induction bs with
  | nil => intro us r; rw [List.map_nil] at r; cases r; exact .nil
  | cons n ns ih =>
    intro us r
    rw [List.map_cons] at r
    cases r with
    | cons r1 r2 =>
      have e : _ = Value.bool n := r1
      subst e
      exact .cons n (ih r2)
section
variable {X : Cx}
theorem call_all (hc : X.calm = true) : CallR X (.builtin "all") (fun xs H Q => ∃ (a : Addr) (bs : List Bool), xs = [.ref a] ∧ SqL X.K H a (bs.map V.bl) ∧ Q (.bl (bs.all id)) H) := by
  intro pins s σ H xs us Q I r h
  obtain ⟨a, bs, rfl, hq, q⟩ := h
  obtain ⟨u, rfl, ru⟩ := vals1 r
  cases ru
  obtain ⟨its, rv, pl, hz⟩ := I.list hq
  have hb := boolsAre_of rv
  have hl := pl.isList
  have hlt : a < s.heap.objs.size := by obtain ⟨_, e, _⟩ := hl; exact Heap.lt_size e
  refine call_all_walk (wpAny_pyIter_list hl ?_)
  refine ⟨s.heap.objs.size, [s.heap.objs.size, a], [s.heap.objs.size], its.toArray.size, _, _, fun i => (bs[i]?).getD true, rfl, Walks.list (A := X.A.in1) (I.ok.hd hc) _ a (Nat.ne_of_lt hlt) its.toArray,
    ⟨⟨_, Heap.get?_push_size _ rfl, rfl, rfl⟩, hl.push _⟩, fun i v s' Q' E' hP hQ => ?_, fun h' tk hk => ⟨.bl _, H, I.kept (LSm.kept_iter hk), rfl, ?_⟩⟩
  · obtain ⟨b, e, rfl⟩ := hb.get i v (by simpa using hP)
    simp only [e, Option.getD_some] at hQ
    exact wpAny_truthy_bool hQ
  · have e : ((List.range its.toArray.size).all fun i => (bs[i]?).getD true) = bs.all id := by
      rw [List.size_toArray, hb.length]; exact LSm.range_all bs
    rw [e]
    exact q
end
section
open PySem.SeqAt
inductive LtAt (A : Around) (s : Shared) : List Value → List Value → Bool → Prop where
  | nn : LtAt A s [] [] false
  | nc {w ws} : LtAt A s [] (w :: ws) true
  | cn {v vs} : LtAt A s (v :: vs) [] false
  | eq {v w vs ws b} : EqAt A s v w true → LtAt A s vs ws b → LtAt A s (v :: vs) (w :: ws) b
  | ne {v w vs ws b} : EqAt A s v w false → (∀ (prog : Program) (wo : World) (E Q : Value → Shared → Prop), Q (.bool b) s → wpAny (model prog wo) A (richCompare .Lt v w) Q E s) → LtAt A s (v :: vs) (w :: ws) b
end
section
open PySem.SeqAt
open PySem.AutoSeq1 (wpAny_loadPart')
open PySem.MeetsSeq PySem.MeetsSeq2 PySem.MeetsSeq3
theorem tuple_lt_by (l b : Addr) (items items2 : Array Value) (n n2 : Nat) (dd dd2 : Option Addr) (sl sl2 : Array (Option Value)) (r : Bool) :
    Meets (Builtin.«tuple.__lt__» ⟨[.ref l, .ref b], []⟩)
      (fun A R s => s.heap.get? l = some { cls := .type "tuple", dict := dd, data := .seq items n, slots := sl } ∧ s.heap.get? b = some { cls := .type "tuple", dict := dd2, data := .seq items2 n2, slots := sl2 } ∧
        LtAt A.in1 s items.toList items2.toList r ∧ R (.ok (.ret (.bool r))) s) :=
  .of_wp fun prog w A R s h => by
    obtain ⟨hp, g, d, tk, os⟩ := s; obtain ⟨hl, hb, hlt, h⟩ := h
    have f2 := AutoSeq1.sub_tuple_tuple
    wp_walk using wpAny_loadPart' hl, wpAny_loadPart' hb, wpAny_forIn_list _ (fun rest b s' => b.1 = none ∧ s' = ⟨hp, g, d, tk, os⟩ ∧ ∃ (vs ws : List Value), rest = vs.zip ws ∧
      LtAt A.in1 ⟨hp, g, d, tk, os⟩ vs ws r ∧ vs.length + items2.size = ws.length + items.size) _
    case turn =>
      rintro ⟨y, x⟩ rest b s' ⟨hb', rfl, vs, ws, hz, hlt', hlen⟩
      cases hlt' with
      | nn => rw [List.zip_nil_left] at hz; cases hz
      | nc => rw [List.zip_nil_left] at hz; cases hz
      | cn => rw [List.zip_nil_right] at hz; cases hz
      | eq he hr =>
        rw [List.zip_cons_cons] at hz
        injection hz with hyx hrest
        injection hyx with hy hx
        subst hy hx
        simp only [List.length_cons] at hlen
        refine wpAny_bind (he prog w _ _ ?_)
        wp_walk
        exact ⟨rfl, rfl, _, _, hrest, hr, by omega⟩
      | ne he hr =>
        rw [List.zip_cons_cons] at hz
        injection hz with hyx hrest
        injection hyx with hy hx
        subst hy hx
        refine wpAny_bind (he prog w _ _ ?_)
        have hri := hr prog w
        wp_walk using hri
        exact ⟨_, rfl, by simpa using h⟩
    case fin =>
      rintro ⟨b1, b2⟩ s' ⟨hb', rfl, vs, ws, hz, hlt', hlen⟩
      simp only at hb'
      subst hb'
      have hv : r = decide (items.size < items2.size) := by
        cases hlt' with
        | nn =>
          simp only [List.length_nil] at hlen
          exact (decide_eq_false (by omega)).symm
        | nc =>
          simp only [List.length_nil, List.length_cons] at hlen
          exact (decide_eq_true (by omega)).symm
        | cn =>
          simp only [List.length_nil, List.length_cons] at hlen
          exact (decide_eq_false (by omega)).symm
        | eq _ _ => rw [List.zip_cons_cons] at hz; cases hz
        | ne _ _ => rw [List.zip_cons_cons] at hz; cases hz
      rw [hv] at h
      wp_walk
      exact ⟨_, rfl, by simpa [Builtin.Tuple.tupleCompareSizes] using h⟩
    case h =>
      exact ⟨rfl, rfl, items.toList, items2.toList, rfl, hlt, by simp; omega⟩
end
section
variable {prog : Program} {w : World} {A : Around} {E : Value → Shared → Prop} {s : Shared}
theorem rcLt_tup {l b : Addr} {items items2 : Array Value} {r : Bool} {Q : Value → Shared → Prop} (hl : IsTup s.heap l items) (hb : IsTup s.heap b items2) (hr : LtAt A.in1 s items.toList items2.toList r)
    (hu : A.units < cLine) (h : Q (.bool r) s) : wpAny (model prog w) A (richCompare .Lt (.ref l) (.ref b)) Q E s := by
  obtain ⟨⟨cls, dd, data, sl⟩, ho, hc, n, hd⟩ := id hl
  obtain ⟨⟨cls2, dd2, data2, sl2⟩, ho2, hc2, n2, hd2⟩ := id hb
  simp only at hc hd hc2 hd2
  subst hc hd hc2 hd2
  exact richCompare_meets_room (op := .Lt) ⟨_, ho, rfl⟩ ⟨_, ho2, rfl⟩ PySem.F.slot_tuple_lt PySem.F.entry_tuple_lt (PySem.F.args_tuple_lt_2 _ _) (tuple_lt_by l b items items2 n n2 dd dd2 sl sl2 r)
    ⟨ho, ho2, hr, show Value.bool r ≠ Value.notImplemented ∧ Q (.bool r) s from ⟨(fun x => nomatch x), h⟩⟩ hu
end
def ltS : V → V → Option Bool
  | .int i, .int j => some (decide (i < j))
  | .str a, .str b => some (decide (a.cps.toList < b.cps.toList))
  | _, _ => none
def ltL : List V → List V → Option Bool
  | [], [] => some false
  | [], _ :: _ => some true
  | _ :: _, [] => some false
  | x :: xs, y :: ys => if (flatV x && flatV y) = true then (if eqV x y = true then ltL xs ys else ltS x y) else none
section
variable {X : Cx}
end
theorem len_cps (x : Str) : x.cps.toList.length = x.length := by simp [Str.length]
def spLaw (K : PySem.W.Frag) : Sp := fun vs H Q _ => ∃ (a : Addr) (ns : List Int), vs = [.ref a] ∧ SqL K H a (ns.map V.int) ∧ ns.length ≤ 63 ∧ ∀ H', Q (.bl true) H'
section
variable {X : Cx}
end
section
variable {X : Cx}
end
end L2
set_option Elab.async false
set_option linter.all false
set_option maxRecDepth 100000
namespace L2
open PySem PySem.Spec PyProof.Rows
theorem ite_t {A B : Prop} (h : A) : (if true = true then A else B) := (if_pos (c := true = true) rfl : ite _ A B = A) ▸ h
theorem ite_f {A B : Prop} (h : B) : (if false = true then A else B) := (if_neg (c := false = true) Bool.false_ne_true : ite _ A B = B) ▸ h
inductive D where
  | non | bl (b : Bool) | int (i : Int) | str (x : Str) | ty (n : String) | tup (xs : List D) | lst (xs : List D) (b : Bool := false)
def atOf : D → At
  | .int i => .int i
  | .str x => .str x
  | _ => .non
def ktOf : D → KT
  | .tup l => .tup (l.map atOf)
  | d => .at (atOf d)
def ktsOf : List D → List KT
  | k :: _ :: r => ktOf k :: ktsOf r
  | _ => []
def CO (b : Bool) (xs : List D) (vs : List V) : HO := match b with
  | false => .lst vs
  | true => .dct (ktsOf xs) vs
def isL : HO → Bool
  | .lst _ => true
  | .dct _ _ => true
  | _ => false
theorem isL_CO (b : Bool) (xs : List D) (vs : List V) : isL (CO b xs vs) = true := by cases b <;> rfl
abbrev Fb := Addr → Prop
def KL (K : PySem.W.Frag) (a : Addr) (vs : List V) : Prop := SqL K (fun _ => none) a vs
def LstAt (K : PySem.W.Frag) (N : Fb) (H : Hp) (a : Addr) (o : HO) : Prop := (¬ N a ∧ Rd H a o) ∨ ∃ vs, o = .lst vs ∧ KL K a vs
theorem KL.sq {K : PySem.W.Frag} {H : Hp} {a : Addr} {vs : List V} (h : KL K a vs) : SqL K H a vs := by
  rcases h with (h | ⟨o, h⟩) | h
  · cases h
  · cases h
  · exact .inr h
theorem LstAt.sq {K : PySem.W.Frag} {N : Fb} {H : Hp} {a : Addr} {vs : List V} (h : LstAt K N H a (.lst vs)) : SqL K H a vs := by
  rcases h with ⟨_, h⟩ | ⟨ws, e, h⟩
  · exact .inl h
  · cases e; exact h.sq
theorem LstAt.of {K : PySem.W.Frag} {N : Fb} {H : Hp} {a : Addr} {o : HO} (n : ¬ N a) (h : H a = some o) : LstAt K N H a o := .inl ⟨n, .inl h⟩
theorem LstAt.of_sq {K : PySem.W.Frag} {H : Hp} {a : Addr} {vs : List V} (h : SqL K H a vs) : LstAt K (fun _ => False) H a (.lst vs) := by
  rcases h with h | h
  · exact .inl ⟨id, h⟩
  · exact .inr ⟨vs, rfl, .inr h⟩
mutual
def Den (K : PySem.W.Frag) (N : Fb) (H : Hp) : D → V → Prop
  | .non, v => v = .non
  | .bl b, v => v = .bl b
  | .int i, v => v = .int i
  | .str x, v => v = .str x
  | .ty n, v => v = .ty n
  | .tup xs, v => ∃ a vs, v = .ref a ∧ SqT K H a vs ∧ DenL K N H xs vs
  | .lst xs b, v => ∃ a vs, v = .ref a ∧ LstAt K N H a (CO b xs vs) ∧ DenL K N H xs vs
def DenL (K : PySem.W.Frag) (N : Fb) (H : Hp) : List D → List V → Prop
  | [], vs => vs = []
  | x :: xs, vs => ∃ v r, vs = v :: r ∧ Den K N H x v ∧ DenL K N H xs r
end
structure Step (M N N' : Fb) (H H' : Hp) : Prop where
  kp : ∀ a o, H a = some o → (¬ N a ∨ M a ∨ isL o = false) → H' a = some o
  nw : ∀ a, N' a → N a ∨ H a = none
theorem Step.trans {M N N1 N2 : Fb} {H H1 H2 : Hp} (a : Step M N N1 H H1) (b : Step M N1 N2 H1 H2) : Step M N N2 H H2 where
  kp := fun c o h z => by
    have h1 := a.kp c o h z
    refine b.kp c o h1 ?_
    rcases z with z | z | z
    · refine .inl fun n1 => ?_
      rcases a.nw c n1 with q | q
      · exact z q
      · rw [h] at q; cases q
    · exact .inr (.inl z)
    · exact .inr (.inr z)
  nw := fun c n2 => by
    rcases b.nw c n2 with q | q
    · exact a.nw c q
    · cases e : H c with
      | none => exact .inr rfl
      | some o =>
        refine .inl (Classical.byContradiction fun z => ?_)
        rw [a.kp c o e (.inl z)] at q
        cases q
theorem Step.of_same {M N : Fb} {H H' : Hp} (s : Same H H') : Step M N N H H' := ⟨fun a o h _ => s a o h, fun a h => .inl h⟩
theorem Step.refl {M N : Fb} {H : Hp} : Step M N N H H := Step.of_same (Same.refl H)
theorem Rd.step {M N N' : Fb} {H H' : Hp} {a : Addr} {u : HO} (s : Step M N N' H H') (h : Rd H a u) (z : ¬ N a ∨ M a ∨ isL u = false) : Rd H' a u := by
  rcases h with h | ⟨o, h⟩
  · exact .inl (s.kp a u h z)
  · exact .inr ⟨o, s.kp a _ h (.inr (.inr rfl))⟩
theorem Rd.same {H H' : Hp} {a : Addr} {u : HO} (s : Same H H') (h : Rd H a u) : Rd H' a u := by
  rcases h with h | ⟨o, h⟩
  · exact .inl (s a u h)
  · exact .inr ⟨o, s a _ h⟩
theorem SqT.step {K : PySem.W.Frag} {M N N' : Fb} {H H' : Hp} {a : Addr} {xs : List V} (s : Step M N N' H H') (h : SqT K H a xs) : SqT K H' a xs := by
  rcases h with h | h
  · exact .inl (h.step s (.inr (.inr rfl)))
  · exact .inr h
theorem SqT.same {K : PySem.W.Frag} {H H' : Hp} {a : Addr} {xs : List V} (s : Same H H') (h : SqT K H a xs) : SqT K H' a xs := SqT.step (M := fun _ => False) (N := fun _ => False) (Step.of_same s) h
theorem Rd.has {H : Hp} {a : Addr} {u : HO} (h : Rd H a u) : H a ≠ none := by
  rcases h with h | ⟨o, h⟩ <;> rw [h] <;> exact fun e => nomatch e
mutual
theorem Den.step {K : PySem.W.Frag} {M N N' : Fb} {H H' : Hp} (s : Step M N N' H H') : ∀ (d : D) (v : V), Den K N H d v → Den K N' H' d v
  | .non, _, h => h
  | .bl _, _, h => h
  | .int _, _, h => h
  | .str _, _, h => h
  | .ty _, _, h => h
  | .tup xs, v, h => by
    simp only [Den] at h ⊢
    obtain ⟨a, vs, e, q, r⟩ := h
    exact ⟨a, vs, e, q.step s, DenL.step s xs vs r⟩
  | .lst xs fl, v, h => by
    simp only [Den] at h ⊢
    obtain ⟨a, vs, e, q, r⟩ := h
    refine ⟨a, vs, e, ?_, DenL.step s xs vs r⟩
    rcases q with ⟨n, q⟩ | q
    · refine .inl ⟨fun n' => ?_, q.step s (.inl n)⟩
      rcases s.nw a n' with z | z
      · exact n z
      · exact q.has z
    · exact .inr q
theorem DenL.step {K : PySem.W.Frag} {M N N' : Fb} {H H' : Hp} (s : Step M N N' H H') : ∀ (xs : List D) (vs : List V), DenL K N H xs vs → DenL K N' H' xs vs
  | [], _, h => h
  | x :: xs, vs, h => by
    simp only [DenL] at h ⊢
    obtain ⟨v, r, e, q, t⟩ := h
    exact ⟨v, r, e, Den.step s x v q, DenL.step s xs r t⟩
end
section
variable {K : PySem.W.Frag} {M N N' : Fb} {H H' : Hp} {d : D} {v : V} {xs ys : List D} {vs ws : List V} {a : Addr}
theorem Den.same (h : Den K N H d v) (s : Same H H') : Den K N H' d v := Den.step (M := N) (Step.of_same s) d v h
theorem DenL.same (h : DenL K N H xs vs) (s : Same H H') : DenL K N H' xs vs := DenL.step (M := N) (Step.of_same s) xs vs h
theorem Den.nw (h : Den K N H d v) (z : ∀ a, N' a → N a ∨ H a = none) : Den K N' H d v := Den.step (M := N) (H' := H) ⟨fun _ _ h _ => h, z⟩ d v h
theorem DenL.nw (h : DenL K N H xs vs) (z : ∀ a, N' a → N a ∨ H a = none) : DenL K N' H xs vs := DenL.step (M := N) (H' := H) ⟨fun _ _ h _ => h, z⟩ xs vs h
theorem DenL.length : ∀ {xs : List D} {vs : List V}, DenL K N H xs vs → xs.length = vs.length
  | [], _, h => by simp only [DenL] at h; subst h; rfl
  | _ :: xs, _, h => by simp only [DenL] at h; obtain ⟨v, r, e, _, t⟩ := h; subst e; simp [DenL.length t]
theorem DenL.get : ∀ {xs : List D} {vs : List V} {i : Nat} {d : D}, DenL K N H xs vs → xs[i]? = some d → ∃ v, vs[i]? = some v ∧ Den K N H d v
  | [], _, i, d, _, e => by simp at e
  | x :: xs, _, 0, d, h, e => by
    simp only [DenL] at h; obtain ⟨v, r, e1, q, _⟩ := h; subst e1
    simp at e; subst e; exact ⟨v, rfl, q⟩
  | x :: xs, _, i + 1, d, h, e => by
    simp only [DenL] at h; obtain ⟨v, r, e1, _, t⟩ := h; subst e1
    obtain ⟨w, h1, h2⟩ := DenL.get (i := i) t (by simpa using e)
    exact ⟨w, by simpa using h1, h2⟩
theorem DenL.get' : ∀ {xs : List D} {vs : List V} {i : Nat} {v : V}, DenL K N H xs vs → vs[i]? = some v → ∃ d, xs[i]? = some d ∧ Den K N H d v := by
  intro xs vs i v h e
  have hl := h.length
  have hi : i < vs.length := (List.getElem?_eq_some_iff.mp e).1
  have hx : xs[i]? = some xs[i] := List.getElem?_eq_getElem (by omega)
  obtain ⟨w, h1, h2⟩ := h.get hx
  rw [e] at h1; cases h1
  exact ⟨_, hx, h2⟩
theorem DenL.append : ∀ {xs ys : List D} {vs ws : List V}, DenL K N H xs vs → DenL K N H ys ws → DenL K N H (xs ++ ys) (vs ++ ws)
  | [], _, _, _, h, h' => by simp only [DenL] at h; subst h; exact h'
  | x :: xs, ys, _, ws, h, h' => by
    simp only [DenL] at h; obtain ⟨v, r, e, q, t⟩ := h; subst e
    simp only [List.cons_append, DenL]
    exact ⟨v, r ++ ws, rfl, q, DenL.append t h'⟩
theorem DenL.nil : DenL K N H [] [] := by simp only [DenL]
theorem DenL.cons (h : Den K N H d v) (t : DenL K N H xs vs) : DenL K N H (d :: xs) (v :: vs) := by simp only [DenL]; exact ⟨v, vs, rfl, h, t⟩
theorem DenL.take : ∀ {xs : List D} {vs : List V} (n : Nat), DenL K N H xs vs → DenL K N H (xs.take n) (vs.take n)
  | _, _, 0, _ => by simpa using DenL.nil
  | [], _, n + 1, h => by simp only [DenL] at h; subst h; simpa using DenL.nil
  | x :: xs, _, n + 1, h => by
    simp only [DenL] at h; obtain ⟨v, r, e, q, t⟩ := h; subst e
    simpa using DenL.cons q (DenL.take n t)
theorem DenL.drop : ∀ {xs : List D} {vs : List V} (n : Nat), DenL K N H xs vs → DenL K N H (xs.drop n) (vs.drop n)
  | _, _, 0, h => by simpa using h
  | [], _, n + 1, h => by simp only [DenL] at h; subst h; simpa using DenL.nil
  | x :: xs, _, n + 1, h => by
    simp only [DenL] at h; obtain ⟨v, r, e, q, t⟩ := h; subst e
    simpa using DenL.drop n t
theorem DenL.reverse : ∀ {xs : List D} {vs : List V}, DenL K N H xs vs → DenL K N H xs.reverse vs.reverse
  | [], _, h => by simp only [DenL] at h; subst h; simpa using DenL.nil
  | x :: xs, _, h => by
    simp only [DenL] at h; obtain ⟨v, r, e, q, t⟩ := h; subst e
    simpa using DenL.append (DenL.reverse t) (DenL.cons q DenL.nil)
theorem DenL.set : ∀ {xs : List D} {vs : List V} (i : Nat), DenL K N H xs vs → Den K N H d v → DenL K N H (xs.set i d) (vs.set i v)
  | [], _, _, h, _ => by simp only [DenL] at h; subst h; simpa using DenL.nil
  | x :: xs, _, 0, h, q => by
    simp only [DenL] at h; obtain ⟨v, r, e, _, t⟩ := h; subst e
    simpa using DenL.cons q t
  | x :: xs, _, i + 1, h, q => by
    simp only [DenL] at h; obtain ⟨v, r, e, q', t⟩ := h; subst e
    simpa using DenL.cons q' (DenL.set i t q)
theorem DenL.ints : ∀ (ns : List Int), DenL K N H (ns.map D.int) (ns.map V.int)
  | [] => DenL.nil
  | n :: ns => DenL.cons (by simp only [Den]) (DenL.ints ns)
end
inductive Sl where
  | no | val (d : D) | own (xs : List D) (b : Bool := false) | lent (xs : List D) (b : Bool := false)
abbrev VE := List Sl
def Nf (M : Fb) (ρ : VE) (σ : St) : Fb := fun a => M a ∨ ∃ (i : Nat) (xs : List D) (b : Bool), ρ[i]? = some (Sl.own xs b) ∧ σ[i]? = some (some (V.ref a))
def SlOk (K : PySem.W.Frag) (M N : Fb) (H0 H : Hp) : Sl → Option V → Prop
  | .no, _ => True
  | .val d, o => ∃ v, o = some v ∧ Den K N H d v
  | .own xs b, o => ∃ a vs, o = some (.ref a) ∧ H0 a = none ∧ ¬ M a ∧ H a = some (CO b xs vs) ∧ DenL K N H xs vs
  | .lent xs b, o => ∃ a vs, o = some (.ref a) ∧ M a ∧ Rd H a (CO b xs vs) ∧ DenL K N H xs vs
structure Rel (K : PySem.W.Frag) (M : Fb) (H0 : Hp) (ρ : VE) (σ : St) (H : Hp) : Prop where
  len : ρ.length = σ.length
  same : Same H0 H
  mh : ∀ a, M a → H a ≠ none
  slot : ∀ (i : Nat) (s : Sl), ρ[i]? = some s → SlOk K M (Nf M ρ σ) H0 H s (σ[i]?.join)
  inj : ∀ (i j : Nat) (xs ys : List D) (b b' : Bool) (a : Addr), ρ[i]? = some (Sl.own xs b) → ρ[j]? = some (Sl.own ys b') → σ[i]? = some (some (V.ref a)) → σ[j]? = some (some (V.ref a)) → i = j
section
variable {K : PySem.W.Frag} {M N : Fb} {H0 H H' : Hp} {ρ : VE} {σ : St}
theorem Rel.nh (R : Rel K M H0 ρ σ H) : ∀ a, Nf M ρ σ a → H a ≠ none := by
  rintro a (h | ⟨i, xs, fl, h1, h2⟩)
  · exact R.mh a h
  · obtain ⟨b, vs, e, _, _, q, _⟩ := R.slot i _ h1
    rw [h2] at e
    have e' : b = a := by simpa using e.symm
    rw [← e', q]; exact fun z => nomatch z
theorem Rel.st (R : Rel K M H0 ρ σ H) (s : Same H H') : Rel K M H0 ρ σ H' where
  len := R.len
  same := R.same.trans s
  mh := fun a h z => R.mh a h (s.free z)
  slot := fun i sl e => by
    have q := R.slot i sl e
    cases sl with
    | no => trivial
    | val d => obtain ⟨v, e, h⟩ := q; exact ⟨v, e, h.same s⟩
    | own xs fl => obtain ⟨a, vs, e, h1, h2, h3, h4⟩ := q; exact ⟨a, vs, e, h1, h2, s _ _ h3, h4.same s⟩
    | lent xs fl => obtain ⟨a, vs, e, h1, h2, h3⟩ := q; exact ⟨a, vs, e, h1, h2.same s, h3.same s⟩
  inj := R.inj
theorem Rel.fresh (R : Rel K M H0 ρ σ H) {p : Addr} (h : H p = none) : ¬ Nf M ρ σ p := fun n => R.nh p n h
end
def tD (K : PySem.W.Frag) (M : Fb) (H0 : Hp) (f : VE → Option D) : TE := fun σ H Q => ∃ ρ d, Rel K M H0 ρ σ H ∧ f ρ = some d ∧ ∀ v H', Same H H' → Den K (Nf M ρ σ) H' d v → Q v H'
def DenP (K : PySem.W.Frag) (N : Fb) (H : Hp) (d : D) (v : V) : Prop := match d with
  | .lst xs => ∃ a vs, v = .ref a ∧ SqL K H a vs ∧ DenL K N H xs vs
  | .lst xs true => ∃ a vs, v = .ref a ∧ Rd H a (.dct (ktsOf xs) vs) ∧ DenL K N H xs vs
  | d => Den K N H d v
theorem Den.p {K : PySem.W.Frag} {N : Fb} {H : Hp} {d : D} {v : V} (h : Den K N H d v) : DenP K N H d v := by
  cases d with
  | lst xs fl =>
    simp only [Den] at h
    obtain ⟨a, vs, e, q, r⟩ := h
    cases fl with
    | false => exact ⟨a, vs, e, LstAt.sq q, r⟩
    | true =>
      rcases q with ⟨_, q⟩ | ⟨ws, z, _⟩
      · exact ⟨a, vs, e, q, r⟩
      · cases z
  | _ => exact h
theorem DenP.same {K : PySem.W.Frag} {N : Fb} {H H' : Hp} {d : D} {v : V} (h : DenP K N H d v) (s : Same H H') : DenP K N H' d v := by
  cases d with
  | lst xs fl =>
    cases fl with
    | false => obtain ⟨a, vs, e, q, r⟩ := h; exact ⟨a, vs, e, s.seq q, r.same s⟩
    | true => obtain ⟨a, vs, e, q, r⟩ := h; exact ⟨a, vs, e, q.same s, r.same s⟩
  | _ => exact Den.same h s
theorem denP_co {K : PySem.W.Frag} {N : Fb} {H : Hp} {xs : List D} {vs : List V} {fl : Bool} {a : Addr} (h : Rd H a (CO fl xs vs)) (r : DenL K N H xs vs) : DenP K N H (.lst xs fl) (.ref a) := by
  cases fl with
  | false => exact ⟨a, vs, rfl, .inl h, r⟩
  | true => exact ⟨a, vs, rfl, h, r⟩
def tP (K : PySem.W.Frag) (M : Fb) (H0 : Hp) (f : VE → Option D) : TE := fun σ H Q => ∃ ρ d, Rel K M H0 ρ σ H ∧ f ρ = some d ∧ ∀ v H', Same H H' → DenP K (Nf M ρ σ) H' d v → Q v H'
def tFb (fl : Bool) (K : PySem.W.Frag) (M : Fb) (H0 : Hp) (f : VE → Option (List D)) : TE := fun σ H Q => ∃ ρ xs, Rel K M H0 ρ σ H ∧ f ρ = some xs ∧
  ∀ a vs H', Same H H' → H a = none → H' a = some (CO fl xs vs) → DenL K (fun b => Nf M ρ σ b ∨ b = a) H' xs vs → Q (.ref a) H'
@[reducible] def tF (K : PySem.W.Frag) (M : Fb) (H0 : Hp) (f : VE → Option (List D)) : TE := tFb false K M H0 f
def tB' (K : PySem.W.Frag) (M : Fb) (H0 : Hp) (f : VE → Option Bool) : TT := fun σ H Q => ∃ ρ b, Rel K M H0 ρ σ H ∧ f ρ = some b ∧ ∀ H', Same H H' → Q b H'
structure JE (X : Cx) (e : Expr) (t : TE) : Prop where h : PE X e t
structure JT (X : Cx) (e : Expr) (t : TT) : Prop where h : PT X e t
structure JW (X : Cx) (e : Expr) (t : TT) : Prop where h : PW X e t
structure JA (X : Cx) (e : List Expr) (t : TA) : Prop where h : PA X e t
structure JS (X : Cx) (e : Stmt) (t : TS) : Prop where h : PS X e t
structure JB (X : Cx) (e : List Stmt) (t : TS) : Prop where h : PSs X e t
structure JI (X : Cx) (tg e : Expr) (t : TI) : Prop where h : PI X tg e t
structure JG (X : Cx) (e : Expr) (t : TG) : Prop where h : PG X e t
structure JK (X : Cx) (e : List Expr) (t : TGs) : Prop where h : PGs X e t
structure JO (X : Cx) (e : Option Expr) (t : TO) : Prop where h : PO X e t
structure JF (X : Cx) (e : List Expr) (t : TT) : Prop where h : PFs X e t
theorem PE.mono {X : Cx} {e : Expr} {t t' : TE} (h : PE X e t) (m : ∀ σ H Q, t' σ H Q → t σ H Q) : PE X e t' := fun pins s σ H Q I q => h pins s σ H Q I (m σ H Q q)
theorem PT.mono {X : Cx} {e : Expr} {t t' : TT} (h : PT X e t) (m : ∀ σ H Q, t' σ H Q → t σ H Q) : PT X e t' := fun pins s σ H Q I q => h pins s σ H Q I (m σ H Q q)
theorem PW.mono {X : Cx} {e : Expr} {t t' : TT} (h : PW X e t) (m : ∀ σ H Q, t' σ H Q → t σ H Q) : PW X e t' := fun wh pins s σ H Q I q => h wh pins s σ H Q I (m σ H Q q)
theorem PA.mono {X : Cx} {e : List Expr} {t t' : TA} (h : PA X e t) (m : ∀ σ H Q, t' σ H Q → t σ H Q) : PA X e t' := fun pos pins s σ H Q I q => h pos pins s σ H Q I (m σ H Q q)
theorem PS.mono {X : Cx} {e : Stmt} {t t' : TS} (h : PS X e t) (m : ∀ D σ H, t' D σ H → t D σ H) : PS X e t' := fun pins s σ H D I q => h pins s σ H D I (m D σ H q)
theorem PSs.mono {X : Cx} {e : List Stmt} {t t' : TS} (h : PSs X e t) (m : ∀ D σ H, t' D σ H → t D σ H) : PSs X e t' := fun pins s σ H D I q => h pins s σ H D I (m D σ H q)
section
variable {X : Cx} {K : PySem.W.Frag} {M : Fb} {H0 : Hp} {e a b : Expr} {f g : VE → Option D} {pos : Pos}
theorem PE.p (h : PE X e (tD K M H0 f)) : PE X e (tP K M H0 f) := h.mono fun σ H Q ⟨ρ, d, R, e, q⟩ => ⟨ρ, d, R, e, fun v H' s z => q v H' s z.p⟩
theorem j_p (h : JE X e (tD K M H0 f)) : JE X e (tP K M H0 f) := ⟨PE.p h.h⟩
@[simp] def lstO (o : Option (List D)) : Option D := o.map D.lst
@[simp] def dctO (o : Option (List D)) : Option D := o.map fun l => D.lst l true
theorem PE.fd {f : VE → Option (List D)} (h : PE X e (tF K M H0 f)) : PE X e (tD K M H0 fun ρ => lstO (f ρ)) := h.mono fun σ H Q ⟨ρ, d, R, e, q⟩ => by
  try dsimp only at e q
  cases hf : f ρ with
  | none => rw [hf] at e; cases e
  | some xs =>
    rw [hf] at e
    cases e
    refine ⟨ρ, xs, R, hf, fun a vs H' s z1 z2 z3 => q _ _ s ?_⟩
    simp only [Den]
    refine ⟨a, vs, rfl, .of (R.fresh z1) z2, z3.nw fun b hb => .inl (.inl hb)⟩
theorem PE.dd {f : VE → Option (List D)} (h : PE X e (tFb true K M H0 f)) : PE X e (tD K M H0 fun ρ => dctO (f ρ)) := h.mono fun σ H Q ⟨ρ, d, R, e, q⟩ => by
  try dsimp only at e q
  cases hf : f ρ with
  | none => rw [hf] at e; cases e
  | some xs =>
    rw [hf] at e
    cases e
    refine ⟨ρ, xs, R, hf, fun a vs H' s z1 z2 z3 => q _ _ s ?_⟩
    simp only [Den]
    refine ⟨a, vs, rfl, .of (R.fresh z1) z2, z3.nw fun b hb => .inl (.inl hb)⟩
theorem j_fd {f : VE → Option (List D)} (h : JE X e (tF K M H0 f)) : JE X e (tD K M H0 fun ρ => lstO (f ρ)) := ⟨PE.fd h.h⟩
theorem PE.fp {f : VE → Option (List D)} (h : PE X e (tF K M H0 f)) : PE X e (tP K M H0 fun ρ => lstO (f ρ)) := h.fd.p
@[simp] def rdV (ρ : VE) (i : Nat) : Option D := match ρ[i]? with
  | some (.val d) => some d
  | _ => none
@[simp] def rdP (ρ : VE) (i : Nat) : Option D := match ρ[i]? with
  | some (.val d) => some d
  | some (.own xs b) => some (.lst xs b)
  | some (.lent xs b) => some (.lst xs b)
  | _ => none
theorem rdV_slot {ρ : VE} {i : Nat} {d : D} (h : rdV ρ i = some d) : ρ[i]? = some (.val d) := by
  unfold rdV at h
  split at h
  · cases h; assumption
  · cases h
theorem ve_var {i : Nat} {x : Str} (hN : X.N[i]? = some x) (hv : Vis X.env.scope x) (hd : (x == ("__debug__" : Str)) = false := by decide) (hcd : (x == ("__classdict__" : Str)) = false := by decide) : PE X (.Name x pos) (tD K M H0 fun ρ => rdV ρ i) :=
  (pe_var hN hv hd hcd).mono fun σ H Q ⟨ρ, d, R, e, q⟩ => by
    try dsimp only at e q
    obtain ⟨v, e1, h⟩ := R.slot i _ (rdV_slot e)
    refine ⟨v, ?_, q v H (Same.refl H) h⟩
    cases z : σ[i]? with
    | none => rw [z] at e1; cases e1
    | some o => rw [z] at e1; cases e1; rfl
theorem vp_var {i : Nat} {x : Str} (hN : X.N[i]? = some x) (hv : Vis X.env.scope x) (hd : (x == ("__debug__" : Str)) = false := by decide) (hcd : (x == ("__classdict__" : Str)) = false := by decide) : PE X (.Name x pos) (tP K M H0 fun ρ => rdP ρ i) :=
  (pe_var hN hv hd hcd).mono fun σ H Q ⟨ρ, d, R, e, q⟩ => by
    try dsimp only at e q
    have fin : ∀ v, σ[i]?.join = some v → DenP K (Nf M ρ σ) H d v → ∃ v, σ[i]? = some (some v) ∧ Q v H := fun v e1 h => by
      refine ⟨v, ?_, q v H (Same.refl H) h⟩
      cases z : σ[i]? with
      | none => rw [z] at e1; cases e1
      | some o => rw [z] at e1; cases e1; rfl
    unfold rdP at e
    split at e
    · next h => cases e; obtain ⟨v, e1, h⟩ := R.slot i _ h; exact fin v e1 h.p
    · next h => cases e; obtain ⟨a, vs, e1, _, _, h3, h4⟩ := R.slot i _ h; exact fin _ e1 (denP_co (.inl h3) h4)
    · next h => cases e; obtain ⟨a, vs, e1, _, h3, h4⟩ := R.slot i _ h; exact fin _ e1 (denP_co h3 h4)
    · cases e
theorem ve_c {d : D} {v : V} {e : Expr} (h : PE X e (tC v)) (hd : ∀ N H, Den K N H d v) : PE X e (tD K M H0 fun _ => some d) :=
  h.mono fun σ H Q ⟨ρ, d', R, e, q⟩ => by (try dsimp only at e q); cases e; exact q v H (Same.refl H) (hd _ _)
theorem ve_int {i j pos} : PE X (.Constant (.int i) j pos) (tD K M H0 fun _ => some (.int i)) := ve_c pe_int fun _ _ => by simp only [Den]
theorem j_ve_int {i j pos} : JE X (.Constant (.int i) j pos) (tD K M H0 fun _ => some (.int i)) := ⟨ve_int ⟩
theorem ve_bl {i j pos} : PE X (.Constant (.bool i) j pos) (tD K M H0 fun _ => some (.bl i)) := ve_c pe_bl fun _ _ => by simp only [Den]
theorem j_ve_bl {i j pos} : JE X (.Constant (.bool i) j pos) (tD K M H0 fun _ => some (.bl i)) := ⟨ve_bl ⟩
theorem ve_non {j pos} : PE X (.Constant .none j pos) (tD K M H0 fun _ => some .non) := ve_c pe_non fun _ _ => by simp only [Den]
theorem j_ve_non {j pos} : JE X (.Constant .none j pos) (tD K M H0 fun _ => some .non) := ⟨ve_non ⟩
theorem ve_str {i j pos} : PE X (.Constant (.str i) j pos) (tD K M H0 fun _ => some (.str i)) := ve_c pe_str fun _ _ => by simp only [Den]
theorem j_ve_str {i j pos} : JE X (.Constant (.str i) j pos) (tD K M H0 fun _ => some (.str i)) := ⟨ve_str ⟩
def R2D (K : PySem.W.Frag) (r : R2) (F : D → D → Option D) : Prop := ∀ (N : Fb) (H : Hp) (x y : V) (d1 d2 d : D) (Q : VK), (∀ a, N a → H a ≠ none) → DenP K N H d1 x → DenP K N H d2 y → F d1 d2 = some d →
  (∀ v H', Same H H' → Den K N H' d v → Q v H') → r x y H Q
@[simp] def bin2 (F : D → D → Option D) (f g : VE → Option D) : VE → Option D := fun ρ => (f ρ).bind fun x => (g ρ).bind fun y => F x y
theorem bin2_inv {F : D → D → Option D} {f g : VE → Option D} {ρ : VE} {d : D} (h : bin2 F f g ρ = some d) : ∃ x y, f ρ = some x ∧ g ρ = some y ∧ F x y = some d := by
  unfold bin2 at h
  cases hf : f ρ with
  | none => rw [hf] at h; cases h
  | some x =>
    cases hg : g ρ with
    | none => rw [hf, hg] at h; cases h
    | some y => rw [hf, hg] at h; exact ⟨x, y, rfl, rfl, h⟩
theorem tOp_D {r : R2} {F : D → D → Option D} (hr : R2D K r F) {σ : St} {H : Hp} {Q : VK} (h : tD K M H0 (bin2 F f g) σ H Q) : tOp r (tP K M H0 f) (tP K M H0 g) σ H Q := by
  obtain ⟨ρ, d, R, e, q⟩ := h
  try dsimp only at e q
  obtain ⟨x, y, e1, e2, e3⟩ := bin2_inv e
  refine ⟨ρ, x, R, e1, fun v H1 s1 h1 => ⟨ρ, y, R.st s1, e2, fun u H2 s2 h2 => ?_⟩⟩
  exact hr (Nf M ρ σ) H2 v u x y d Q ((R.st s1).st s2).nh (h1.same s2) h2 e3 fun w H3 s3 h3 => q w H3 ((s1.trans s2).trans s3) h3
theorem ve_op {op : Operator} {r : R2} {F : D → D → Option D} (ho : OpR X (binaryOp op) r) (hr : R2D K r F) (ha : PE X a (tP K M H0 f)) (hb : PE X b (tP K M H0 g)) : PE X (.BinOp a op b pos) (tD K M H0 (bin2 F f g)) :=
  (pe_op ho ha hb).mono fun _ _ _ h => tOp_D hr h
theorem ve_cmp {op : CmpOp} {r : R2} {F : D → D → Option D} (ho : OpR X (compareOp op) r) (hr : R2D K r F) (ha : PE X a (tP K M H0 f)) (hb : PE X b (tP K M H0 g)) (hm : behindInMarks op b = false) : PE X (.Compare a [op] [b] pos) (tD K M H0 (bin2 F f g)) :=
  (pe_cmpR ho ha hb hm).mono fun _ _ _ h => tOp_D hr h
theorem ve_ix {r : R2} {F : D → D → Option D} (ho : IxR X r) (hr : R2D K r F) (ha : PE X a (tP K M H0 f)) (hb : PE X b (tP K M H0 g)) (hs : PlainIx b) : PE X (.Subscript a b pos) (tD K M H0 (bin2 F f g)) :=
  (pe_ix ho ha hb hs).mono fun _ _ _ h => tOp_D hr h
@[simp] def orO {α : Type} (a b : Option α) : Option α := match a with
  | some x => some x
  | none => b
theorem R2D.or {r r' : R2} {F F' : D → D → Option D} (h : R2D K r F) (h' : R2D K r' F') : R2D K (fun x y H Q => r x y H Q ∨ r' x y H Q) (fun x y => orO (F x y) (F' x y)) := by
  intro N H x y d1 d2 d Q nh h1 h2 e q
  cases hF : F d1 d2 with
  | some z => simp only [hF, orO] at e; cases e; exact .inl (h N H x y d1 d2 d Q nh h1 h2 hF q)
  | none => simp only [hF, orO] at e; exact .inr (h' N H x y d1 d2 d Q nh h1 h2 e q)
@[simp] def asB : Option D → Option Bool
  | some (.bl b) => some b
  | _ => none
theorem asB_some {o : Option D} {b : Bool} (h : asB o = some b) : o = some (.bl b) := by
  unfold asB at h
  split at h
  · cases h; rfl
  · cases h
theorem tTest_D {t : TE} {σ : St} {H : Hp} {Q : Bool → Hp → Prop} (ht : ∀ σ H Q, tD K M H0 f σ H Q → t σ H Q) (h : tB' K M H0 (fun ρ => asB (f ρ)) σ H Q) : tB t σ H Q := by
  obtain ⟨ρ, b, R, e, q⟩ := h
  try dsimp only at e q
  refine ht σ H _ ⟨ρ, .bl b, R, asB_some e, fun v H' s hv => ?_⟩
  simp only [Den] at hv
  exact ⟨b, hv, q H' s⟩
theorem vt_cmp {op : CmpOp} {r : R2} {F : D → D → Option D} (ho : OpR X (compareOp op) r) (hr : R2D K r F) (ha : PE X a (tP K M H0 f)) (hb : PE X b (tP K M H0 g)) (hm : behindInMarks op b = false) : PT X (.Compare a [op] [b] pos) (tB' K M H0 fun ρ => asB (bin2 F f g ρ)) :=
  (pt_cmpR ho ha hb hm).mono fun _ _ _ q => tTest_D (t := tOp r (tP K M H0 f) (tP K M H0 g)) (fun _ _ _ z => tOp_D hr z) q
@[simp] def notO (o : Option Bool) : Option Bool := o.map (!·)
@[simp] def andO (o p : Option Bool) : Option Bool := match o with
  | some true => p
  | some false => some false
  | none => none
@[simp] def orB (o p : Option Bool) : Option Bool := match o with
  | some true => some true
  | some false => p
  | none => none
section
variable {c c' : VE → Option Bool} {rest : List Expr}
theorem vt_not (h : PT X a (tB' K M H0 c)) : PT X (.UnaryOp .Not a pos) (tB' K M H0 fun ρ => notO (c ρ)) := (pt_not h).mono fun σ H Q ⟨ρ, b, R, e, q⟩ => by
  try dsimp only at e q
  cases hc : c ρ with
  | none => rw [hc] at e; cases e
  | some k => rw [hc] at e; cases e; exact ⟨ρ, k, R, hc, q⟩
theorem j_vt_not (h : JT X a (tB' K M H0 c)) : JT X (.UnaryOp .Not a pos) (tB' K M H0 fun ρ => notO (c ρ)) := ⟨vt_not h.h⟩
theorem vw_and1 (h : PT X a (tB' K M H0 c)) : PW X (.BoolOp .And [a] pos) (tB' K M H0 c) := pw_and1 h
theorem j_vw_and1 (h : JT X a (tB' K M H0 c)) : JW X (.BoolOp .And [a] pos) (tB' K M H0 c) := ⟨vw_and1 h.h⟩
theorem vw_or1 (h : PT X a (tB' K M H0 c)) : PW X (.BoolOp .Or [a] pos) (tB' K M H0 c) := pw_or1 h
theorem j_vw_or1 (h : JT X a (tB' K M H0 c)) : JW X (.BoolOp .Or [a] pos) (tB' K M H0 c) := ⟨vw_or1 h.h⟩
theorem tAnd_D {σ : St} {H : Hp} {Q : Bool → Hp → Prop} (h : tB' K M H0 (fun ρ => andO (c ρ) (c' ρ)) σ H Q) : tAnd (tB' K M H0 c) (tB' K M H0 c') σ H Q := by
  obtain ⟨ρ, b, R, e, q⟩ := h
  try dsimp only at e q
  cases hc : c ρ with
  | none => rw [hc] at e; cases e
  | some k =>
    cases k with
    | true => rw [hc] at e; exact ⟨ρ, true, R, hc, fun H1 s => by refine ite_t ?_; exact ⟨ρ, b, R.st s, e, fun H2 s2 => q H2 (s.trans s2)⟩⟩
    | false => rw [hc] at e; cases e; exact ⟨ρ, false, R, hc, fun H1 s => by refine ite_f ?_; exact q H1 s⟩
theorem tOr_D {σ : St} {H : Hp} {Q : Bool → Hp → Prop} (h : tB' K M H0 (fun ρ => orB (c ρ) (c' ρ)) σ H Q) : tOr (tB' K M H0 c) (tB' K M H0 c') σ H Q := by
  obtain ⟨ρ, b, R, e, q⟩ := h
  try dsimp only at e q
  cases hc : c ρ with
  | none => rw [hc] at e; cases e
  | some k =>
    cases k with
    | false => rw [hc] at e; exact ⟨ρ, false, R, hc, fun H1 s => by refine ite_f ?_; exact ⟨ρ, b, R.st s, e, fun H2 s2 => q H2 (s.trans s2)⟩⟩
    | true => rw [hc] at e; cases e; exact ⟨ρ, true, R, hc, fun H1 s => by refine ite_t ?_; exact q H1 s⟩
theorem vw_and (h : PT X a (tB' K M H0 c)) (h' : PW X (.BoolOp .And (b :: rest) pos) (tB' K M H0 c')) : PW X (.BoolOp .And (a :: b :: rest) pos) (tB' K M H0 fun ρ => andO (c ρ) (c' ρ)) := (pw_and h h').mono fun _ _ _ q => tAnd_D q
theorem j_vw_and (h : JT X a (tB' K M H0 c)) (h' : JW X (.BoolOp .And (b :: rest) pos) (tB' K M H0 c')) : JW X (.BoolOp .And (a :: b :: rest) pos) (tB' K M H0 fun ρ => andO (c ρ) (c' ρ)) := ⟨vw_and h.h h'.h⟩
theorem vw_or (h : PT X a (tB' K M H0 c)) (h' : PW X (.BoolOp .Or (b :: rest) pos) (tB' K M H0 c')) : PW X (.BoolOp .Or (a :: b :: rest) pos) (tB' K M H0 fun ρ => orB (c ρ) (c' ρ)) := (pw_or h h').mono fun _ _ _ q => tOr_D q
theorem j_vw_or (h : JT X a (tB' K M H0 c)) (h' : JW X (.BoolOp .Or (b :: rest) pos) (tB' K M H0 c')) : JW X (.BoolOp .Or (a :: b :: rest) pos) (tB' K M H0 fun ρ => orB (c ρ) (c' ρ)) := ⟨vw_or h.h h'.h⟩
@[simp] def blO (o : Option Bool) : Option D := o.map D.bl
theorem tD_bl {σ : St} {H : Hp} {Q : VK} (h : tD K M H0 (fun ρ => blO (c ρ)) σ H Q) : ∃ ρ b, Rel K M H0 ρ σ H ∧ c ρ = some b ∧ ∀ H', Same H H' → Q (.bl b) H' := by
  obtain ⟨ρ, d, R, e, q⟩ := h
  try dsimp only at e q
  cases hc : c ρ with
  | none => rw [hc] at e; cases e
  | some k => rw [hc] at e; cases e; exact ⟨ρ, k, R, hc, fun H' s => q _ H' s (by simp only [Den])⟩
theorem ve_not (h : PE X a (tD K M H0 f)) : PE X (.UnaryOp .Not a pos) (tD K M H0 fun ρ => blO (notO (asB (f ρ)))) := (pe_not h).mono fun σ H Q q => by
  obtain ⟨ρ, b, R, e, q⟩ := tD_bl q
  try dsimp only at e q
  cases hc : asB (f ρ) with
  | none => rw [hc] at e; cases e
  | some k =>
    rw [hc] at e; cases e
    refine ⟨ρ, .bl k, R, asB_some hc, fun v H' s hv => ?_⟩
    simp only [Den] at hv
    exact ⟨k, hv, q H' s⟩
theorem j_ve_not (h : JE X a (tD K M H0 f)) : JE X (.UnaryOp .Not a pos) (tD K M H0 fun ρ => blO (notO (asB (f ρ)))) := ⟨ve_not h.h⟩
theorem ve_one {op} (h : PE X a (tD K M H0 f)) : PE X (.BoolOp op [a] pos) (tD K M H0 fun ρ => blO (asB (f ρ))) := (pe_one h).mono fun σ H Q q => by
  obtain ⟨ρ, b, R, e, q⟩ := tD_bl q
  try dsimp only at e q
  exact ⟨ρ, .bl b, R, asB_some e, fun v H' s hv => by simp only [Den] at hv; subst hv; exact q H' s⟩
theorem j_ve_one {op} (h : JE X a (tD K M H0 f)) : JE X (.BoolOp op [a] pos) (tD K M H0 fun ρ => blO (asB (f ρ))) := ⟨ve_one h.h⟩
theorem ve_and (h : PE X a (tD K M H0 f)) (h' : PE X (.BoolOp .And (b :: rest) pos) (tD K M H0 fun ρ => blO (c' ρ))) : PE X (.BoolOp .And (a :: b :: rest) pos) (tD K M H0 fun ρ => blO (andO (asB (f ρ)) (c' ρ))) := (pe_and h h').mono fun σ H Q q => by
  obtain ⟨ρ, b, R, e, q⟩ := tD_bl q
  try dsimp only at e q
  cases hc : asB (f ρ) with
  | none => rw [hc] at e; cases e
  | some k =>
    refine ⟨ρ, .bl k, R, asB_some hc, fun v H' s hv => ?_⟩
    simp only [Den] at hv
    refine ⟨k, hv, ?_⟩
    cases k with
    | true =>
      rw [hc] at e; refine ite_t ?_
      have e' : c' ρ = some b := e
      exact ⟨ρ, .bl b, R.st s, by show blO (c' ρ) = _; rw [e']; rfl, fun w H2 s2 hw => by simp only [Den] at hw; subst hw; exact q H2 (s.trans s2)⟩
    | false => rw [hc] at e; cases e; refine ite_f ?_; exact q H' s
theorem j_ve_and (h : JE X a (tD K M H0 f)) (h' : JE X (.BoolOp .And (b :: rest) pos) (tD K M H0 fun ρ => blO (c' ρ))) : JE X (.BoolOp .And (a :: b :: rest) pos) (tD K M H0 fun ρ => blO (andO (asB (f ρ)) (c' ρ))) := ⟨ve_and h.h h'.h⟩
theorem ve_or (h : PE X a (tD K M H0 f)) (h' : PE X (.BoolOp .Or (b :: rest) pos) (tD K M H0 fun ρ => blO (c' ρ))) : PE X (.BoolOp .Or (a :: b :: rest) pos) (tD K M H0 fun ρ => blO (orB (asB (f ρ)) (c' ρ))) := (pe_or h h').mono fun σ H Q q => by
  obtain ⟨ρ, b, R, e, q⟩ := tD_bl q
  try dsimp only at e q
  cases hc : asB (f ρ) with
  | none => rw [hc] at e; cases e
  | some k =>
    refine ⟨ρ, .bl k, R, asB_some hc, fun v H' s hv => ?_⟩
    simp only [Den] at hv
    refine ⟨k, hv, ?_⟩
    cases k with
    | false =>
      rw [hc] at e; refine ite_f ?_
      have e' : c' ρ = some b := e
      exact ⟨ρ, .bl b, R.st s, by show blO (c' ρ) = _; rw [e']; rfl, fun w H2 s2 hw => by simp only [Den] at hw; subst hw; exact q H2 (s.trans s2)⟩
    | true => rw [hc] at e; cases e; refine ite_t ?_; exact q H' s
theorem j_ve_or (h : JE X a (tD K M H0 f)) (h' : JE X (.BoolOp .Or (b :: rest) pos) (tD K M H0 fun ρ => blO (c' ρ))) : JE X (.BoolOp .Or (a :: b :: rest) pos) (tD K M H0 fun ρ => blO (orB (asB (f ρ)) (c' ρ))) := ⟨ve_or h.h h'.h⟩
@[simp] def iteO {α : Type} (c : Option Bool) (a b : Option α) : Option α := match c with
  | some true => a
  | some false => b
  | none => none
theorem ve_ifExp {k : Expr} (hc : PT X k (tB' K M H0 c)) (ha : PE X a (tD K M H0 f)) (hb : PE X b (tD K M H0 g)) : PE X (.IfExp k a b pos) (tD K M H0 fun ρ => iteO (c ρ) (f ρ) (g ρ)) := (pe_ifExp hc ha hb).mono fun σ H Q ⟨ρ, d, R, e, q⟩ => by
  try dsimp only at e q
  cases hc : c ρ with
  | none => rw [hc] at e; cases e
  | some k =>
    refine ⟨ρ, k, R, hc, fun H1 s => ?_⟩
    cases k with
    | true => rw [hc] at e; refine ite_t ?_; exact ⟨ρ, d, R.st s, e, fun w H2 s2 hw => q w H2 (s.trans s2) hw⟩
    | false => rw [hc] at e; refine ite_f ?_; exact ⟨ρ, d, R.st s, e, fun w H2 s2 hw => q w H2 (s.trans s2) hw⟩
theorem j_ve_ifExp {k : Expr} (hc : JT X k (tB' K M H0 c)) (ha : JE X a (tD K M H0 f)) (hb : JE X b (tD K M H0 g)) : JE X (.IfExp k a b pos) (tD K M H0 fun ρ => iteO (c ρ) (f ρ) (g ρ)) := ⟨ve_ifExp hc.h ha.h hb.h⟩
@[simp] def isN : D → Bool
  | .non => true
  | _ => false
@[simp] def isNO (o : Option D) : Option Bool := o.map isN
theorem DenP.isN {K : PySem.W.Frag} {N : Fb} {H : Hp} {d : D} {v : V} (h : DenP K N H d v) : decide (v = .non) = L2.isN d := by
  cases d with
  | non => simp only [DenP, Den] at h; subst h; rfl
  | bl _ => simp only [DenP, Den] at h; subst h; rfl
  | int _ => simp only [DenP, Den] at h; subst h; rfl
  | str _ => simp only [DenP, Den] at h; subst h; rfl
  | ty _ => simp only [DenP, Den] at h; subst h; rfl
  | tup _ => simp only [DenP, Den] at h; obtain ⟨a, vs, e, _⟩ := h; subst e; rfl
  | lst _ fl => cases fl <;> (obtain ⟨a, vs, e, _⟩ := h; subst e; rfl)
theorem ve_isN {j pos'} (h : PE X a (tP K M H0 f)) : PE X (.Compare a [.Is] [.Constant .none j pos'] pos) (tD K M H0 fun ρ => blO (isNO (f ρ))) := (pe_cmp (pc_isN h)).mono fun σ H Q q => by
  obtain ⟨ρ, b, R, e, q⟩ := tD_bl q
  try dsimp only at e q
  cases hf : f ρ with
  | none => rw [hf] at e; cases e
  | some d => rw [hf] at e; cases e; exact ⟨ρ, d, R, hf, fun v H' s hv => by dsimp only; rw [hv.isN]; exact q H' s⟩
theorem j_ve_isN {j pos'} (h : JE X a (tP K M H0 f)) : JE X (.Compare a [.Is] [.Constant .none j pos'] pos) (tD K M H0 fun ρ => blO (isNO (f ρ))) := ⟨ve_isN h.h⟩
theorem vt_isN {j pos'} (h : PE X a (tP K M H0 f)) : PT X (.Compare a [.Is] [.Constant .none j pos'] pos) (tB' K M H0 fun ρ => isNO (f ρ)) := (pt_cmp (pc_isN h)).mono fun σ H Q ⟨ρ, b, R, e, q⟩ => by
  try dsimp only at e q
  cases hf : f ρ with
  | none => rw [hf] at e; cases e
  | some d => rw [hf] at e; cases e; exact ⟨ρ, d, R, hf, fun v H' s hv => ⟨_, rfl, by rw [hv.isN]; exact q H' s⟩⟩
theorem j_vt_isN {j pos'} (h : JE X a (tP K M H0 f)) : JT X (.Compare a [.Is] [.Constant .none j pos'] pos) (tB' K M H0 fun ρ => isNO (f ρ)) := ⟨vt_isN h.h⟩
end
end
end L2
set_option Elab.async false
set_option linter.all false
set_option maxRecDepth 100000
namespace L2
open PySem PySem.Spec PyProof.Rows
theorem star_c {e : Expr} {es : List Expr} {env : Env} (h : ∀ x p, e ≠ .Starred x p) : starEach (e :: es) env = (false, eval e env) :: starEach es env := by
  cases e with
  | Starred x p => exact absurd rfl (h x p)
  | _ => rfl
def ArgOk (K : PySem.W.Frag) (N : Fb) (H : Hp) : Sl → V → Prop
  | .val d, v => Den K N H d v
  | .lent xs b, v => ∃ a vs, v = .ref a ∧ N a ∧ Rd H a (CO b xs vs) ∧ DenL K N H xs vs
  | _, _ => False
def ArgsOk (K : PySem.W.Frag) (N : Fb) (H : Hp) : List Sl → List V → Prop
  | [], vs => vs = []
  | s :: ss, vs => ∃ v r, vs = v :: r ∧ ArgOk K N H s v ∧ ArgsOk K N H ss r
@[simp] def pk : Sl → Option D
  | .val d => some d
  | .lent xs b => some (.lst xs b)
  | .own xs b => some (.lst xs b)
  | .no => none
theorem ArgOk.same {K : PySem.W.Frag} {N : Fb} {H H' : Hp} {s : Sl} {v : V} (h : ArgOk K N H s v) (sm : Same H H') : ArgOk K N H' s v := by
  cases s with
  | val d => exact Den.same h sm
  | lent xs fl => obtain ⟨a, vs, e, n, q, r⟩ := h; exact ⟨a, vs, e, n, q.same sm, r.same sm⟩
  | no => exact h
  | own xs fl => exact h
theorem ArgsOk.same {K : PySem.W.Frag} {N : Fb} {H H' : Hp} (sm : Same H H') : ∀ {ss : List Sl} {vs : List V}, ArgsOk K N H ss vs → ArgsOk K N H' ss vs
  | [], _, h => h
  | s :: ss, _, ⟨v, r, e, h, t⟩ => ⟨v, r, e, h.same sm, ArgsOk.same sm t⟩
theorem ArgOk.p {K : PySem.W.Frag} {N : Fb} {H : Hp} {s : Sl} {v : V} (h : ArgOk K N H s v) : ∃ d, pk s = some d ∧ DenP K N H d v := by
  cases s with
  | val d => exact ⟨d, rfl, Den.p h⟩
  | lent xs fl => obtain ⟨a, vs, e, n, q, r⟩ := h; subst e; exact ⟨_, rfl, denP_co q r⟩
  | no => exact False.elim h
  | own xs fl => exact False.elim h
theorem ArgsOk.length {K : PySem.W.Frag} {N : Fb} {H : Hp} : ∀ {ss : List Sl} {vs : List V}, ArgsOk K N H ss vs → ss.length = vs.length
  | [], _, h => by cases h; rfl
  | s :: ss, _, ⟨v, r, e, h, t⟩ => by subst e; simp [ArgsOk.length t]
theorem ArgsOk.get {K : PySem.W.Frag} {N : Fb} {H : Hp} : ∀ {ss : List Sl} {vs : List V} {i : Nat} {s : Sl}, ArgsOk K N H ss vs → ss[i]? = some s → ∃ v, vs[i]? = some v ∧ ArgOk K N H s v
  | [], _, i, s, h, e => by simp at e
  | _ :: ss, _, 0, s, ⟨v, r, e1, h, t⟩, e => by subst e1; simp at e; subst e; exact ⟨v, rfl, h⟩
  | _ :: ss, _, i + 1, s, ⟨v, r, e1, h, t⟩, e => by
    subst e1
    obtain ⟨w, h1, h2⟩ := ArgsOk.get (i := i) t (by simpa using e)
    exact ⟨w, by simpa using h1, h2⟩
def tA' (K : PySem.W.Frag) (M : Fb) (H0 : Hp) (f : VE → Option (List Sl)) : TA := fun σ H Q => ∃ ρ ss, Rel K M H0 ρ σ H ∧ f ρ = some ss ∧ ∀ vs H', Same H H' → ArgsOk K (Nf M ρ σ) H' ss vs → Q vs H'
def tS1 (K : PySem.W.Frag) (M : Fb) (H0 : Hp) (f : VE → Option Sl) : TE := fun σ H Q => ∃ ρ s, Rel K M H0 ρ σ H ∧ f ρ = some s ∧ ∀ v H', Same H H' → ArgOk K (Nf M ρ σ) H' s v → Q v H'
@[simp] def rdA (ρ : VE) (i : Nat) : Option Sl := match ρ[i]? with
  | some (.val d) => some (.val d)
  | some (.own xs b) => some (.lent xs b)
  | some (.lent xs b) => some (.lent xs b)
  | _ => none
@[simp] def valO (o : Option D) : Option Sl := o.map Sl.val
@[simp] def consO {α : Type} (a : Option α) (b : Option (List α)) : Option (List α) := a.bind fun x => b.bind fun y => some (x :: y)
theorem consO_inv {α : Type} {a : Option α} {b : Option (List α)} {l : List α} (h : consO a b = some l) : ∃ x y, a = some x ∧ b = some y ∧ l = x :: y := by
  cases a with
  | none => cases h
  | some x =>
    cases b with
    | none => cases h
    | some y => cases h; exact ⟨x, y, rfl, rfl, rfl⟩
section
variable {X : Cx} {K : PySem.W.Frag} {M : Fb} {H0 : Hp} {e a b : Expr} {es : List Expr} {f g : VE → Option D} {fa : VE → Option (List Sl)} {f1 : VE → Option Sl} {pos : Pos}
theorem va_var {i : Nat} {x : Str} (hN : X.N[i]? = some x) (hv : Vis X.env.scope x) (hd : (x == ("__debug__" : Str)) = false := by decide) (hcd : (x == ("__classdict__" : Str)) = false := by decide) : PE X (.Name x pos) (tS1 K M H0 fun ρ => rdA ρ i) :=
  (pe_var hN hv hd hcd).mono fun σ H Q ⟨ρ, d, R, e, q⟩ => by
    try dsimp only at e q
    have fin : ∀ v, σ[i]?.join = some v → ArgOk K (Nf M ρ σ) H d v → ∃ v, σ[i]? = some (some v) ∧ Q v H := fun v e1 h => by
      refine ⟨v, ?_, q v H (Same.refl H) h⟩
      cases z : σ[i]? with
      | none => rw [z] at e1; cases e1
      | some o => rw [z] at e1; cases e1; rfl
    unfold rdA at e
    split at e
    · next h => cases e; obtain ⟨v, e1, h⟩ := R.slot i _ h; exact fin v e1 h
    · next h =>
      cases e
      obtain ⟨a, vs, e1, _, _, h3, h4⟩ := R.slot i _ h
      refine fin _ e1 ⟨a, vs, rfl, .inr ⟨i, _, _, h, ?_⟩, .inl h3, h4⟩
      cases z : σ[i]? with
      | none => rw [z] at e1; cases e1
      | some o => rw [z] at e1; cases e1; rfl
    · next h => cases e; obtain ⟨a, vs, e1, h2, h3, h4⟩ := R.slot i _ h; exact fin _ e1 ⟨a, vs, rfl, .inl h2, h3, h4⟩
    · cases e
theorem va_e (h : PE X e (tD K M H0 f)) : PE X e (tS1 K M H0 fun ρ => valO (f ρ)) := h.mono fun σ H Q ⟨ρ, s, R, e, q⟩ => by
  try dsimp only at e q
  cases hf : f ρ with
  | none => rw [hf] at e; cases e
  | some d => rw [hf] at e; cases e; exact ⟨ρ, d, R, hf, fun v H' s hv => q v H' s hv⟩
theorem j_va_e (h : JE X e (tD K M H0 f)) : JE X e (tS1 K M H0 fun ρ => valO (f ρ)) := ⟨va_e h.h⟩
theorem va_nil : PA X [] (tA' K M H0 fun _ => some []) := pa_nil.mono fun σ H Q ⟨ρ, ss, R, e, q⟩ => by
  try dsimp only at e q
  cases e; exact q [] H (Same.refl H) rfl
theorem j_va_nil  : JA X [] (tA' K M H0 fun _ => some []) := ⟨va_nil ⟩
theorem va_cons (h : PE X e (tS1 K M H0 f1)) (hr : PA X es (tA' K M H0 fa)) (hs : starEach (e :: es) X.env = (false, eval e X.env) :: starEach es X.env := by exact star_c (fun _ _ z => nomatch z)) : PA X (e :: es) (tA' K M H0 fun ρ => consO (f1 ρ) (fa ρ)) := (pa_cons h hr hs).mono fun σ H Q ⟨ρ, ss, R, e, q⟩ => by
  try dsimp only at e q
  obtain ⟨s, r, e1, e2, e3⟩ := consO_inv e
  subst e3
  exact ⟨ρ, s, R, e1, fun v H1 s1 h1 => ⟨ρ, r, R.st s1, e2, fun vs H2 s2 h2 => q (v :: vs) H2 (s1.trans s2) ⟨v, vs, rfl, h1.same s2, h2⟩⟩⟩
theorem j_va_cons (h : JE X e (tS1 K M H0 f1)) (hr : JA X es (tA' K M H0 fa)) (hs : starEach (e :: es) X.env = (false, eval e X.env) :: starEach es X.env := by exact star_c (fun _ _ z => nomatch z)) : JA X (e :: es) (tA' K M H0 fun ρ => consO (f1 ρ) (fa ρ)) := ⟨va_cons h.h hr.h hs⟩
@[simp] def vals : List Sl → Option (List D)
  | [] => some []
  | .val d :: r => consO (some d) (vals r)
  | _ => none
theorem vals_den {K : PySem.W.Frag} {N : Fb} {H : Hp} : ∀ {ss : List Sl} {vs : List V} {ds : List D}, ArgsOk K N H ss vs → vals ss = some ds → DenL K N H ds vs
  | [], _, _, h, e => by cases e; cases h; exact DenL.nil
  | .val d :: r, _, _, ⟨v, t, e1, h, ht⟩, e => by
    obtain ⟨x, y, e2, e3, e4⟩ := consO_inv e
    cases e2; subst e1 e4
    exact DenL.cons h (vals_den ht e3)
  | .no :: _, _, _, _, e => nomatch e
  | .own _ _ :: _, _, _, _, e => nomatch e
  | .lent _ _ :: _, _, _, _, e => nomatch e
@[simp] def shortO {α : Type} (o : Option (List α)) : Option (List α) := o.bind fun l => if l.length ≤ sizeLine then some l else none
theorem shortO_inv {α : Type} {o : Option (List α)} {l : List α} (h : shortO o = some l) : o = some l ∧ l.length ≤ sizeLine := by
  cases o with
  | none => cases h
  | some x =>
    have h' : (if x.length ≤ sizeLine then some x else none) = some l := h
    split at h'
    · cases h'; exact ⟨rfl, by assumption⟩
    · cases h'
theorem same_new {H : Hp} {p : Addr} {o : HO} (h : H p = none) : Same H (upd H p o) := fun b u e => by rw [upd_ne (ne_of_none e h)]; exact e
theorem tF_new {fl : Bool} {ρ : VE} {σ : St} {H H1 : Hp} {Q : VK} {xs : List D} {vs : List V} {p : Addr} (s : Same H H1) (hp : H1 p = none) (h : DenL K (Nf M ρ σ) H1 xs vs)
    (q : ∀ a vs H', Same H H' → H a = none → H' a = some (CO fl xs vs) → DenL K (fun b => Nf M ρ σ b ∨ b = a) H' xs vs → Q (.ref a) H') : Q (.ref p) (upd H1 p (CO fl xs vs)) := by
  refine q p vs _ (s.trans (same_new hp)) (s.free hp) upd_same ?_
  refine (h.nw fun b hb => ?_).same (same_new hp)
  rcases hb with hb | hb
  · exact .inl hb
  · subst hb; exact .inr hp
theorem vf_lst (h : PA X es (tA' K M H0 fa)) : PE X (.List es pos) (tF K M H0 fun ρ => shortO ((fa ρ).bind vals)) := (pe_lst h).mono fun σ H Q ⟨ρ, xs, R, e, q⟩ => by
  try dsimp only at e q
  obtain ⟨e, hz⟩ := shortO_inv e
  cases hf : fa ρ with
  | none => rw [hf] at e; cases e
  | some ss =>
    rw [hf] at e
    refine ⟨ρ, ss, R, hf, fun vs H1 s1 h1 => ?_⟩
    have hd := vals_den h1 e
    exact ⟨by rw [← hd.length]; exact hz, fun p hp => tF_new s1 hp hd q⟩
theorem j_vf_lst (h : JA X es (tA' K M H0 fa)) : JE X (.List es pos) (tF K M H0 fun ρ => shortO ((fa ρ).bind vals)) := ⟨vf_lst h.h⟩
theorem ve_tup {x1} (h : PA X es (tA' K M H0 fa)) : PE X (.Tuple es x1 pos) (tD K M H0 fun ρ => (shortO ((fa ρ).bind vals)).map D.tup) := (pe_tup h).mono fun σ H Q ⟨ρ, d, R, e, q⟩ => by
  try dsimp only at e q
  cases hz : shortO ((fa ρ).bind vals) with
  | none => rw [hz] at e; cases e
  | some xs =>
    rw [hz] at e; cases e
    obtain ⟨e, hz⟩ := shortO_inv hz
    cases hf : fa ρ with
    | none => rw [hf] at e; cases e
    | some ss =>
      rw [hf] at e
      refine ⟨ρ, ss, R, hf, fun vs H1 s1 h1 => ?_⟩
      have hd := vals_den h1 e
      refine ⟨by rw [← hd.length]; exact hz, fun p hp => q _ _ (s1.trans (same_new hp)) ?_⟩
      simp only [Den]
      exact ⟨p, vs, rfl, SqT.of upd_same, hd.same (same_new hp)⟩
theorem j_ve_tup {x1} (h : JA X es (tA' K M H0 fa)) : JE X (.Tuple es x1 pos) (tD K M H0 fun ρ => (shortO ((fa ρ).bind vals)).map D.tup) := ⟨ve_tup h.h⟩
end
inductive Rv where
  | val (d : D) | own (xs : List D) (b : Bool := false)
def RvOk (K : PySem.W.Frag) (N : Fb) (H0 H' : Hp) : Rv → V → Prop
  | .val d, v => Den K N H' d v
  | .own xs b, v => ∃ a vs, v = .ref a ∧ H0 a = none ∧ H' a = some (CO b xs vs) ∧ DenL K (fun b => N b ∨ b = a) H' xs vs
def spD (K : PySem.W.Frag) (F : List Sl → Option Rv) : Sp := fun vs H Q _ => ∃ N ss r, (∀ a, N a → H a ≠ none) ∧ ArgsOk K N H ss vs ∧ F ss = some r ∧ ∀ v H', Same H H' → RvOk K N H H' r v → Q v H'
@[simp] def rvD : Rv → D
  | .val d => d
  | .own xs b => .lst xs b
@[simp] def rvF : Rv → Option (List D)
  | .own xs => some xs
  | _ => none
@[simp] def rvG : Rv → Option (List D)
  | .own xs true => some xs
  | _ => none
section
variable {X : Cx} {K : PySem.W.Frag} {M : Fb} {H0 : Hp} {e : Expr} {es : List Expr} {fa : VE → Option (List Sl)} {F : List Sl → Option Rv} {CX : CXT} {k : Nat} {fn : Addr} {fd : FuncData} {ps : List Str} {x : Str} {p pos : Pos} {E : XK}
@[simp] def callO (F : List Sl → Option Rv) (fa : VE → Option (List Sl)) : VE → Option D := fun ρ => (fa ρ).bind fun ss => (F ss).map rvD
@[simp] def callF (F : List Sl → Option Rv) (fa : VE → Option (List Sl)) : VE → Option (List D) := fun ρ => (fa ρ).bind fun ss => (F ss).bind rvF
theorem tCall_D {σ : St} {H : Hp} {Q : VK} (h : tD K M H0 (callO F fa) σ H Q) : tCall (spD K F) [] E (tA' K M H0 fa) σ H Q := by
  obtain ⟨ρ, d, R, e, q⟩ := h
  try dsimp only at e q
  unfold callO at e
  cases hf : fa ρ with
  | none => rw [hf] at e; cases e
  | some ss =>
    rw [hf] at e
    cases hF : F ss with
    | none => simp only [Option.bind, hF] at e; cases e
    | some r =>
      simp only [Option.bind, hF] at e; cases e
      refine ⟨ρ, ss, R, hf, fun vs H1 s1 h1 => ⟨Nf M ρ σ, ss, r, (R.st s1).nh, by rw [List.append_nil]; exact h1, hF, fun v H2 s2 h2 => q v H2 (s1.trans s2) ?_⟩⟩
      cases r with
      | val d => exact h2
      | own xs fl =>
        obtain ⟨a, ws, e1, z1, z2, z3⟩ := h2
        simp only [rvD, Den]
        exact ⟨a, ws, e1, .of (fun z => (R.st s1).fresh z1 z) z2, z3.nw fun b hb => .inl (.inl hb)⟩
@[simp] def callG (F : List Sl → Option Rv) (fa : VE → Option (List Sl)) : VE → Option (List D) := fun ρ => (fa ρ).bind fun ss => (F ss).bind rvG
theorem tCall_F {σ : St} {H : Hp} {Q : VK} (h : tF K M H0 (callF F fa) σ H Q) : tCall (spD K F) [] E (tA' K M H0 fa) σ H Q := by
  obtain ⟨ρ, d, R, e, q⟩ := h
  try dsimp only at e q
  unfold callF at e
  cases hf : fa ρ with
  | none => rw [hf] at e; cases e
  | some ss =>
    rw [hf] at e
    cases hF : F ss with
    | none => simp only [Option.bind, hF] at e; cases e
    | some r =>
      simp only [Option.bind, hF] at e
      cases r with
      | val d => cases e
      | own xs fl =>
        cases fl with
        | true => cases e
        | false =>
          cases e
          refine ⟨ρ, ss, R, hf, fun vs H1 s1 h1 => ⟨Nf M ρ σ, ss, _, (R.st s1).nh, by rw [List.append_nil]; exact h1, hF, fun v H2 s2 h2 => ?_⟩⟩
          obtain ⟨a, ws, e1, z1, z2, z3⟩ := h2
          subst e1
          exact q a ws H2 (s1.trans s2) (s1.free z1) z2 z3
theorem ve_call (G : FnOk X.prog X.w X.K X.mg X.base CX k fn fd ps (spD K F)) (hr : Room k X.A) (hg : Gl X x) (hm : X.mg x = some (.ref fn)) (hk : PySem.W.keepIn X.K (.ref fn) = true) (hb : Binds X.K fd ps []) (hx : Passes CX X E)
    (ha : PA X (e :: es) (tA' K M H0 fa)) (hdb : (x == ("__debug__" : Str)) = false := by decide) (he : starEach (e :: es) X.env = (false, eval e X.env) :: starEach es X.env := by exact star_c (fun _ _ z => nomatch z)) (hpl : (backTo pos (starEach es X.env)).any (·.1) = false := by rfl) :
    PE X (.Call (.Name x p) (e :: es) [] pos) (tD K M H0 (callO F fa)) := (pe_call G hr hg hm hk hb .nil hx ha hdb he hpl).mono fun _ _ _ h => tCall_D h
theorem j_ve_call (G : FnOk X.prog X.w X.K X.mg X.base CX k fn fd ps (spD K F)) (hr : Room k X.A) (hg : Gl X x) (hm : X.mg x = some (.ref fn)) (hk : PySem.W.keepIn X.K (.ref fn) = true) (hb : Binds X.K fd ps []) (hx : Passes CX X E) (ha : JA X (e :: es) (tA' K M H0 fa)) (hdb : (x == ("__debug__" : Str)) = false := by decide) (he : starEach (e :: es) X.env = (false, eval e X.env) :: starEach es X.env := by exact star_c (fun _ _ z => nomatch z)) (hpl : (backTo pos (starEach es X.env)).any (·.1) = false := by rfl) : JE X (.Call (.Name x p) (e :: es) [] pos) (tD K M H0 (callO F fa)) := ⟨ve_call G hr hg hm hk hb hx ha.h hdb he hpl⟩
theorem vf_call (G : FnOk X.prog X.w X.K X.mg X.base CX k fn fd ps (spD K F)) (hr : Room k X.A) (hg : Gl X x) (hm : X.mg x = some (.ref fn)) (hk : PySem.W.keepIn X.K (.ref fn) = true) (hb : Binds X.K fd ps []) (hx : Passes CX X E)
    (ha : PA X (e :: es) (tA' K M H0 fa)) (hdb : (x == ("__debug__" : Str)) = false := by decide) (he : starEach (e :: es) X.env = (false, eval e X.env) :: starEach es X.env := by exact star_c (fun _ _ z => nomatch z)) (hpl : (backTo pos (starEach es X.env)).any (·.1) = false := by rfl) :
    PE X (.Call (.Name x p) (e :: es) [] pos) (tF K M H0 (callF F fa)) := (pe_call G hr hg hm hk hb .nil hx ha hdb he hpl).mono fun _ _ _ h => tCall_F h
theorem j_vf_call (G : FnOk X.prog X.w X.K X.mg X.base CX k fn fd ps (spD K F)) (hr : Room k X.A) (hg : Gl X x) (hm : X.mg x = some (.ref fn)) (hk : PySem.W.keepIn X.K (.ref fn) = true) (hb : Binds X.K fd ps []) (hx : Passes CX X E) (ha : JA X (e :: es) (tA' K M H0 fa)) (hdb : (x == ("__debug__" : Str)) = false := by decide) (he : starEach (e :: es) X.env = (false, eval e X.env) :: starEach es X.env := by exact star_c (fun _ _ z => nomatch z)) (hpl : (backTo pos (starEach es X.env)).any (·.1) = false := by rfl) : JE X (.Call (.Name x p) (e :: es) [] pos) (tF K M H0 (callF F fa)) := ⟨vf_call G hr hg hm hk hb hx ha.h hdb he hpl⟩
end
def RcD (K : PySem.W.Frag) (r : List V → Hp → VK → Prop) (F : List D → Option D) : Prop := ∀ (N : Fb) (H : Hp) (vs : List V) (ds : List D) (d : D) (Q : VK), (∀ a, N a → H a ≠ none) → Paired (DenP K N H) ds vs → F ds = some d →
  (∀ v H', Same H H' → Den K N H' d v → Q v H') → r vs H Q
def RcF (K : PySem.W.Frag) (r : List V → Hp → VK → Prop) (F : List D → Option (List D)) : Prop := ∀ (N : Fb) (H : Hp) (vs : List V) (ds : List D) (xs : List D) (Q : VK), (∀ a, N a → H a ≠ none) → Paired (DenP K N H) ds vs → F ds = some xs →
  (∀ ws p, H p = none → DenL K N H xs ws → Q (.ref p) (upd H p (.lst ws))) → r vs H Q
@[simp] def pks : List Sl → Option (List D)
  | [] => some []
  | s :: r => consO (pk s) (pks r)
theorem pks_den {K : PySem.W.Frag} {N : Fb} {H : Hp} : ∀ {ss : List Sl} {vs : List V} {ds : List D}, ArgsOk K N H ss vs → pks ss = some ds → Paired (DenP K N H) ds vs
  | [], _, _, h, e => by cases e; cases h; exact .nil
  | s :: r, _, _, ⟨v, t, e1, h, ht⟩, e => by
    obtain ⟨x, y, e2, e3, e4⟩ := consO_inv e
    subst e1 e4
    obtain ⟨d, hd, hp⟩ := h.p
    rw [hd] at e2; cases e2
    exact .cons hp (pks_den ht e3)
section
variable {X : Cx} {K : PySem.W.Frag} {M : Fb} {H0 : Hp} {e : Expr} {es : List Expr} {fa : VE → Option (List Sl)} {x : Str} {p pos : Pos} {r : List V → Hp → VK → Prop} {F : List D → Option D} {G : List D → Option (List D)} {id : String}
@[simp] def bltO (F : List D → Option D) (fa : VE → Option (List Sl)) : VE → Option D := fun ρ => ((fa ρ).bind pks).bind F
@[simp] def bltF (F : List D → Option (List D)) (fa : VE → Option (List Sl)) : VE → Option (List D) := fun ρ => ((fa ρ).bind pks).bind F
theorem tCB_D (hr : RcD K r F) {σ : St} {H : Hp} {Q : VK} (h : tD K M H0 (bltO F fa) σ H Q) : tCB r (tA' K M H0 fa) σ H Q := by
  obtain ⟨ρ, d, R, e, q⟩ := h
  try dsimp only at e q
  unfold bltO at e
  cases hf : fa ρ with
  | none => rw [hf] at e; cases e
  | some ss =>
    rw [hf] at e
    cases hp : pks ss with
    | none => simp only [Option.bind, hp] at e; cases e
    | some ds =>
      simp only [Option.bind, hp] at e
      exact ⟨ρ, ss, R, hf, fun vs H1 s1 h1 => hr (Nf M ρ σ) H1 vs ds d Q (R.st s1).nh (pks_den h1 hp) e fun v H' s hv => q v H' (s1.trans s) hv⟩
theorem tCB_F (hr : RcF K r G) {σ : St} {H : Hp} {Q : VK} (h : tF K M H0 (bltF G fa) σ H Q) : tCB r (tA' K M H0 fa) σ H Q := by
  obtain ⟨ρ, d, R, e, q⟩ := h
  try dsimp only at e q
  unfold bltF at e
  cases hf : fa ρ with
  | none => rw [hf] at e; cases e
  | some ss =>
    rw [hf] at e
    cases hp : pks ss with
    | none => simp only [Option.bind, hp] at e; cases e
    | some ds =>
      simp only [Option.bind, hp] at e
      exact ⟨ρ, ss, R, hf, fun vs H1 s1 h1 => hr (Nf M ρ σ) H1 vs ds d Q (R.st s1).nh (pks_den h1 hp) e fun ws p hp hv => tF_new s1 hp hv q⟩
theorem ve_callB (hc : CallR X (.builtin id) r) (hF : RcD K r F) (hg : Gl X x) (hm : X.mg x = none) (hv : bootBuiltins x = some (.builtin id)) (ha : PA X (e :: es) (tA' K M H0 fa)) (hn : x ≠ "__name__" := by decide) (hdb : (x == ("__debug__" : Str)) = false := by decide)
    (he : starEach (e :: es) X.env = (false, eval e X.env) :: starEach es X.env := by exact star_c (fun _ _ z => nomatch z)) (hpl : (backTo pos (starEach es X.env)).any (·.1) = false := by rfl) : PE X (.Call (.Name x p) (e :: es) [] pos) (tD K M H0 (bltO F fa)) :=
  (pe_callB hc hg hm hv ha hn hdb he hpl).mono fun _ _ _ h => tCB_D hF h
theorem j_ve_callB (hc : CallR X (.builtin id) r) (hF : RcD K r F) (hg : Gl X x) (hm : X.mg x = none) (hv : bootBuiltins x = some (.builtin id)) (ha : JA X (e :: es) (tA' K M H0 fa)) (hn : x ≠ "__name__" := by decide) (hdb : (x == ("__debug__" : Str)) = false := by decide) (he : starEach (e :: es) X.env = (false, eval e X.env) :: starEach es X.env := by exact star_c (fun _ _ z => nomatch z)) (hpl : (backTo pos (starEach es X.env)).any (·.1) = false := by rfl) : JE X (.Call (.Name x p) (e :: es) [] pos) (tD K M H0 (bltO F fa)) := ⟨ve_callB hc hF hg hm hv ha.h hn hdb he hpl⟩
theorem ve_callTy (hc : CallR X (.type id) r) (hF : RcD K r F) (hg : Gl X x) (hm : X.mg x = none) (hv : bootBuiltins x = some (.type id)) (ha : PA X (e :: es) (tA' K M H0 fa)) (hn : x ≠ "__name__" := by decide) (hdb : (x == ("__debug__" : Str)) = false := by decide)
    (he : starEach (e :: es) X.env = (false, eval e X.env) :: starEach es X.env := by exact star_c (fun _ _ z => nomatch z)) (hpl : (backTo pos (starEach es X.env)).any (·.1) = false := by rfl) : PE X (.Call (.Name x p) (e :: es) [] pos) (tD K M H0 (bltO F fa)) :=
  (pe_callTy hc hg hm hv ha hn hdb he hpl).mono fun _ _ _ h => tCB_D hF h
theorem j_ve_callTy (hc : CallR X (.type id) r) (hF : RcD K r F) (hg : Gl X x) (hm : X.mg x = none) (hv : bootBuiltins x = some (.type id)) (ha : JA X (e :: es) (tA' K M H0 fa)) (hn : x ≠ "__name__" := by decide) (hdb : (x == ("__debug__" : Str)) = false := by decide) (he : starEach (e :: es) X.env = (false, eval e X.env) :: starEach es X.env := by exact star_c (fun _ _ z => nomatch z)) (hpl : (backTo pos (starEach es X.env)).any (·.1) = false := by rfl) : JE X (.Call (.Name x p) (e :: es) [] pos) (tD K M H0 (bltO F fa)) := ⟨ve_callTy hc hF hg hm hv ha.h hn hdb he hpl⟩
theorem vf_callTy (hc : CallR X (.type id) r) (hF : RcF K r G) (hg : Gl X x) (hm : X.mg x = none) (hv : bootBuiltins x = some (.type id)) (ha : PA X (e :: es) (tA' K M H0 fa)) (hn : x ≠ "__name__" := by decide) (hdb : (x == ("__debug__" : Str)) = false := by decide)
    (he : starEach (e :: es) X.env = (false, eval e X.env) :: starEach es X.env := by exact star_c (fun _ _ z => nomatch z)) (hpl : (backTo pos (starEach es X.env)).any (·.1) = false := by rfl) : PE X (.Call (.Name x p) (e :: es) [] pos) (tF K M H0 (bltF G fa)) :=
  (pe_callTy hc hg hm hv ha hn hdb he hpl).mono fun _ _ _ h => tCB_F hF h
theorem j_vf_callTy (hc : CallR X (.type id) r) (hF : RcF K r G) (hg : Gl X x) (hm : X.mg x = none) (hv : bootBuiltins x = some (.type id)) (ha : JA X (e :: es) (tA' K M H0 fa)) (hn : x ≠ "__name__" := by decide) (hdb : (x == ("__debug__" : Str)) = false := by decide) (he : starEach (e :: es) X.env = (false, eval e X.env) :: starEach es X.env := by exact star_c (fun _ _ z => nomatch z)) (hpl : (backTo pos (starEach es X.env)).any (·.1) = false := by rfl) : JE X (.Call (.Name x p) (e :: es) [] pos) (tF K M H0 (bltF G fa)) := ⟨vf_callTy hc hF hg hm hv ha.h hn hdb he hpl⟩
theorem RcD.or {r r' : List V → Hp → VK → Prop} {F F' : List D → Option D} (h : RcD K r F) (h' : RcD K r' F') : RcD K (fun xs H Q => r xs H Q ∨ r' xs H Q) (fun ds => orO (F ds) (F' ds)) := by
  intro N H vs ds d Q nh h1 e q
  cases hF : F ds with
  | some z => simp only [hF, orO] at e; cases e; exact .inl (h N H vs ds d Q nh h1 hF q)
  | none => simp only [hF, orO] at e; exact .inr (h' N H vs ds d Q nh h1 e q)
end
inductive Res where
  | fail | next (ρ : VE) | brk (ρ : VE) | cont (ρ : VE) | ret (r : Rv)
def Beh (K : PySem.W.Frag) (M : Fb) (H0 : Hp) (ρ : VE) (σ : St) (H : Hp) (ρ' : VE) (Q : St → Hp → Prop) : Prop := ∀ σ' H', Rel K M H0 ρ' σ' H' → Step M (Nf M ρ σ) (Nf M ρ' σ') H H' → Q σ' H'
def resOk (K : PySem.W.Frag) (M : Fb) (H0 : Hp) (ρ : VE) (σ : St) (H : Hp) (D : Ends) : Res → Prop
  | .fail => False
  | .next ρ' => Beh K M H0 ρ σ H ρ' D.nx
  | .brk ρ' => Beh K M H0 ρ σ H ρ' D.bk
  | .cont ρ' => Beh K M H0 ρ σ H ρ' D.ct
  | .ret r => ∀ v H', Same H0 H' → RvOk K M H0 H' r v → D.rt v H'
def tS (K : PySem.W.Frag) (M : Fb) (H0 : Hp) (g : VE → Res) : TS := fun D σ H => ∃ ρ, Rel K M H0 ρ σ H ∧ resOk K M H0 ρ σ H D (g ρ)
@[simp] def seqR (a : Res) (g : VE → Res) : Res := match a with
  | .next ρ => g ρ
  | r => r
theorem Beh.from {K : PySem.W.Frag} {M : Fb} {H0 : Hp} {ρ ρ1 ρ' : VE} {σ σ1 : St} {H H1 : Hp} {Q : St → Hp → Prop} (s : Step M (Nf M ρ σ) (Nf M ρ1 σ1) H H1) (h : Beh K M H0 ρ σ H ρ' Q) : Beh K M H0 ρ1 σ1 H1 ρ' Q :=
  fun σ' H' R s' => h σ' H' R (s.trans s')
theorem resOk.from {K : PySem.W.Frag} {M : Fb} {H0 : Hp} {ρ ρ1 : VE} {σ σ1 : St} {H H1 : Hp} {D : Ends} {r : Res} (s : Step M (Nf M ρ σ) (Nf M ρ1 σ1) H H1) (h : resOk K M H0 ρ σ H D r) : resOk K M H0 ρ1 σ1 H1 D r := by
  cases r with
  | fail => exact h
  | next ρ' => exact Beh.from s h
  | brk ρ' => exact Beh.from s h
  | cont ρ' => exact Beh.from s h
  | ret r => exact h
section
variable {X : Cx} {K : PySem.W.Frag} {M : Fb} {H0 : Hp} {st : Stmt} {rest : List Stmt} {g g1 g2 : VE → Res} {pos : Pos} {e : Expr} {f : VE → Option D}
theorem vs_nil : PSs X [] (tS K M H0 fun ρ => .next ρ) := pss_nil.mono fun D σ H ⟨ρ, R, q⟩ => q σ H R Step.refl
theorem j_vs_nil  : JB X [] (tS K M H0 fun ρ => .next ρ) := ⟨vs_nil ⟩
theorem vs_cons (h1 : PS X st (tS K M H0 g1)) (h2 : PSs X rest (tS K M H0 g2)) : PSs X (st :: rest) (tS K M H0 fun ρ => seqR (g1 ρ) g2) := (pss_cons h1 h2).mono fun D σ H ⟨ρ, R, q⟩ => by
  try dsimp only at q
  refine ⟨ρ, R, ?_⟩
  cases hg : g1 ρ with
  | fail => rw [hg] at q; exact q
  | next ρ1 => rw [hg] at q; exact fun σ1 H1 R1 s1 => ⟨ρ1, R1, q.from s1⟩
  | brk ρ1 => rw [hg] at q; exact q
  | cont ρ1 => rw [hg] at q; exact q
  | ret r => rw [hg] at q; exact q
theorem j_vs_cons (h1 : JS X st (tS K M H0 g1)) (h2 : JB X rest (tS K M H0 g2)) : JB X (st :: rest) (tS K M H0 fun ρ => seqR (g1 ρ) g2) := ⟨vs_cons h1.h h2.h⟩
@[simp] def retO (o : Option D) : Res := match o with
  | some d => .ret (.val d)
  | none => .fail
theorem vs_ret (h : PE X e (tD K M H0 f)) : PS X (.Return (some e) pos) (tS K M H0 fun ρ => retO (f ρ)) := (ps_ret h).mono fun D σ H ⟨ρ, R, q⟩ => by
  try dsimp only at q
  cases hf : f ρ with
  | none => rw [hf] at q; exact False.elim q
  | some d =>
    rw [hf] at q
    exact ⟨ρ, d, R, hf, fun v H' s hv => q v H' (R.same.trans s) (hv.nw fun a ha => .inl (.inl ha))⟩
theorem j_vs_ret (h : JE X e (tD K M H0 f)) : JS X (.Return (some e) pos) (tS K M H0 fun ρ => retO (f ρ)) := ⟨vs_ret h.h⟩
@[simp] def retF (o : Option (List D)) : Res := match o with
  | some xs => .ret (.own xs)
  | none => .fail
@[simp] def retG (o : Option (List D)) : Res := match o with
  | some xs => .ret (.own xs true)
  | none => .fail
theorem vs_retF {f : VE → Option (List D)} (h : PE X e (tF K M H0 f)) : PS X (.Return (some e) pos) (tS K M H0 fun ρ => retF (f ρ)) := (ps_ret h).mono fun D σ H ⟨ρ, R, q⟩ => by
  try dsimp only at q
  cases hf : f ρ with
  | none => rw [hf] at q; exact False.elim q
  | some xs =>
    rw [hf] at q
    exact ⟨ρ, xs, R, hf, fun a vs H' s z1 z2 z3 => q (.ref a) H' (R.same.trans s) ⟨a, vs, rfl, R.same.free z1, z2, z3.nw fun b hb => by
      rcases hb with hb | hb
      · exact .inl (.inl (.inl hb))
      · exact .inl (.inr hb)⟩⟩
theorem j_vs_retF {f : VE → Option (List D)} (h : JE X e (tF K M H0 f)) : JS X (.Return (some e) pos) (tS K M H0 fun ρ => retF (f ρ)) := ⟨vs_retF h.h⟩
@[simp] def rdO (ρ : VE) (i : Nat) : Option (List D) := match ρ[i]? with
  | some (.own xs) => some xs
  | _ => none
theorem rdO_slot {ρ : VE} {i : Nat} {xs : List D} (h : rdO ρ i = some xs) : ρ[i]? = some (.own xs) := by
  unfold rdO at h
  split at h
  · cases h; assumption
  · cases h
@[simp] def rdG (ρ : VE) (i : Nat) : Option (List D) := match ρ[i]? with
  | some (.own xs true) => some xs
  | _ => none
theorem rdG_slot {ρ : VE} {i : Nat} {xs : List D} (h : rdG ρ i = some xs) : ρ[i]? = some (.own xs true) := by
  unfold rdG at h
  split at h
  · cases h; assumption
  · cases h
theorem join_some {σ : St} {i : Nat} {v : V} (e1 : σ[i]?.join = some v) : σ[i]? = some (some v) := by
  cases z : σ[i]? with
  | none => rw [z] at e1; cases e1
  | some o => rw [z] at e1; cases e1; rfl
theorem vs_retO {i : Nat} {x : Str} {vpos : Pos} (hN : X.N[i]? = some x) (hv : Vis X.env.scope x) (hd : (x == ("__debug__" : Str)) = false := by decide) (hcd : (x == ("__classdict__" : Str)) = false := by decide) :
    PS X (.Return (some (.Name x vpos)) pos) (tS K M H0 fun ρ => retF (rdO ρ i)) := (ps_ret (pe_var hN hv hd hcd)).mono fun D σ H ⟨ρ, R, q⟩ => by
  try dsimp only at q
  cases hf : rdO ρ i with
  | none => rw [hf] at q; exact False.elim q
  | some xs =>
    rw [hf] at q
    obtain ⟨a, vs, e1, z1, z2, z3, z4⟩ := R.slot i _ (rdO_slot hf)
    refine ⟨.ref a, join_some e1, q (.ref a) H R.same ⟨a, vs, rfl, z1, z3, z4.nw fun b hb => .inl ?_⟩⟩
    rcases hb with hb | hb
    · exact .inl hb
    · subst hb; exact .inr ⟨i, xs, _, rdO_slot hf, join_some e1⟩
@[simp] def iteR (c : Option Bool) (a b : Res) : Res := match c with
  | some true => a
  | some false => b
  | none => .fail
theorem vs_if {c : Expr} {a b : List Stmt} {t : VE → Option Bool} (hc : PT X c (tB' K M H0 t)) (ha : PSs X a (tS K M H0 g1)) (hb : PSs X b (tS K M H0 g2)) : PS X (.If c a b pos) (tS K M H0 fun ρ => iteR (t ρ) (g1 ρ) (g2 ρ)) := (ps_if hc ha hb).mono fun D σ H ⟨ρ, R, q⟩ => by
  try dsimp only at q
  cases ht : t ρ with
  | none => rw [ht] at q; exact False.elim q
  | some k =>
    rw [ht] at q
    refine ⟨ρ, k, R, ht, fun H1 s => ?_⟩
    cases k with
    | true => refine ite_t ?_; exact ⟨ρ, R.st s, resOk.from (Step.of_same s) q⟩
    | false => refine ite_f ?_; exact ⟨ρ, R.st s, resOk.from (Step.of_same s) q⟩
theorem j_vs_if {c : Expr} {a b : List Stmt} {t : VE → Option Bool} (hc : JT X c (tB' K M H0 t)) (ha : JB X a (tS K M H0 g1)) (hb : JB X b (tS K M H0 g2)) : JS X (.If c a b pos) (tS K M H0 fun ρ => iteR (t ρ) (g1 ρ) (g2 ρ)) := ⟨vs_if hc.h ha.h hb.h⟩
theorem set_get {α : Type} {l : List α} {i : Nat} {x y : α} (h : (l.set i x)[i]? = some y) : i < l.length ∧ x = y := by
  by_cases hi : i < l.length
  · rw [List.getElem?_set_self hi] at h; exact ⟨hi, Option.some.inj h⟩
  · rw [List.getElem?_eq_none (by simpa using Nat.le_of_not_lt hi)] at h; cases h
theorem nf_set {M : Fb} {ρ : VE} {σ : St} {i : Nat} {s : Sl} {v : V} {b : Addr} (hl : ρ.length = σ.length) (h : Nf M (ρ.set i s) (σ.set i (some v)) b) : Nf M ρ σ b ∨ ∃ xs fl, s = .own xs fl ∧ v = .ref b := by
  rcases h with h | ⟨j, xs, fl, h1, h2⟩
  · exact .inl (.inl h)
  · by_cases e : i = j
    · subst e
      have q1 := (set_get h1).2
      have q2 := (set_get h2).2
      cases q1; cases q2; exact .inr ⟨xs, fl, rfl, rfl⟩
    · rw [List.getElem?_set_ne e] at h1 h2
      exact .inl (.inr ⟨j, xs, fl, h1, h2⟩)
theorem Rel.put {ρ : VE} {σ : St} {H H' : Hp} {i : Nat} {s : Sl} {v : V} (R : Rel K M H0 ρ σ H) (S : Step M (Nf M ρ σ) (Nf M (ρ.set i s) (σ.set i (some v))) H H') (sm : Same H0 H')
    (ow : ∀ j a vs xs fl, j ≠ i → ρ[j]? = some (.own xs fl) → σ[j]? = some (some (.ref a)) → H a = some (CO fl xs vs) → H' a = some (CO fl xs vs))
    (hs : i < ρ.length → SlOk K M (Nf M (ρ.set i s) (σ.set i (some v))) H0 H' s (some v))
    (hinj : ∀ xs fl a j ys fl', s = .own xs fl → v = .ref a → j ≠ i → ρ[j]? = some (.own ys fl') → σ[j]? ≠ some (some (.ref a))) : Rel K M H0 (ρ.set i s) (σ.set i (some v)) H' where
  len := by rw [List.length_set, List.length_set]; exact R.len
  same := sm
  mh := fun a h z => by
    cases e : H a with
    | none => exact R.mh a h e
    | some o => rw [S.kp a o e (.inr (.inl h))] at z; cases z
  slot := fun j sl e => by
    by_cases eij : i = j
    · subst eij
      obtain ⟨hi, e⟩ := set_get e
      subst e
      rw [List.getElem?_set_self (by rw [← R.len]; exact hi)]
      exact hs hi
    · rw [List.getElem?_set_ne eij] at e ⊢
      have q := R.slot j sl e
      cases sl with
      | no => trivial
      | val d => obtain ⟨u, e1, h⟩ := q; exact ⟨u, e1, Den.step S d u h⟩
      | own xs fl => obtain ⟨a, vs, e1, h1, h2, h3, h4⟩ := q; exact ⟨a, vs, e1, h1, h2, ow j a vs xs fl (Ne.symm eij) e (join_some e1) h3, DenL.step S xs vs h4⟩
      | lent xs fl => obtain ⟨a, vs, e1, h1, h2, h3⟩ := q; exact ⟨a, vs, e1, h1, h2.step S (.inr (.inl h1)), DenL.step S xs vs h3⟩
  inj := fun j k xs ys fl fl' a h1 h2 h3 h4 => by
    by_cases ej : i = j
    · by_cases ek : i = k
      · rw [← ej, ek]
      · subst ej
        rw [List.getElem?_set_ne ek] at h2 h4
        have q1 := (set_get h1).2
        have q3 := (set_get h3).2
        cases q1; cases q3; exact absurd h4 (hinj xs fl a k ys fl' rfl rfl (Ne.symm ek) h2)
    · rw [List.getElem?_set_ne ej] at h1 h3
      by_cases ek : i = k
      · subst ek
        have q2 := (set_get h2).2
        have q4 := (set_get h4).2
        cases q2; cases q4; exact absurd h3 (hinj ys fl' a j xs fl rfl rfl (Ne.symm ej) h1)
      · rw [List.getElem?_set_ne ek] at h2 h4
        exact R.inj j k xs ys fl fl' a h1 h2 h3 h4
theorem Rel.setV {ρ : VE} {σ : St} {H H' : Hp} {i : Nat} {d : D} {v : V} (R : Rel K M H0 ρ σ H) (s : Same H H') (h : Den K (Nf M ρ σ) H' d v) :
    Rel K M H0 (ρ.set i (.val d)) (σ.set i (some v)) H' ∧ Step M (Nf M ρ σ) (Nf M (ρ.set i (.val d)) (σ.set i (some v))) H H' := by
  have S : Step M (Nf M ρ σ) (Nf M (ρ.set i (.val d)) (σ.set i (some v))) H H' := ⟨fun a o e _ => s a o e, fun b hb => by
    rcases nf_set R.len hb with q | ⟨xs, _, e, _⟩
    · exact .inl q
    · cases e⟩
  refine ⟨R.put S (R.same.trans s) (fun j a vs xs fl _ _ _ e => s _ _ e) (fun _ => ⟨v, rfl, h.nw fun b hb => ?_⟩) (fun xs fl a j ys fl' e => nomatch e), S⟩
  rcases nf_set R.len hb with q | ⟨xs, _, e, _⟩
  · exact .inl q
  · cases e
theorem Rel.setO {fl : Bool} {ρ : VE} {σ : St} {H H' : Hp} {i : Nat} {xs : List D} {a : Addr} {vs : List V} (R : Rel K M H0 ρ σ H) (s : Same H H') (hn : H a = none) (ha : H' a = some (CO fl xs vs)) (h : DenL K (fun b => Nf M ρ σ b ∨ b = a) H' xs vs) :
    Rel K M H0 (ρ.set i (.own xs fl)) (σ.set i (some (.ref a))) H' ∧ Step M (Nf M ρ σ) (Nf M (ρ.set i (.own xs fl)) (σ.set i (some (.ref a)))) H H' := by
  have nf : ∀ b, Nf M (ρ.set i (.own xs fl)) (σ.set i (some (.ref a))) b → Nf M ρ σ b ∨ b = a := fun b hb => by
    rcases nf_set R.len hb with q | ⟨xs, fl, e, e'⟩
    · exact .inl q
    · cases e'; exact .inr rfl
  have S : Step M (Nf M ρ σ) (Nf M (ρ.set i (.own xs fl)) (σ.set i (some (.ref a)))) H H' := ⟨fun a o e _ => s a o e, fun b hb => by
    rcases nf b hb with q | q
    · exact .inl q
    · subst q; exact .inr hn⟩
  refine ⟨R.put S (R.same.trans s) (fun j a vs xs fl _ _ _ e => s _ _ e) (fun _ => ⟨a, vs, rfl, R.same.free hn, fun hm => R.fresh hn (.inl hm), ha, h.nw fun b hb => .inl (nf b hb)⟩) (fun xs' fl' a' j ys fl2 e e' hj h1 h2 => ?_), S⟩
  cases e'
  exact R.fresh hn (.inr ⟨j, ys, fl2, h1, h2⟩)
theorem Rel.chg {fl fl2 : Bool} {ρ : VE} {σ : St} {H : Hp} {i : Nat} {xs ys : List D} {a : Addr} {ws : List V} (R : Rel K M H0 ρ σ H) (hi : ρ[i]? = some (.own xs fl)) (ha : σ[i]? = some (some (.ref a))) (h : DenL K (Nf M ρ σ) H ys ws) :
    Rel K M H0 (ρ.set i (.own ys fl2)) σ (upd H a (CO fl2 ys ws)) ∧ Step M (Nf M ρ σ) (Nf M (ρ.set i (.own ys fl2)) σ) H (upd H a (CO fl2 ys ws)) := by
  obtain ⟨a', vs, e1, z1, z2, z3, z4⟩ := R.slot i _ hi
  rw [ha] at e1
  have ea : a = a' := by simpa using e1
  subst ea
  have hσ : σ.set i (some (.ref a)) = σ := by
    apply List.ext_getElem?
    intro j
    by_cases e : i = j
    · subst e
      rw [List.getElem?_set_self (List.getElem?_eq_some_iff.mp ha).1, ha]
    · rw [List.getElem?_set_ne e]
  have na : Nf M ρ σ a := .inr ⟨i, xs, fl, hi, ha⟩
  have nf : ∀ b, Nf M (ρ.set i (.own ys fl2)) (σ.set i (some (.ref a))) b → Nf M ρ σ b := fun b hb => by
    rcases nf_set R.len hb with q | ⟨xs, _, e, e'⟩
    · exact q
    · cases e'; exact na
  have S : Step M (Nf M ρ σ) (Nf M (ρ.set i (.own ys fl2)) (σ.set i (some (.ref a)))) H (upd H a (CO fl2 ys ws)) := ⟨fun b o e z => by
      have ne : b ≠ a := by
        rintro rfl
        rcases z with z | z | z
        · exact z na
        · exact z2 z
        · rw [z3] at e; cases e; rw [isL_CO] at z; cases z
      rw [upd_ne ne]; exact e, fun b hb => .inl (nf b hb)⟩
  have key : Rel K M H0 (ρ.set i (.own ys fl2)) (σ.set i (some (.ref a))) (upd H a (CO fl2 ys ws)) := by
    refine R.put S (fun b o e => ?_) (fun j b us xs' fl' hj h1 h2 h3 => ?_) (fun _ => ⟨a, ws, rfl, z1, z2, upd_same, DenL.step S ys ws h⟩) (fun xs' fl3 b j ys' fl' e e' hj h1 h2 => ?_)
    · have ne : b ≠ a := by
        rintro rfl
        rw [z1] at e; cases e
      rw [upd_ne ne]; exact R.same b o e
    · have ne : b ≠ a := by
        rintro rfl
        exact hj (R.inj j i xs' xs fl' fl b h1 hi h2 ha)
      rw [upd_ne ne]; exact h3
    · cases e'
      exact hj (R.inj j i ys' xs fl' fl _ h1 hi h2 ha)
  rw [hσ] at key S
  exact ⟨key, S⟩
theorem Rel.frz {fl : Bool} {ρ : VE} {σ : St} {H : Hp} {i : Nat} {xs : List D} (R : Rel K M H0 ρ σ H) (hi : ρ[i]? = some (.own xs fl)) :
    Rel K M H0 (ρ.set i (.val (.lst xs fl))) σ H ∧ Step M (Nf M ρ σ) (Nf M (ρ.set i (.val (.lst xs fl))) σ) H H := by
  obtain ⟨a, vs, e1, z1, z2, z3, z4⟩ := R.slot i _ hi
  have ha := join_some e1
  have hσ : σ.set i (some (.ref a)) = σ := by
    apply List.ext_getElem?
    intro j
    by_cases e : i = j
    · subst e
      rw [List.getElem?_set_self (List.getElem?_eq_some_iff.mp ha).1, ha]
    · rw [List.getElem?_set_ne e]
  have nf : ∀ b, Nf M (ρ.set i (.val (.lst xs fl))) (σ.set i (some (.ref a))) b → Nf M ρ σ b := fun b hb => by
    rcases nf_set R.len hb with q | ⟨xs, _, e, e'⟩
    · exact q
    · cases e
  have nna : ¬ Nf M (ρ.set i (.val (.lst xs fl))) (σ.set i (some (.ref a))) a := by
    rintro (h | ⟨j, ys, fl', h1, h2⟩)
    · exact z2 h
    · by_cases e : i = j
      · subst e
        have q1 := (set_get h1).2
        cases q1
      · rw [List.getElem?_set_ne e] at h1 h2
        exact e (R.inj i j xs ys _ _ a hi h1 ha h2)
  have S : Step M (Nf M ρ σ) (Nf M (ρ.set i (.val (.lst xs fl))) (σ.set i (some (.ref a)))) H H := ⟨fun _ _ e _ => e, fun b hb => .inl (nf b hb)⟩
  have key : Rel K M H0 (ρ.set i (.val (.lst xs fl))) (σ.set i (some (.ref a))) H := by
    refine R.put S R.same (fun _ _ _ _ _ _ _ _ h => h) (fun _ => ⟨.ref a, rfl, ?_⟩) (fun xs' _ b j ys' _ e => nomatch e)
    simp only [Den]
    exact ⟨a, vs, rfl, .of nna z3, DenL.step S xs vs z4⟩
  rw [hσ] at key S
  exact ⟨key, S⟩
@[simp] def setR (i : Nat) (o : Option D) (ρ : VE) : Res := match o with
  | some d => .next (ρ.set i (.val d))
  | none => .fail
@[simp] def setRF (i : Nat) (o : Option (List D)) (ρ : VE) : Res := match o with
  | some xs => .next (ρ.set i (.own xs))
  | none => .fail
@[simp] def setRG (i : Nat) (o : Option (List D)) (ρ : VE) : Res := match o with
  | some xs => .next (ρ.set i (.own xs true))
  | none => .fail
theorem tAsg_G {f : VE → Option (List D)} {i : Nat} {D' : Ends} {σ : St} {H : Hp} (h : tS K M H0 (fun ρ => setRG i (f ρ) ρ) D' σ H) : tAsg (tFb true K M H0 f) (gName i) D' σ H := by
  obtain ⟨ρ, R, q⟩ := h
  try dsimp only at q
  cases hf : f ρ with
  | none => simp only [hf, setRG] at q; exact False.elim q
  | some d =>
    simp only [hf, setRG] at q
    refine ⟨ρ, d, R, hf, fun a vs H1 s z1 z2 z3 => ?_⟩
    obtain ⟨R1, S1⟩ := R.setO (i := i) s z1 z2 z3
    exact q _ _ R1 S1
theorem vs_setG {f : VE → Option (List D)} {i : Nat} {x : Str} {pos' : Pos} (hN : X.N.Nodup) (hi : X.N[i]? = some x) (hx : Loc X.env.scope x) (he : PE X e (tFb true K M H0 f)) (hs : swapsWith e (some (.Name x pos')) pos.line X.env = pure false := by rfl) (hf : X.fn x = true ∨ X.env.scope.names.lookup x = some .local := by first | exact .inl rfl | exact .inr rfl | assumption) :
    PS X (.Assign [.Name x pos'] e pos) (tS K M H0 fun ρ => setRG i (f ρ) ρ) := (ps_set hN hi hx he hs hf).mono fun _ _ _ q => tAsg_G q
theorem j_vs_setG {f : VE → Option (List D)} {i : Nat} {x : Str} {pos' : Pos} (hN : X.N.Nodup) (hi : X.N[i]? = some x) (hx : Loc X.env.scope x) (he : JE X e (tFb true K M H0 f)) (hs : swapsWith e (some (.Name x pos')) pos.line X.env = pure false := by rfl) (hf : X.fn x = true ∨ X.env.scope.names.lookup x = some .local := by first | exact .inl rfl | exact .inr rfl | assumption) : JS X (.Assign [.Name x pos'] e pos) (tS K M H0 fun ρ => setRG i (f ρ) ρ) := ⟨vs_setG hN hi hx he.h hs hf⟩
theorem tAsg_D {i : Nat} {D' : Ends} {σ : St} {H : Hp} (h : tS K M H0 (fun ρ => setR i (f ρ) ρ) D' σ H) : tAsg (tD K M H0 f) (gName i) D' σ H := by
  obtain ⟨ρ, R, q⟩ := h
  try dsimp only at q
  cases hf : f ρ with
  | none => simp only [hf, setR] at q; exact False.elim q
  | some d =>
    simp only [hf, setR] at q
    refine ⟨ρ, d, R, hf, fun v H1 s hv => ?_⟩
    obtain ⟨R1, S1⟩ := R.setV (i := i) s hv
    exact q _ _ R1 S1
theorem tAsg_F {f : VE → Option (List D)} {i : Nat} {D' : Ends} {σ : St} {H : Hp} (h : tS K M H0 (fun ρ => setRF i (f ρ) ρ) D' σ H) : tAsg (tF K M H0 f) (gName i) D' σ H := by
  obtain ⟨ρ, R, q⟩ := h
  try dsimp only at q
  cases hf : f ρ with
  | none => simp only [hf, setRF] at q; exact False.elim q
  | some d =>
    simp only [hf, setRF] at q
    refine ⟨ρ, d, R, hf, fun a vs H1 s z1 z2 z3 => ?_⟩
    obtain ⟨R1, S1⟩ := R.setO (i := i) s z1 z2 z3
    exact q _ _ R1 S1
theorem vs_set {i : Nat} {x : Str} {pos' : Pos} (hN : X.N.Nodup) (hi : X.N[i]? = some x) (hx : Loc X.env.scope x) (he : PE X e (tD K M H0 f)) (hs : swapsWith e (some (.Name x pos')) pos.line X.env = pure false := by rfl) (hf : X.fn x = true ∨ X.env.scope.names.lookup x = some .local := by first | exact .inl rfl | exact .inr rfl | assumption) :
    PS X (.Assign [.Name x pos'] e pos) (tS K M H0 fun ρ => setR i (f ρ) ρ) := (ps_set hN hi hx he hs hf).mono fun _ _ _ q => tAsg_D q
theorem j_vs_set {i : Nat} {x : Str} {pos' : Pos} (hN : X.N.Nodup) (hi : X.N[i]? = some x) (hx : Loc X.env.scope x) (he : JE X e (tD K M H0 f)) (hs : swapsWith e (some (.Name x pos')) pos.line X.env = pure false := by rfl) (hf : X.fn x = true ∨ X.env.scope.names.lookup x = some .local := by first | exact .inl rfl | exact .inr rfl | assumption) : JS X (.Assign [.Name x pos'] e pos) (tS K M H0 fun ρ => setR i (f ρ) ρ) := ⟨vs_set hN hi hx he.h hs hf⟩
theorem vs_setF {f : VE → Option (List D)} {i : Nat} {x : Str} {pos' : Pos} (hN : X.N.Nodup) (hi : X.N[i]? = some x) (hx : Loc X.env.scope x) (he : PE X e (tF K M H0 f)) (hs : swapsWith e (some (.Name x pos')) pos.line X.env = pure false := by rfl) (hf : X.fn x = true ∨ X.env.scope.names.lookup x = some .local := by first | exact .inl rfl | exact .inr rfl | assumption) :
    PS X (.Assign [.Name x pos'] e pos) (tS K M H0 fun ρ => setRF i (f ρ) ρ) := (ps_set hN hi hx he hs hf).mono fun _ _ _ q => tAsg_F q
theorem j_vs_setF {f : VE → Option (List D)} {i : Nat} {x : Str} {pos' : Pos} (hN : X.N.Nodup) (hi : X.N[i]? = some x) (hx : Loc X.env.scope x) (he : JE X e (tF K M H0 f)) (hs : swapsWith e (some (.Name x pos')) pos.line X.env = pure false := by rfl) (hf : X.fn x = true ∨ X.env.scope.names.lookup x = some .local := by first | exact .inl rfl | exact .inr rfl | assumption) : JS X (.Assign [.Name x pos'] e pos) (tS K M H0 fun ρ => setRF i (f ρ) ρ) := ⟨vs_setF hN hi hx he.h hs hf⟩
@[simp] def frzR (i : Nat) (ρ : VE) : VE := match ρ[i]? with
  | some (.own xs b) => ρ.set i (.val (.lst xs b))
  | _ => ρ
theorem vs_frz (i : Nat) (h : PS X st (tS K M H0 g)) : PS X st (tS K M H0 fun ρ => g (frzR i ρ)) := h.mono fun D' σ H ⟨ρ, R, q⟩ => by
  try dsimp only at q
  unfold frzR at q
  split at q
  · next xs hi =>
    obtain ⟨R1, S1⟩ := R.frz hi
    exact ⟨_, R1, q.from S1⟩
  · exact ⟨ρ, R, q⟩
theorem j_vs_frz (i : Nat) (h : JS X st (tS K M H0 g)) : JS X st (tS K M H0 fun ρ => g (frzR i ρ)) := ⟨vs_frz i h.h⟩
@[simp] def appR (i : Nat) (o : Option D) (ρ : VE) : Res := match rdO ρ i, o with
  | some xs, some d => if xs.length < sizeLine then .next (ρ.set i (.own (xs ++ [d]))) else .fail
  | _, _ => .fail
theorem vs_append {i : Nat} {x : Str} {vpos apos cpos : Pos} (hN : X.N[i]? = some x) (hv : Vis X.env.scope x) (he : PE X e (tD K M H0 f)) (hd : (x == ("__debug__" : Str)) = false := by decide) (hcd : (x == ("__classdict__" : Str)) = false := by decide)
    (hs : swapsWith (.Call (.Attribute (.Name x vpos) "append" apos) [e] [] cpos) none pos.line X.env = pure false := by rfl)
    (hbase : attributeBase (.Name x vpos) "append" X.env (eval (.Name x vpos) X.env) = eval (.Name x vpos) X.env := by rfl)
    (hfew : ((backTo cpos (starEach [e] X.env)).all (fun x => !x.1) && (backToKw cpos (keywordEach [] X.env)).all (fun x => x.1.isSome)
      && decide ([e].length + ([] : List Keyword).length + (if ([] : List Keyword).isEmpty then 0 else 1) < 30)) = true := by rfl)
    (hline : (apos.endLine == cpos.line) = true := by rfl) (hst : starEach [e] X.env = (false, eval e X.env) :: starEach [] X.env := by rfl) (hpl : (backTo cpos (starEach [] X.env)).any (·.1) = false := by rfl) :
    PS X (.Expr (.Call (.Attribute (.Name x vpos) "append" apos) [e] [] cpos) pos) (tS K M H0 fun ρ => appR i (f ρ) ρ) :=
  (ps_expr (pe_bm PySem.F.plainAttrs_list PySem.F.slot_list_append PySem.F.type_list_append mt_append (pe_var hN hv hd hcd) (pa_cons he pa_nil hst) hbase hfew hline hst hpl) hs).mono fun D' σ H ⟨ρ, R, q⟩ => by
    try dsimp only at q
    cases hr : rdO ρ i with
    | none => simp only [hr, appR] at q; exact False.elim q
    | some xs =>
      cases hf : f ρ with
      | none => simp only [hr, hf, appR] at q; exact False.elim q
      | some d =>
        simp only [hr, hf, appR] at q
        split at q
        · next hz =>
          have hi := rdO_slot hr
          obtain ⟨a, vs, e1, z1, z2, z3, z4⟩ := R.slot i _ hi
          have ha := join_some e1
          refine ⟨.ref a, ha, .inl ⟨rfl, vs, .inl (.inl z3)⟩, ρ, d, R, hf, fun v H1 s hv => ?_⟩
          have R1 := R.st s
          obtain ⟨R2, S2⟩ := R1.chg (ys := xs ++ [d]) (ws := vs ++ [v]) hi ha ((z4.same s).append (DenL.cons hv DenL.nil))
          exact ⟨a, vs, v, rfl, rfl, s _ _ z3, by rw [← z4.length]; exact hz, q _ _ R2 ((Step.of_same s).trans S2)⟩
        · exact False.elim q
theorem j_vs_append {i : Nat} {x : Str} {vpos apos cpos : Pos} (hN : X.N[i]? = some x) (hv : Vis X.env.scope x) (he : JE X e (tD K M H0 f)) (hd : (x == ("__debug__" : Str)) = false := by decide) (hcd : (x == ("__classdict__" : Str)) = false := by decide) (hs : swapsWith (.Call (.Attribute (.Name x vpos) "append" apos) [e] [] cpos) none pos.line X.env = pure false := by rfl) (hbase : attributeBase (.Name x vpos) "append" X.env (eval (.Name x vpos) X.env) = eval (.Name x vpos) X.env := by rfl) (hfew : ((backTo cpos (starEach [e] X.env)).all (fun x => !x.1) && (backToKw cpos (keywordEach [] X.env)).all (fun x => x.1.isSome)
      && decide ([e].length + ([] : List Keyword).length + (if ([] : List Keyword).isEmpty then 0 else 1) < 30)) = true := by rfl) (hline : (apos.endLine == cpos.line) = true := by rfl) (hst : starEach [e] X.env = (false, eval e X.env) :: starEach [] X.env := by rfl) (hpl : (backTo cpos (starEach [] X.env)).any (·.1) = false := by rfl) : JS X (.Expr (.Call (.Attribute (.Name x vpos) "append" apos) [e] [] cpos) pos) (tS K M H0 fun ρ => appR i (f ρ) ρ) := ⟨vs_append hN hv he.h hd hcd hs hbase hfew hline hst hpl⟩
end
def ItOk (K : PySem.W.Frag) (M N : Fb) (H1 : Hp) (J : It) (ds : List D) : Prop := ∀ N2 H2, Step M N N2 H1 H2 → ∀ i, (∀ d, ds[i]? = some d → J.go i H2 ∧ ∀ x H3, J.yld i H2 x H3 → Same H2 H3 ∧ Den K N2 H3 d x) ∧ (i = ds.length → J.stop i H2)
def tI (K : PySem.W.Frag) (M : Fb) (H0 : Hp) (f : VE → Option (List D)) : TI := fun σ H R => ∃ ρ ds, Rel K M H0 ρ σ H ∧ f ρ = some ds ∧ ∀ J H1, Same H H1 → ItOk K M (Nf M ρ σ) H1 J ds → R J H1
def tG (K : PySem.W.Frag) (M : Fb) (H0 : Hp) (ws : List Nat) (b : D → VE → Option VE) : TG := fun v σ H Q => ∃ ρ d ρ', Rel K M H0 ρ σ H ∧ Den K (Nf M ρ σ) H d v ∧ b d ρ = some ρ' ∧ ∀ σ' , Rel K M H0 ρ' σ' H → Step M (Nf M ρ σ) (Nf M ρ' σ') H H → (∀ j, j ∉ ws → σ'[j]? = σ[j]?) → Q σ' H
@[simp] def bName (i : Nat) (d : D) (ρ : VE) : Option VE := some (ρ.set i (.val d))
def forR (b : D → VE → Option VE) (g : VE → Res) : List D → VE → Res
  | [], ρ => .next ρ
  | d :: ds, ρ => match b d ρ with
    | none => .fail
    | some ρ1 => match g ρ1 with
      | .next ρ2 => forR b g ds ρ2
      | .cont ρ2 => forR b g ds ρ2
      | .brk ρ2 => .next ρ2
      | r => r
@[simp] def forO (f : VE → Option (List D)) (b : D → VE → Option VE) (g : VE → Res) : VE → Res := fun ρ => match f ρ with
  | some ds => forR b g ds ρ
  | none => .fail
section
variable {X : Cx} {K : PySem.W.Frag} {M : Fb} {H0 : Hp} {pos : Pos} {e tg iter : Expr} {f : VE → Option (List D)} {b : D → VE → Option VE} {g : VE → Res} {body : List Stmt}
theorem vg_name {i : Nat} {x : Str} (hN : X.N.Nodup) (hi : X.N[i]? = some x) (hx : Loc X.env.scope x) (hf : X.fn x = true ∨ X.env.scope.names.lookup x = some .local := by first | exact .inl rfl | exact .inr rfl | assumption) : PG X (.Name x pos) (tG K M H0 [i] (bName i)) := by
  intro pins s σ H v u Q I r ⟨ρ, d, ρ', R, hd, e, q⟩
  cases e
  obtain ⟨R1, S1⟩ := R.setV (i := i) (Same.refl H) hd
  exact pg_name hN hi hx hf pins s σ H v u Q I r (q _ R1 S1 fun j hj => by rw [List.getElem?_set_ne (fun e => hj (by rw [e]; simp))])
theorem j_vg_name {i : Nat} {x : Str} (hN : X.N.Nodup) (hi : X.N[i]? = some x) (hx : Loc X.env.scope x) (hf : X.fn x = true ∨ X.env.scope.names.lookup x = some .local := by first | exact .inl rfl | exact .inr rfl | assumption) : JG X (.Name x pos) (tG K M H0 [i] (bName i)) := ⟨vg_name hN hi hx hf⟩
theorem tFor_D {ws : List Nat} {D' : Ends} {σ : St} {H : Hp} {wi : TI} {tg' : TG} {tb : TS} (hi : ∀ σ H R, tI K M H0 f σ H R → wi σ H R) (hg : ∀ v σ H Q, tG K M H0 ws b v σ H Q → tg' v σ H Q) (hb : ∀ D σ H, tS K M H0 g D σ H → tb D σ H)
    (h : tS K M H0 (forO f b g) D' σ H) : tFor wi tg' tb D' σ H := by
  obtain ⟨ρ, R, q⟩ := h
  try dsimp only at q
  unfold forO at q
  cases hf : f ρ with
  | none => rw [hf] at q; exact False.elim q
  | some ds =>
    rw [hf] at q
    refine hi _ _ _ ⟨ρ, ds, R, hf, fun J H1 s1 ok => ?_⟩
    -- at turn i: the slots ρi from which the rest of the items gives what is wanted
    refine ⟨fun i m σi Hi => m = ds.length - i ∧ i ≤ ds.length ∧ ∃ ρi, Rel K M H0 ρi σi Hi ∧ Step M (Nf M ρ σ) (Nf M ρi σi) H1 Hi ∧ resOk K M H0 ρi σi Hi D' (forR b g (ds.drop i) ρi), ⟨ds.length, by simp, Nat.zero_le _, ρ, R.st s1, Step.refl, ?_⟩, ?_⟩
    · exact resOk.from (Step.of_same s1) q
    · rintro i m σi Hi ⟨rfl, hle, ρi, Ri, Si, qi⟩
      obtain ⟨ok1, ok2⟩ := ok _ _ Si i
      by_cases hlt : i < ds.length
      · obtain ⟨go, y⟩ := ok1 ds[i] (List.getElem?_eq_getElem hlt)
        rw [List.drop_eq_getElem_cons hlt] at qi
        simp only [forR] at qi
        refine .inr ⟨go, fun σ' H' => i + 1 ≤ ds.length ∧ ∃ ρi, Rel K M H0 ρi σ' H' ∧ Step M (Nf M ρ σ) (Nf M ρi σ') H1 H' ∧ resOk K M H0 ρi σ' H' D' (forR b g (ds.drop (i + 1)) ρi), fun σ' H' z => ⟨ds.length - (i + 1), by omega, rfl, z⟩, fun x H' yl => ?_⟩
        obtain ⟨s3, hd⟩ := y x H' yl
        cases hbd : b ds[i] ρi with
        | none => rw [hbd] at qi; exact False.elim qi
        | some ρ1 =>
          rw [hbd] at qi
          simp only at qi
          refine hg _ _ _ _ ⟨ρi, ds[i], ρ1, Ri.st s3, hd, hbd, fun σ1 R1 S1 _ => hb _ _ _ ⟨ρ1, R1, ?_⟩⟩
          have S01 : Step M (Nf M ρi σi) (Nf M ρ1 σ1) Hi H' := (Step.of_same s3).trans S1
          cases hgr : g ρ1 with
          | fail => rw [hgr] at qi; exact qi
          | next ρ2 => rw [hgr] at qi; exact fun σ2 H2 R2 S2 => ⟨hlt, ρ2, R2, Si.trans (S01.trans S2), resOk.from (S01.trans S2) qi⟩
          | cont ρ2 => rw [hgr] at qi; exact fun σ2 H2 R2 S2 => ⟨hlt, ρ2, R2, Si.trans (S01.trans S2), resOk.from (S01.trans S2) qi⟩
          | brk ρ2 => rw [hgr] at qi; exact fun σ2 H2 R2 S2 => qi σ2 H2 R2 (S01.trans S2)
          | ret r => rw [hgr] at qi; exact qi
      · have e : i = ds.length := by omega
        rw [List.drop_eq_nil_of_le (by omega)] at qi
        exact .inl ⟨ok2 e, qi σi Hi Ri Step.refl⟩
theorem vs_for {ws : List Nat} (hp : PassesOwn (model X.prog X.w) X.A X.env X.xe) (hc : X.calm = true) (hi : PI X tg iter (tI K M H0 f)) (hg : PG X tg (tG K M H0 ws b)) (hb : PSs X body (tS K M H0 g))
    (hs : ∀ x, foldedSetIterable iter X.env x = pure x := by intro _; rfl) : PS X (.For tg iter body [] pos) (tS K M H0 (forO f b g)) :=
  (ps_for hp hc hi hg hb hs).mono fun _ _ _ q => tFor_D (fun _ _ _ z => z) (fun _ _ _ _ z => z) (fun _ _ _ z => z) q
theorem j_vs_for {ws : List Nat} (hp : PassesOwn (model X.prog X.w) X.A X.env X.xe) (hc : X.calm = true) (hi : JI X tg iter (tI K M H0 f)) (hg : JG X tg (tG K M H0 ws b)) (hb : JB X body (tS K M H0 g)) (hs : ∀ x, foldedSetIterable iter X.env x = pure x := by intro _; rfl) : JS X (.For tg iter body [] pos) (tS K M H0 (forO f b g)) := ⟨vs_for hp hc hi.h hg.h hb.h hs⟩
theorem PI.mono {wi wi' : TI} (h : PI X tg iter wi) (m : ∀ σ H R, wi' σ H R → wi σ H R) : PI X tg iter wi' := fun pins s σ H R I q => h pins s σ H R I (m σ H R q)
def DenQ (K : PySem.W.Frag) (M N : Fb) (H : Hp) (d : D) (v : V) : Prop := match d with
  | .lst xs => ∃ a vs, v = .ref a ∧ (((¬ N a ∨ M a) ∧ Rd H a (.lst vs)) ∨ KL K a vs) ∧ DenL K N H xs vs
  | .lst xs true => ∃ a vs, v = .ref a ∧ (¬ N a ∨ M a) ∧ Rd H a (.dct (ktsOf xs) vs) ∧ DenL K N H xs vs
  | d => Den K N H d v
def tQ (K : PySem.W.Frag) (M : Fb) (H0 : Hp) (f : VE → Option D) : TE := fun σ H Q => ∃ ρ d, Rel K M H0 ρ σ H ∧ f ρ = some d ∧ ∀ v H', Same H H' → DenQ K M (Nf M ρ σ) H' d v → Q v H'
theorem Den.q {M N : Fb} {H : Hp} {d : D} {v : V} (h : Den K N H d v) : DenQ K M N H d v := by
  cases d with
  | lst xs fl =>
    simp only [Den] at h
    obtain ⟨a, vs, e, q, r⟩ := h
    cases fl with
    | false =>
      refine ⟨a, vs, e, ?_, r⟩
      rcases q with ⟨n, q⟩ | ⟨ws, z, q⟩
      · exact .inl ⟨.inl n, q⟩
      · cases z; exact .inr q
    | true =>
      rcases q with ⟨n, q⟩ | ⟨ws, z, _⟩
      · exact ⟨a, vs, e, .inl n, q, r⟩
      · cases z
  | _ => exact h
theorem PE.q {f : VE → Option D} (h : PE X e (tD K M H0 f)) : PE X e (tQ K M H0 f) := h.mono fun σ H Q ⟨ρ, d, R, e, q⟩ => ⟨ρ, d, R, e, fun v H' s z => q v H' s z.q⟩
theorem j_q {f : VE → Option D} (h : JE X e (tD K M H0 f)) : JE X e (tQ K M H0 f) := ⟨PE.q h.h⟩
theorem denQ_co {M N : Fb} {H : Hp} {xs : List D} {vs : List V} {fl : Bool} {a : Addr} (m : M a) (h : Rd H a (CO fl xs vs)) (r : DenL K N H xs vs) : DenQ K M N H (.lst xs fl) (.ref a) := by
  cases fl with
  | false => exact ⟨a, vs, rfl, .inl ⟨.inr m, h⟩, r⟩
  | true => exact ⟨a, vs, rfl, .inr m, h, r⟩
@[simp] def rdQ (ρ : VE) (i : Nat) : Option D := match ρ[i]? with
  | some (.val d) => some d
  | some (.lent xs b) => some (.lst xs b)
  | _ => none
theorem vq_var {i : Nat} {x : Str} (hN : X.N[i]? = some x) (hv : Vis X.env.scope x) (hd : (x == ("__debug__" : Str)) = false := by decide) (hcd : (x == ("__classdict__" : Str)) = false := by decide) : PE X (.Name x pos) (tQ K M H0 fun ρ => rdQ ρ i) :=
  (pe_var hN hv hd hcd).mono fun σ H Q ⟨ρ, d, R, e, q⟩ => by
    try dsimp only at e q
    unfold rdQ at e
    split at e
    · next h => cases e; obtain ⟨v, e1, h⟩ := R.slot i _ h; exact ⟨v, join_some e1, q v H (Same.refl H) h.q⟩
    · next h => cases e; obtain ⟨a, vs, e1, h2, h3, h4⟩ := R.slot i _ h; exact ⟨_, join_some e1, q _ H (Same.refl H) (denQ_co h2 h3 h4)⟩
    · cases e
def lstItems : D → Option (List D)
  | .lst xs => some xs
  | _ => none
def tupItems : D → Option (List D)
  | .tup xs => some xs
  | _ => none
def strItems : D → Option (List D)
  | .str x => some (x.cps.toList.map fun c => D.str ⟨#[c]⟩)
  | _ => none
theorem vi_list {l : Expr} {f : VE → Option D} (h : PE X l (tQ X.K M H0 f)) : PI X tg l (tI X.K M H0 fun ρ => (f ρ).bind lstItems) := (pi_list h).mono fun σ H R' ⟨ρ, ds, R, e, q⟩ => by
  try dsimp only at e q
  cases hf : f ρ with
  | none => rw [hf] at e; cases e
  | some d =>
    rw [hf] at e
    cases d with
    | lst xs fl =>
      cases fl with
      | true => cases e
      | false =>
      cases e
      refine ⟨ρ, .lst _, R, hf, fun v H1 s1 hv => ?_⟩
      obtain ⟨a, vs, e1, hr, hd⟩ := hv
      have sq : ∀ N2 H2, Step M (Nf M ρ σ) N2 H1 H2 → SqL X.K H2 a vs := fun N2 H2 S => by
        rcases hr with ⟨hn, hr⟩ | hr
        · exact .inl (hr.step S (by rcases hn with z | z; exact .inl z; exact .inr (.inl z)))
        · exact hr.sq
      refine ⟨a, e1, ⟨vs, sq _ _ Step.refl⟩, q _ H1 s1 fun N2 H2 S i => ?_⟩
      have hr2 := sq _ _ S
      have hd2 := DenL.step S _ _ hd
      refine ⟨fun d he => ?_, fun he => ⟨vs, hr2, by rw [he, hd.length]; exact Nat.le_refl _⟩⟩
      obtain ⟨w, hw, hdw⟩ := hd2.get he
      refine ⟨⟨vs, w, hr2, hw⟩, fun x H3 y => ?_⟩
      obtain ⟨e3, y⟩ := y
      subst e3
      have := y vs hr2
      rw [hw] at this; cases this
      exact ⟨Same.refl _, hdw⟩
    | _ => cases e
theorem vi_tup {l : Expr} {f : VE → Option D} (h : PE X l (tQ X.K M H0 f)) : PI X tg l (tI X.K M H0 fun ρ => (f ρ).bind tupItems) := (pi_tup h).mono fun σ H R' ⟨ρ, ds, R, e, q⟩ => by
  try dsimp only at e q
  cases hf : f ρ with
  | none => rw [hf] at e; cases e
  | some d =>
    rw [hf] at e
    cases d with
    | tup xs =>
      cases e
      refine ⟨ρ, .tup _, R, hf, fun v H1 s1 hv => ?_⟩
      simp only [DenQ, Den] at hv
      obtain ⟨a, vs, e1, hr, hd⟩ := hv
      refine ⟨a, e1, ⟨vs, hr⟩, q _ H1 s1 fun N2 H2 S i => ?_⟩
      have hr2 := hr.step S
      have hd2 := DenL.step S _ _ hd
      refine ⟨fun d he => ?_, fun he => ⟨vs, hr2, by rw [he, hd.length]; exact Nat.le_refl _⟩⟩
      obtain ⟨w, hw, hdw⟩ := hd2.get he
      refine ⟨⟨vs, w, hr2, hw⟩, fun x H3 y => ?_⟩
      obtain ⟨e3, y⟩ := y
      subst e3
      have := y vs hr2
      rw [hw] at this; cases this
      exact ⟨Same.refl _, hdw⟩
    | _ => cases e
theorem vi_str {l : Expr} {f : VE → Option D} (h : PE X l (tQ K M H0 f)) : PI X tg l (tI K M H0 fun ρ => (f ρ).bind strItems) := (pi_str h).mono fun σ H R' ⟨ρ, ds, R, e, q⟩ => by
  try dsimp only at e q
  cases hf : f ρ with
  | none => rw [hf] at e; cases e
  | some d =>
    rw [hf] at e
    cases d with
    | str x =>
      cases e
      refine ⟨ρ, .str x, R, hf, fun v H1 s1 hv => ?_⟩
      simp only [DenQ, Den] at hv
      refine ⟨x, hv, q _ H1 s1 fun N2 H2 S i => ⟨fun d he => ?_, fun he => ?_⟩⟩
      · rw [List.getElem?_map] at he
        cases hc : x.cps.toList[i]? with
        | none => rw [hc] at he; cases he
        | some c =>
          rw [hc] at he; cases he
          have hi : i < x.cps.size := by
            have := (List.getElem?_eq_some_iff.mp hc).1
            simpa using this
          refine ⟨hi, fun v H3 y => ?_⟩
          obtain ⟨e3, c', hc', y⟩ := y
          subst e3 y
          rw [← Array.getElem?_toList, hc] at hc'; cases hc'
          exact ⟨Same.refl _, by simp only [Den]⟩
      · have : i = x.cps.size := by simpa using he
        exact Nat.le_of_eq this.symm
    | _ => cases e
def rngItems (lo : Int) (n : Nat) : List D := (List.range n).map (fun (k : Nat) => D.int (lo + (k : Int)))
theorem rng_ok {M N : Fb} {H1 : Hp} {lo : Int} {n : Nat} : ItOk K M N H1 (Itr lo n) (rngItems lo n) := fun N2 H2 S i => by
  refine ⟨fun d he => ?_, fun he => ?_⟩
  · have hi : i < n := by
      have := (List.getElem?_eq_some_iff.mp he).1
      simpa [rngItems] using this
    have e : d = D.int (lo + i) := by
      simp only [rngItems, List.getElem?_map, List.getElem?_range hi, Option.map_some, Option.some.injEq] at he
      exact he.symm
    subst e
    refine ⟨hi, fun x H3 y => ?_⟩
    obtain ⟨e3, y⟩ := y
    subst e3 y
    exact ⟨Same.refl _, by simp only [Den]⟩
  · have : i = n := by simpa [rngItems] using he
    exact Nat.le_of_eq this.symm
noncomputable def gd {α : Type} (p : Prop) (o : Option α) : Option α := @ite _ p (Classical.propDecidable p) o none
theorem gd_pos {α : Type} {p : Prop} {o : Option α} (h : p) : gd p o = o := by unfold gd; exact @if_pos _ (Classical.propDecidable p) h _ _ _
theorem gd_inv {α : Type} {p : Prop} {o : Option α} {x : α} (h : gd p o = some x) : p ∧ o = some x := by
  by_cases hp : p
  · rw [gd_pos hp] at h; exact ⟨hp, h⟩
  · unfold gd at h
    rw [@if_neg _ (Classical.propDecidable p) hp] at h
    cases h
noncomputable def rng1 : List D → Option (List D)
  | [.int j] => gd (-1000000000 ≤ j ∧ j < 1000000000) (some (rngItems 0 j.toNat))
  | _ => none
noncomputable def rng2 : List D → Option (List D)
  | [.int i, .int j] => gd (-1000000000 ≤ i ∧ i < 1000000000 ∧ -1000000000 ≤ j ∧ j < 1000000000) (some (rngItems i (j - i).toNat))
  | _ => none
theorem vi_range1 {a : Expr} {fa : VE → Option (List Sl)} {p : Pos} (hg : Gl X "range") (hm : X.mg "range" = none) (ha : PA X [a] (tA' K M H0 fa)) (hs : starEach [a] X.env = [(false, eval a X.env)] := by rfl) : PI X tg (.Call (.Name "range" p) [a] [] pos) (tI K M H0 fun ρ => ((fa ρ).bind vals).bind rng1) :=
  (pi_range1 hg hm ha hs).mono fun σ H R' ⟨ρ, ds, R, e, q⟩ => by
    try dsimp only at e q
    cases hf : fa ρ with
    | none => rw [hf] at e; cases e
    | some ss =>
      rw [hf] at e
      cases hv : vals ss with
      | none => simp only [Option.bind, hv] at e; cases e
      | some l =>
        simp only [Option.bind, hv] at e
        unfold rng1 at e
        split at e
        · next j =>
          obtain ⟨hz, e⟩ := gd_inv e
          cases e
          refine ⟨ρ, ss, R, hf, fun vs H1 s1 h1 => ?_⟩
          have hd := vals_den h1 hv
          simp only [DenL, Den] at hd
          obtain ⟨v, r, e1, e2, e3⟩ := hd
          subst e1 e2 e3
          exact ⟨j, rfl, by omega, by omega, q _ H1 s1 rng_ok⟩
        · cases e
theorem j_vi_range1 {a : Expr} {fa : VE → Option (List Sl)} {p : Pos} (hg : Gl X "range") (hm : X.mg "range" = none) (ha : JA X [a] (tA' K M H0 fa)) (hs : starEach [a] X.env = [(false, eval a X.env)] := by rfl) : JI X tg (.Call (.Name "range" p) [a] [] pos) (tI K M H0 fun ρ => ((fa ρ).bind vals).bind rng1) := ⟨vi_range1 hg hm ha.h hs⟩
theorem vi_range2 {a b : Expr} {fa : VE → Option (List Sl)} {p : Pos} (hg : Gl X "range") (hm : X.mg "range" = none) (ha : PA X [a, b] (tA' K M H0 fa)) (hs : starEach [a, b] X.env = [(false, eval a X.env), (false, eval b X.env)] := by rfl) (hs2 : starEach [b] X.env = [(false, eval b X.env)] := by rfl) :
    PI X tg (.Call (.Name "range" p) [a, b] [] pos) (tI K M H0 fun ρ => ((fa ρ).bind vals).bind rng2) :=
  (pi_range2 hg hm ha hs hs2).mono fun σ H R' ⟨ρ, ds, R, e, q⟩ => by
    try dsimp only at e q
    cases hf : fa ρ with
    | none => rw [hf] at e; cases e
    | some ss =>
      rw [hf] at e
      cases hv : vals ss with
      | none => simp only [Option.bind, hv] at e; cases e
      | some l =>
        simp only [Option.bind, hv] at e
        unfold rng2 at e
        split at e
        · next i j =>
          obtain ⟨hz, e⟩ := gd_inv e
          cases e
          refine ⟨ρ, ss, R, hf, fun vs H1 s1 h1 => ?_⟩
          have hd := vals_den h1 hv
          simp only [DenL, Den] at hd
          obtain ⟨v, r, e1, e2, v', r', e3, e4, e5⟩ := hd
          subst e2 e4 e5 e3 e1
          exact ⟨i, j, rfl, ⟨by omega, by omega, by omega, by omega⟩, q _ H1 s1 rng_ok⟩
        · cases e
theorem j_vi_range2 {a b : Expr} {fa : VE → Option (List Sl)} {p : Pos} (hg : Gl X "range") (hm : X.mg "range" = none) (ha : JA X [a, b] (tA' K M H0 fa)) (hs : starEach [a, b] X.env = [(false, eval a X.env), (false, eval b X.env)] := by rfl) (hs2 : starEach [b] X.env = [(false, eval b X.env)] := by rfl) : JI X tg (.Call (.Name "range" p) [a, b] [] pos) (tI K M H0 fun ρ => ((fa ρ).bind vals).bind rng2) := ⟨vi_range2 hg hm ha.h hs hs2⟩
end
end L2
set_option Elab.async false
set_option linter.all false
set_option maxRecDepth 100000
namespace L2
open PySem PySem.Spec PyProof.Rows
def tGs (K : PySem.W.Frag) (M : Fb) (H0 : Hp) (ws : List Nat) (b : List D → VE → Option VE) : TGs := fun vs σ H Q => ∃ ρ ds ρ', Rel K M H0 ρ σ H ∧ DenL K (Nf M ρ σ) H ds vs ∧ b ds ρ = some ρ' ∧ ∀ σ' , Rel K M H0 ρ' σ' H → Step M (Nf M ρ σ) (Nf M ρ' σ') H H → (∀ j, j ∉ ws → σ'[j]? = σ[j]?) → Q σ' H
@[simp] def bNil : List D → VE → Option VE
  | [], ρ => some ρ
  | _, _ => none
@[simp] def bCons (b : D → VE → Option VE) (c : List D → VE → Option VE) : List D → VE → Option VE
  | d :: r, ρ => (b d ρ).bind (c r)
  | _, _ => none
@[simp] def bTup (n : Nat) (b : List D → VE → Option VE) : D → VE → Option VE
  | .tup ds, ρ => if ds.length = n then b ds ρ else none
  | _, _ => none
section
variable {X : Cx} {K : PySem.W.Frag} {M : Fb} {H0 : Hp} {pos : Pos} {e tg iter : Expr} {es : List Expr} {ws ws' : List Nat} {b : D → VE → Option VE} {c : List D → VE → Option VE}
theorem vgs_nil : PGs X [] (tGs K M H0 [] bNil) := by
  intro pins s σ H vs us Q I r ⟨ρ, ds, ρ', R, hd, e, q⟩
  cases ds with
  | nil =>
    cases e
    simp only [DenL] at hd
    exact pgs_nil pins s σ H vs us Q I r ⟨hd, q σ R Step.refl fun _ _ => rfl⟩
  | cons => cases e
theorem j_vgs_nil  : JK X [] (tGs K M H0 [] bNil) := ⟨vgs_nil ⟩
theorem vgs_cons (h1 : PG X e (tG K M H0 ws b)) (h2 : PGs X es (tGs K M H0 ws' c)) (hs : (assignEach (e :: es) X.env).map (·.2) = assign e X.env :: (assignEach es X.env).map (·.2) := by rfl) : PGs X (e :: es) (tGs K M H0 (ws ++ ws') (bCons b c)) := by
  intro pins s σ H vs us Q I r ⟨ρ, ds, ρ', R, hd, e, q⟩
  cases ds with
  | nil => cases e
  | cons d ds =>
    simp only [DenL] at hd
    obtain ⟨v, vr, e1, hv, hr⟩ := hd
    subst e1
    simp only [bCons] at e
    cases hb : b d ρ with
    | none => rw [hb] at e; cases e
    | some ρ1 =>
      rw [hb] at e
      refine pgs_cons h1 h2 hs pins s σ H _ us Q I r ⟨v, vr, rfl, ρ, d, ρ1, R, hv, hb, fun σ1 R1 S1 w1 => ⟨ρ1, ds, ρ', R1, DenL.step S1 _ _ hr, e, fun σ2 R2 S2 w2 => q σ2 R2 (S1.trans S2) fun j hj => ?_⟩⟩
      rw [List.mem_append, not_or] at hj
      rw [w2 j hj.2, w1 j hj.1]
theorem j_vgs_cons (h1 : JG X e (tG K M H0 ws b)) (h2 : JK X es (tGs K M H0 ws' c)) (hs : (assignEach (e :: es) X.env).map (·.2) = assign e X.env :: (assignEach es X.env).map (·.2) := by rfl) : JK X (e :: es) (tGs K M H0 (ws ++ ws') (bCons b c)) := ⟨vgs_cons h1.h h2.h hs⟩
theorem vg_tup {k n : Nat} (hc : X.calm = true) (h : PGs X es (tGs X.K M H0 ws c))
    (hn : (assignEach es X.env).length = n := by rfl) (hst : (assignEach es X.env).findIdx? (·.1) = none := by rfl) : PG X (.Tuple es k pos) (tG X.K M H0 ws (bTup n c)) := by
  intro pins s σ H v u Q I r ⟨ρ, d, ρ', R, hd, e, q⟩
  cases d with
  | tup ds =>
    simp only [bTup] at e
    split at e
    · next hl =>
      simp only [Den] at hd
      obtain ⟨a, vs, e1, hq, hd⟩ := hd
      exact pg_tup hc h hn hst pins s σ H v u Q I r ⟨a, vs, e1, hq, by rw [← hd.length]; exact hl, ρ, ds, ρ', R, hd, e, q⟩
    · cases e
  | _ => cases e
theorem j_vg_tup {k n : Nat} (hc : X.calm = true) (h : JK X es (tGs X.K M H0 ws c)) (hn : (assignEach es X.env).length = n := by rfl) (hst : (assignEach es X.env).findIdx? (·.1) = none := by rfl) : JG X (.Tuple es k pos) (tG X.K M H0 ws (bTup n c)) := ⟨vg_tup hc h.h hn hst⟩
end
@[simp] def lend : Option Sl → Sl
  | some (.val d) => .val d
  | some (.own xs b) => .lent xs b
  | some (.lent xs b) => .lent xs b
  | _ => .no
@[simp] def compIn (k : Nat) (oix : List Nat) (ρ : VE) : VE := List.replicate k .no ++ oix.map fun j => lend ρ[j]?
def compL (b : D → VE → Option VE) (t : VE → Option Bool) (e : VE → Option D) (ρ : VE) : List D → Option (List D)
  | [] => some []
  | d :: ds => match b d ρ with
    | none => none
    | some ρ1 => match t ρ1 with
      | some true => consO (e ρ1) (compL b t e ρ ds)
      | some false => compL b t e ρ ds
      | none => none
@[simp] def compF (k : Nat) (oix : List Nat) (f : VE → Option (List D)) (b : D → VE → Option VE) (t : VE → Option Bool) (e : VE → Option D) : VE → Option (List D) := fun ρ => (shortO (f ρ)).bind (compL b t e (compIn k oix ρ))
section
variable {X : Cx} {K : PySem.W.Frag} {M : Fb} {H0 : Hp} {pos : Pos} {tg elt iter : Expr} {ifs : List Expr} {scope : Scope} {ws : List Nat} {f : VE → Option (List D)} {b : D → VE → Option VE} {t : VE → Option Bool} {e : VE → Option D} {k : Nat} {oix : List Nat}
theorem Rel.comp {ρ : VE} {σ : St} {H : Hp} (R : Rel K M H0 ρ σ H) (k : Nat) (oix : List Nat) : Rel K (Nf M ρ σ) H (compIn k oix ρ) (startC k oix σ) H ∧ ∀ a, Nf (Nf M ρ σ) (compIn k oix ρ) (startC k oix σ) a → Nf M ρ σ a := by
  have noown : ∀ (j : Nat) (xs : List D) (fl : Bool), (compIn k oix ρ)[j]? ≠ some (Sl.own xs fl) := fun j xs fl h => by
    unfold compIn at h
    rw [List.getElem?_append] at h
    split at h
    · rw [List.getElem?_replicate] at h
      split at h <;> cases h
    · rw [List.getElem?_map] at h
      cases ho : oix[j - (List.replicate k Sl.no).length]? with
      | none => rw [ho] at h; cases h
      | some o =>
        rw [ho] at h
        simp only [Option.map_some, Option.some.injEq] at h
        unfold lend at h
        split at h <;> cases h
  have nf : ∀ a, Nf (Nf M ρ σ) (compIn k oix ρ) (startC k oix σ) a → Nf M ρ σ a := fun a h => by
    rcases h with h | ⟨j, xs, fl, h, _⟩
    · exact h
    · exact absurd h (noown j xs fl)
  refine ⟨⟨by simp [compIn, startC], Same.refl H, R.nh, fun j s h => ?_, fun i j xs ys fl fl' a h => absurd h (noown i xs fl)⟩, nf⟩
  unfold compIn at h
  rw [List.getElem?_append] at h
  split at h
  · rw [List.getElem?_replicate] at h
    split at h
    · cases h; trivial
    · cases h
  · next hge =>
    rw [List.getElem?_map] at h
    have hσ : (startC k oix σ)[j]? = (oix[j - k]?).map fun i => (σ[i]?).join := by
      unfold startC
      rw [List.getElem?_append_right (by simpa using hge), List.getElem?_map]
      simp
    rw [hσ]
    simp only [List.length_replicate] at h
    cases ho : oix[j - k]? with
    | none => rw [ho] at h; cases h
    | some o =>
      rw [ho] at h
      simp only [Option.map_some, Option.some.injEq] at h
      simp only [Option.map_some, Option.join_some]
      unfold lend at h
      split at h
      · next d hd => subst h; obtain ⟨v, e1, q⟩ := R.slot o _ hd; exact ⟨v, e1, q.nw fun a ha => .inl (nf a ha)⟩
      · next xs fl hd =>
        subst h
        obtain ⟨a, vs, e1, z1, z2, z3, z4⟩ := R.slot o _ hd
        exact ⟨a, vs, e1, .inr ⟨o, xs, fl, hd, join_some e1⟩, .inl z3, z4.nw fun a ha => .inl (nf a ha)⟩
      · next xs hd =>
        subst h
        obtain ⟨a, vs, e1, z1, z2, z3⟩ := R.slot o _ hd
        exact ⟨a, vs, e1, .inl z1, z2, z3.nw fun a ha => .inl (nf a ha)⟩
      · subst h; trivial
def gAll (K : PySem.W.Frag) (ws : List Nat) (b : D → VE → Option VE) : TG := fun v σ H Q => ∃ M H0, tG K M H0 ws b v σ H Q
def tAll (K : PySem.W.Frag) (t : VE → Option Bool) : TT := fun σ H Q => ∃ M H0, tB' K M H0 t σ H Q
def eAll (K : PySem.W.Frag) (e : VE → Option D) : TE := fun σ H Q => ∃ M H0, tD K M H0 e σ H Q
theorem tComp_D (hw : ∀ j ∈ ws, j < k) {wi : TI} (hi : ∀ σ H R, tI K M H0 f σ H R → wi σ H R) {σ : St} {H : Hp} {Q : VK} (h : tF K M H0 (compF k oix f b t e) σ H Q) : tComp k oix wi (gAll K ws b) (tAll K t) (eAll K e) σ H Q := by
  obtain ⟨ρ, xs, R, ex, q⟩ := h
  try dsimp only at ex q
  unfold compF at ex
  cases hf : shortO (f ρ) with
  | none => rw [hf] at ex; cases ex
  | some ds =>
    rw [hf] at ex
    obtain ⟨hf, hz⟩ := shortO_inv hf
    have ex : compL b t e (compIn k oix ρ) ds = some xs := ex
    refine hi _ _ _ ⟨ρ, ds, R, hf, fun J H1 s1 ok => ?_⟩
    refine ⟨ds.length, fun i ys H2 => i ≤ ds.length ∧ ys.length ≤ i ∧ Same H1 H2 ∧ ∃ acc rest, DenL K (Nf M ρ σ) H2 acc ys ∧ compL b t e (compIn k oix ρ) (ds.drop i) = some rest ∧ acc ++ rest = xs, ⟨Nat.zero_le _, Nat.le_refl _, Same.refl _, [], xs, DenL.nil, ex, rfl⟩, ?_⟩
    rintro i ys H2 ⟨hle, hy, s2, acc, rest, hacc, hc, hx⟩
    obtain ⟨ok1, ok2⟩ := ok _ H2 (Step.of_same s2) i
    by_cases hlt : i < ds.length
    · obtain ⟨go, y⟩ := ok1 ds[i] (List.getElem?_eq_getElem hlt)
      rw [List.drop_eq_getElem_cons hlt] at hc
      simp only [compL] at hc
      refine .inr ⟨go, hlt, by omega, fun ys' H' => ys'.length ≤ i + 1 ∧ Same H1 H' ∧ ∃ acc rest, DenL K (Nf M ρ σ) H' acc ys' ∧ compL b t e (compIn k oix ρ) (ds.drop (i + 1)) = some rest ∧ acc ++ rest = xs, fun ys' H' z => ⟨hlt, z⟩, fun x H3 yl => ?_⟩
      obtain ⟨s3, hd⟩ := y x H3 yl
      have R3 := ((R.st s1).st s2).st s3
      obtain ⟨Rc, nf⟩ := R3.comp k oix
      cases hb : b ds[i] (compIn k oix ρ) with
      | none => rw [hb] at hc; cases hc
      | some ρ1 =>
        rw [hb] at hc
        simp only at hc
        refine ⟨Nf M ρ σ, H3, compIn k oix ρ, ds[i], ρ1, Rc, hd.nw fun a ha => .inl (nf a ha), hb, fun σ4 R4 S4 w4 => ⟨?_, ?_⟩⟩
        · apply List.ext_getElem?
          intro j
          rw [List.getElem?_drop, List.getElem?_drop]
          exact w4 _ fun hj => absurd (hw _ hj) (by omega)
        · cases ht : t ρ1 with
          | none => rw [ht] at hc; cases hc
          | some bb =>
            rw [ht] at hc
            refine ⟨Nf M ρ σ, H3, ρ1, bb, R4, ht, fun H5 s5 => ?_⟩
            cases bb with
            | true =>
              simp only at hc
              obtain ⟨yd, rest', e1, e2, e3⟩ := consO_inv hc
              refine ite_t ?_
              refine ⟨Nf M ρ σ, H3, ρ1, yd, R4.st s5, e1, fun v H6 s6 hv => ⟨?_, ((s2.trans s3).trans s5).trans s6, acc ++ [yd], rest', (hacc.same ((s3.trans s5).trans s6)).append (DenL.cons (hv.nw fun a ha => .inl (.inl ha)) DenL.nil), e2, ?_⟩⟩
              · simp only [List.length_append, List.length_singleton]; omega
              · subst e3; rw [← hx]; simp
            | false =>
              refine ite_f ?_
              exact ⟨by omega, (s2.trans s3).trans s5, acc, rest, hacc.same (s3.trans s5), hc, hx⟩
    · have ei : i = ds.length := by omega
      rw [List.drop_eq_nil_of_le (by omega)] at hc
      cases hc
      rw [List.append_nil] at hx
      subst hx
      exact .inl ⟨ok2 ei, by omega, fun p hp => tF_new (s1.trans s2) hp hacc q⟩
theorem PG.all {Y : Cx} (h : ∀ M H0, PG Y tg (tG K M H0 ws b)) : PG Y tg (gAll K ws b) := fun pins s σ H v u Q I r ⟨M, H0, z⟩ => h M H0 pins s σ H v u Q I r z
theorem PFs.all {Y : Cx} (h : ∀ M H0, PFs Y ifs (tB' K M H0 t)) : PFs Y ifs (tAll K t) := fun pins s σ H Q I ⟨M, H0, z⟩ => h M H0 pins s σ H Q I z
theorem PE.all {Y : Cx} (h : ∀ M H0, PE Y elt (tD K M H0 e)) : PE Y elt (eAll K e) := fun pins s σ H Q I ⟨M, H0, z⟩ => h M H0 pins s σ H Q I z
theorem vf_nil {Y : Cx} : PFs Y [] (tB' K M H0 fun _ => some true) := fun pins s σ H Q I ⟨ρ, b, R, e, q⟩ => pf_nil pins s σ H Q I (by cases e; exact q H (Same.refl H))
theorem j_vf_nil {Y : Cx} : JF Y [] (tB' K M H0 fun _ => some true) := ⟨vf_nil ⟩
theorem vf_one {Y : Cx} {c : Expr} (h : PT Y c (tB' K M H0 t)) : PFs Y [c] (tB' K M H0 t) := pf_one h
theorem j_vf_one {Y : Cx} {c : Expr} (h : JT Y c (tB' K M H0 t)) : JF Y [c] (tB' K M H0 t) := ⟨vf_one h.h⟩
theorem vf_comp (own outs : List Str) (oix : List Nat) (S : CompSc own outs scope X.env.scope) (hox : oix.map (fun j => X.N[j]?) = outs.map some) (hc : X.calm = true) (hi : PI X tg iter (tI K M H0 f))
    (hg : ∀ C s2 H2 fp pins M' H', PG (cxC X own outs scope C s2 H2 fp pins) tg (tG K M' H' ws b))
    (ht : ∀ C s2 H2 fp pins M' H', PFs (cxC X own outs scope C s2 H2 fp pins) ifs (tB' K M' H' t))
    (he : ∀ C s2 H2 fp pins M' H', PE (cxC X own outs scope C s2 H2 fp pins) elt (tD K M' H' e)) (hw : ∀ j ∈ ws, j < own.length)
    (hs : ∀ x, foldedSetIterable iter X.env x = pure x := by intro _; rfl) :
    PE X (.ListComp elt [⟨tg, iter, ifs, 0⟩] scope pos) (tF K M H0 (compF own.length oix f b t e)) :=
  (pe_comp own outs oix S hox hc hi (fun C s2 H2 fp pins => PG.all (hg C s2 H2 fp pins)) (fun C s2 H2 fp pins => PFs.all (ht C s2 H2 fp pins)) (fun C s2 H2 fp pins => PE.all (he C s2 H2 fp pins)) hs).mono
    fun _ _ _ z => tComp_D hw (fun _ _ _ z => z) z
theorem j_vf_comp (own outs : List Str) (oix : List Nat) (S : CompSc own outs scope X.env.scope) (hox : oix.map (fun j => X.N[j]?) = outs.map some) (hc : X.calm = true) (hi : JI X tg iter (tI K M H0 f)) (hg : ∀ C s2 H2 fp pins M' H', JG (cxC X own outs scope C s2 H2 fp pins) tg (tG K M' H' ws b)) (ht : ∀ C s2 H2 fp pins M' H', JF (cxC X own outs scope C s2 H2 fp pins) ifs (tB' K M' H' t)) (he : ∀ C s2 H2 fp pins M' H', JE (cxC X own outs scope C s2 H2 fp pins) elt (tD K M' H' e)) (hw : ∀ j ∈ ws, j < own.length) (hs : ∀ x, foldedSetIterable iter X.env x = pure x := by intro _; rfl) : JE X (.ListComp elt [⟨tg, iter, ifs, 0⟩] scope pos) (tF K M H0 (compF own.length oix f b t e)) := ⟨vf_comp own outs oix S hox hc hi.h (fun C s2 H2 fp pins M' H' => (hg C s2 H2 fp pins M' H').h) (fun C s2 H2 fp pins M' H' => (ht C s2 H2 fp pins M' H').h) (fun C s2 H2 fp pins M' H' => (he C s2 H2 fp pins M' H').h) hw hs⟩
theorem vs_setCompV (own outs : List Str) (oix : List Nat) {i : Nat} {x : Str} {pos' spos : Pos} (S : CompSc own outs scope X.env.scope) (hox : oix.map (fun j => X.N[j]?) = outs.map some) (hc : X.calm = true)
    (hN : X.N.Nodup) (hix : X.N[i]? = some x) (hx : X.env.scope.names.lookup x = some .local) (hi : PI X tg iter (tI K M H0 f))
    (hg : ∀ C s2 H2 fp pins M' H', PG (cxC X own outs scope C s2 H2 fp pins) tg (tG K M' H' ws b))
    (ht : ∀ C s2 H2 fp pins M' H', PFs (cxC X own outs scope C s2 H2 fp pins) ifs (tB' K M' H' t))
    (he : ∀ C s2 H2 fp pins M' H', PE (cxC X own outs scope C s2 H2 fp pins) elt (tD K M' H' e)) (hw : ∀ j ∈ ws, j < own.length)
    (hsw : swapsWith (.ListComp elt [⟨tg, iter, ifs, 0⟩] scope pos) (some (.Name x pos')) spos.line X.env = pure true := by rfl)
    (hs : ∀ x, foldedSetIterable iter X.env x = pure x := by intro _; rfl) :
    PS X (.Assign [.Name x pos'] (.ListComp elt [⟨tg, iter, ifs, 0⟩] scope pos) spos) (tS K M H0 fun ρ => setR i (lstO (compF own.length oix f b t e ρ)) ρ) :=
  (ps_setComp own outs oix S hox hc hN hix hx hi (fun C s2 H2 fp pins => PG.all (hg C s2 H2 fp pins)) (fun C s2 H2 fp pins => PFs.all (ht C s2 H2 fp pins)) (fun C s2 H2 fp pins => PE.all (he C s2 H2 fp pins)) hsw hs).mono
    fun D' σ H z => by
      have z' : tD K M H0 (fun ρ => lstO (compF own.length oix f b t e ρ)) σ H (fun x H1 => gName i x σ H1 D'.nx) := tAsg_D z
      obtain ⟨ρ, d, R, ed, q⟩ := z'
      try dsimp only at ed q
      cases hf : compF own.length oix f b t e ρ with
      | none => rw [hf] at ed; cases ed
      | some xs =>
        rw [hf] at ed; cases ed
        refine tComp_D hw (fun _ _ _ z => z) ⟨ρ, xs, R, hf, fun a vs H' s z1 z2 z3 => q _ _ s ?_⟩
        simp only [Den]
        exact ⟨a, vs, rfl, .of (R.fresh z1) z2, z3.nw fun b hb => .inl (.inl hb)⟩
theorem j_vs_setCompV (own outs : List Str) (oix : List Nat) {i : Nat} {x : Str} {pos' spos : Pos} (S : CompSc own outs scope X.env.scope) (hox : oix.map (fun j => X.N[j]?) = outs.map some) (hc : X.calm = true) (hN : X.N.Nodup) (hix : X.N[i]? = some x) (hx : X.env.scope.names.lookup x = some .local) (hi : JI X tg iter (tI K M H0 f)) (hg : ∀ C s2 H2 fp pins M' H', JG (cxC X own outs scope C s2 H2 fp pins) tg (tG K M' H' ws b)) (ht : ∀ C s2 H2 fp pins M' H', JF (cxC X own outs scope C s2 H2 fp pins) ifs (tB' K M' H' t)) (he : ∀ C s2 H2 fp pins M' H', JE (cxC X own outs scope C s2 H2 fp pins) elt (tD K M' H' e)) (hw : ∀ j ∈ ws, j < own.length) (hsw : swapsWith (.ListComp elt [⟨tg, iter, ifs, 0⟩] scope pos) (some (.Name x pos')) spos.line X.env = pure true := by rfl) (hs : ∀ x, foldedSetIterable iter X.env x = pure x := by intro _; rfl) : JS X (.Assign [.Name x pos'] (.ListComp elt [⟨tg, iter, ifs, 0⟩] scope pos) spos) (tS K M H0 fun ρ => setR i (lstO (compF own.length oix f b t e ρ)) ρ) := ⟨vs_setCompV own outs oix S hox hc hN hix hx hi.h (fun C s2 H2 fp pins M' H' => (hg C s2 H2 fp pins M' H').h) (fun C s2 H2 fp pins M' H' => (ht C s2 H2 fp pins M' H').h) (fun C s2 H2 fp pins M' H' => (he C s2 H2 fp pins M' H').h) hw hsw hs⟩
end
def fnP (np n : Nat) (g : VE → Res) : List Sl → Option Rv := fun ss => if ss.length = np then
    match g (ss ++ List.replicate (n - np) .no) with
    | .ret r => some r
    | .next _ => some (.val .non)
    | _ => none
  else none
theorem start_rel {K : PySem.W.Frag} {N : Fb} {H : Hp} {ss : List Sl} {vs : List V} (nh : ∀ a, N a → H a ≠ none) (h : ArgsOk K N H ss vs) (n : Nat) : Rel K N H (ss ++ List.replicate n .no) (vs.map some ++ List.replicate n none) H := by
  have hl := h.length
  have noown : ∀ (j : Nat) (xs : List D) (fl : Bool), (ss ++ List.replicate n Sl.no)[j]? ≠ some (Sl.own xs fl) := fun j xs fl e => by
    rw [List.getElem?_append] at e
    split at e
    · obtain ⟨v, _, q⟩ := h.get e; exact q
    · rw [List.getElem?_replicate] at e
      split at e <;> cases e
  have nf : ∀ a, Nf N (ss ++ List.replicate n Sl.no) (vs.map some ++ List.replicate n none) a → N a := fun a z => by
    rcases z with z | ⟨j, xs, fl, z, _⟩
    · exact z
    · exact absurd z (noown j xs fl)
  refine ⟨by simp [hl], Same.refl H, nh, fun j s e => ?_, fun i j xs ys fl fl' a z => absurd z (noown i xs fl)⟩
  rw [List.getElem?_append] at e
  split at e
  · next hj =>
    obtain ⟨v, ev, q⟩ := h.get e
    rw [List.getElem?_append_left (by simpa [← hl] using hj), List.getElem?_map, ev]
    cases s with
    | val d => exact ⟨v, rfl, Den.nw q fun a ha => .inl (nf a ha)⟩
    | lent xs fl => obtain ⟨a, us, e1, z1, z2, z3⟩ := q; exact ⟨a, us, by rw [e1]; rfl, z1, z2, z3.nw fun a ha => .inl (nf a ha)⟩
    | no => trivial
    | own xs fl => exact False.elim q
  · rw [List.getElem?_replicate] at e
    split at e
    · cases e; trivial
    · cases e
theorem fn_ok {P : Program} {w : World} {K : PySem.W.Frag} {mg : Str → Option Value} {base : Heap} {x qual : Str} {st : Stmt} {f : Addr} {fd : FuncData} {N ps : List Str} {k : Nat} {g : VE → Res} (F : Fun K x qual st f fd) (S : FnScope N ps (defScope st)) (hnp : ps.length ≤ N.length)
    (hb : ∀ (cdv : Value) (A : Around) (outer : List Env) (s : Shared) (H : Hp) (E : XK) (M : Fb) (H0 : Hp), Room k (A.deeper (envOfC qual (defScope st) s.heap.objs.size f cdv)) →
      PSs (cxOf CX0 P w K mg base N qual (defScope st) f cdv A outer s H E).nox (defBody st) (tS K M H0 g)) : FnOk P w K mg base CX0 (k + 1) f fd ps (spD K (fnP ps.length N.length g)) := by
  refine F.ok S (fun vs H Q E h => ?_) (fun cdv A outer s H vs Q E hr h => ?_)
  · obtain ⟨N', ss, r, nh, ha, hF, q⟩ := h
    unfold fnP at hF
    split at hF
    · next hl => rw [← ha.length]; exact hl
    · cases hF
  · obtain ⟨N', ss, r, nh, ha, hF, q⟩ := h
    refine ⟨_, hb cdv A outer s H E N' H hr, ?_⟩
    unfold fnP at hF
    split at hF
    · next hl =>
      have hs : start N vs = vs.map some ++ List.replicate (N.length - ps.length) none := by unfold start; rw [← ha.length, hl]
      rw [hs]
      refine ⟨_, start_rel nh ha (N.length - ps.length), ?_⟩
      cases hg : g (ss ++ List.replicate (N.length - ps.length) .no) with
      | fail => rw [hg] at hF; cases hF
      | next ρ' => rw [hg] at hF; cases hF; exact fun σ' H' R' S' => q .non H' R'.same (by simp only [RvOk, Den])
      | brk ρ' => rw [hg] at hF; cases hF
      | cont ρ' => rw [hg] at hF; cases hF
      | ret r' => rw [hg] at hF; cases hF; exact fun v H' s hv => q v H' s hv
    · cases hF
theorem fn_okJ {P : Program} {w : World} {K : PySem.W.Frag} {mg : Str → Option Value} {base : Heap} {x qual : Str} {st : Stmt} {f : Addr} {fd : FuncData} {N ps : List Str} {k : Nat} {g : VE → Res} (F : Fun K x qual st f fd) (S : FnScope N ps (defScope st)) (hnp : ps.length ≤ N.length)
    (hb : ∀ (cdv : Value) (A : Around) (outer : List Env) (s : Shared) (H : Hp) (E : XK) (M : Fb) (H0 : Hp), Room k (A.deeper (envOfC qual (defScope st) s.heap.objs.size f cdv)) →
      JB (cxOf CX0 P w K mg base N qual (defScope st) f cdv A outer s H E).nox (defBody st) (tS K M H0 g)) : FnOk P w K mg base CX0 (k + 1) f fd ps (spD K (fnP ps.length N.length g)) :=
  fn_ok F S hnp fun cdv A outer s H E M H0 hr => (hb cdv A outer s H E M H0 hr).h
theorem law_ok {P : Program} {w : World} {K : PySem.W.Frag} {mg : Str → Option Value} {base : Heap} {k : Nat} {f : Addr} {fd : FuncData} {F : List Sl → Option Rv} (G : FnOk P w K mg base CX0 k f fd ["_law_script"] (spD K F))
    (h : ∀ ns : List Int, ns.length ≤ 63 → F [.val (.lst (ns.map D.int))] = some (.val (.bl true))) : FnOk P w K mg base CX0 k f fd ["_law_script"] (spLaw K) :=
  G.imp fun vs H Q E ⟨a, ns, e, hs, hl, q⟩ => by
    refine ⟨fun _ => False, [.val (.lst (ns.map D.int))], .val (.bl true), fun _ z => z.elim, ⟨_, [], e, ?_, rfl⟩, h ns hl, fun v H' s hv => ?_⟩
    · simp only [ArgOk, Den]
      exact ⟨a, _, rfl, .of_sq hs, DenL.ints ns⟩
    · simp only [RvOk, Den] at hv
      subst hv; exact q H'
end L2
set_option Elab.async false
set_option linter.all false
set_option maxRecDepth 100000
namespace L2
open PySem PySem.Spec PyProof.Rows
section
variable {K : PySem.W.Frag}
@[simp] def i2 (g : Int → Int → Option D) : D → D → Option D
  | .int i, .int j => g i j
  | _, _ => none
theorem i2_inv {g : Int → Int → Option D} {x y d : D} (h : i2 g x y = some d) : ∃ i j, x = .int i ∧ y = .int j ∧ g i j = some d := by
  unfold i2 at h
  split at h
  · exact ⟨_, _, rfl, rfl, h⟩
  · cases h
theorem DenP.int {N : Fb} {H : Hp} {i : Int} {v : V} (h : DenP K N H (.int i) v) : v = .int i := by simpa only [DenP, Den] using h
theorem DenP.str {N : Fb} {H : Hp} {i : Str} {v : V} (h : DenP K N H (.str i) v) : v = .str i := by simpa only [DenP, Den] using h
theorem DenP.bl {N : Fb} {H : Hp} {i : Bool} {v : V} (h : DenP K N H (.bl i) v) : v = .bl i := by simpa only [DenP, Den] using h
theorem DenP.non {N : Fb} {H : Hp} {v : V} (h : DenP K N H .non v) : v = .non := by simpa only [DenP, Den] using h
theorem DenP.ty {N : Fb} {H : Hp} {i : String} {v : V} (h : DenP K N H (.ty i) v) : v = .ty i := by simpa only [DenP, Den] using h
theorem DenP.tup {N : Fb} {H : Hp} {xs : List D} {v : V} (h : DenP K N H (.tup xs) v) : ∃ a vs, v = .ref a ∧ SqT K H a vs ∧ DenL K N H xs vs := by simpa only [DenP, Den] using h
theorem den_int {N : Fb} {H : Hp} {i : Int} : Den K N H (.int i) (.int i) := by simp only [Den]
theorem den_bl {N : Fb} {H : Hp} {i : Bool} : Den K N H (.bl i) (.bl i) := by simp only [Den]
theorem den_str {N : Fb} {H : Hp} {i : Str} : Den K N H (.str i) (.str i) := by simp only [Den]
theorem r2_i0 (g : Int → Int → Int) : R2D K (rI0 fun i j => .int (g i j)) (i2 fun i j => some (.int (g i j))) := by
  intro N H x y d1 d2 d Q nh h1 h2 e q
  obtain ⟨i, j, rfl, rfl, e⟩ := i2_inv e
  cases e
  exact ⟨i, j, h1.int, h2.int, q _ H (Same.refl H) den_int⟩
theorem r2_b0 (g : Int → Int → Bool) : R2D K (rI0 fun i j => .bl (g i j)) (i2 fun i j => some (.bl (g i j))) := by
  intro N H x y d1 d2 d Q nh h1 h2 e q
  obtain ⟨i, j, rfl, rfl, e⟩ := i2_inv e
  cases e
  exact ⟨i, j, h1.int, h2.int, q _ H (Same.refl H) den_bl⟩
theorem r2_i {C : Int → Int → Prop} [∀ i j, Decidable (C i j)] (g : Int → Int → Int) : R2D K (rI C fun i j => .int (g i j)) (i2 fun i j => if C i j then some (.int (g i j)) else none) := by
  intro N H x y d1 d2 d Q nh h1 h2 e q
  obtain ⟨i, j, rfl, rfl, e'⟩ := i2_inv e
  split at e'
  · next hc => cases e'; exact ⟨i, j, h1.int, h2.int, hc, q _ H (Same.refl H) den_int⟩
  · cases e'
instance (i j : Int) : Decidable (CDiv i j) := by unfold CDiv; exact inferInstance
instance (i j : Int) : Decidable (CMul i j) := by unfold CMul; exact inferInstance
instance (i j : Int) : Decidable (CPow i j) := by unfold CPow; exact inferInstance
@[simp] def subD : D → D → Option D := i2 fun i j => some (.int (i - j))
@[simp] def mulD : D → D → Option D := i2 fun i j => if CMul i j then some (.int (i * j)) else none
@[simp] def fdivD : D → D → Option D := i2 fun i j => if CDiv i j then some (.int (i / j)) else none
@[simp] def modD : D → D → Option D := i2 fun i j => if 0 < j then some (.int (i % j)) else none
@[simp] def powD : D → D → Option D := i2 fun i j => if CPow i j then some (.int (i ^ j.toNat)) else none
@[simp] def leD : D → D → Option D := i2 fun i j => some (.bl (decide (i ≤ j)))
@[simp] def gtD : D → D → Option D := i2 fun i j => some (.bl (decide (j < i)))
@[simp] def geD : D → D → Option D := i2 fun i j => some (.bl (decide (j ≤ i)))
section
variable {X : Cx} {M : Fb} {H0 : Hp} {a b : Expr} {f g : VE → Option D} {pos : Pos}
theorem ve_sub (ha : PE X a (tP K M H0 f)) (hb : PE X b (tP K M H0 g)) : PE X (.BinOp a .Sub b pos) (tD K M H0 (bin2 subD f g)) := ve_op op_sub (r2_i0 _) ha hb
theorem j_ve_sub (ha : JE X a (tP K M H0 f)) (hb : JE X b (tP K M H0 g)) : JE X (.BinOp a .Sub b pos) (tD K M H0 (bin2 subD f g)) := ⟨ve_sub ha.h hb.h⟩
theorem ve_mul (ha : PE X a (tP K M H0 f)) (hb : PE X b (tP K M H0 g)) : PE X (.BinOp a .Mult b pos) (tD K M H0 (bin2 mulD f g)) := ve_op op_mul (r2_i _) ha hb
theorem j_ve_mul (ha : JE X a (tP K M H0 f)) (hb : JE X b (tP K M H0 g)) : JE X (.BinOp a .Mult b pos) (tD K M H0 (bin2 mulD f g)) := ⟨ve_mul ha.h hb.h⟩
theorem ve_fdiv (ha : PE X a (tP K M H0 f)) (hb : PE X b (tP K M H0 g)) : PE X (.BinOp a .FloorDiv b pos) (tD K M H0 (bin2 fdivD f g)) := ve_op op_fdiv (r2_i _) ha hb
theorem j_ve_fdiv (ha : JE X a (tP K M H0 f)) (hb : JE X b (tP K M H0 g)) : JE X (.BinOp a .FloorDiv b pos) (tD K M H0 (bin2 fdivD f g)) := ⟨ve_fdiv ha.h hb.h⟩
theorem ve_mod (ha : PE X a (tP K M H0 f)) (hb : PE X b (tP K M H0 g)) : PE X (.BinOp a .Mod b pos) (tD K M H0 (bin2 modD f g)) := ve_op op_mod (r2_i _) ha hb
theorem j_ve_mod (ha : JE X a (tP K M H0 f)) (hb : JE X b (tP K M H0 g)) : JE X (.BinOp a .Mod b pos) (tD K M H0 (bin2 modD f g)) := ⟨ve_mod ha.h hb.h⟩
theorem ve_pow (ha : PE X a (tP K M H0 f)) (hb : PE X b (tP K M H0 g)) : PE X (.BinOp a .Pow b pos) (tD K M H0 (bin2 powD f g)) := ve_op op_pow (r2_i _) ha hb
theorem j_ve_pow (ha : JE X a (tP K M H0 f)) (hb : JE X b (tP K M H0 g)) : JE X (.BinOp a .Pow b pos) (tD K M H0 (bin2 powD f g)) := ⟨ve_pow ha.h hb.h⟩
@[simp] def negD : Option D → Option D
  | some (.int i) => some (.int (-i))
  | _ => none
theorem ve_neg (ha : PE X a (tP K M H0 f)) : PE X (.UnaryOp .USub a pos) (tD K M H0 fun ρ => negD (f ρ)) := (pe_un un_neg ha).mono fun σ H Q ⟨ρ, d, R, e, q⟩ => by
  try dsimp only at e q
  unfold negD at e
  split at e
  · next i hf => cases e; exact ⟨ρ, .int i, R, hf, fun v H' s hv => ⟨i, hv.int, q _ H' s den_int⟩⟩
  · cases e
theorem j_ve_neg (ha : JE X a (tP K M H0 f)) : JE X (.UnaryOp .USub a pos) (tD K M H0 fun ρ => negD (f ρ)) := ⟨ve_neg ha.h⟩
end
end
section
variable {X : Cx}
def rCatG (K : PySem.W.Frag) : R2 := fun x y H Q => ∃ l b xs zs, x = .ref l ∧ y = .ref b ∧ SqL K H l xs ∧ SqL K H b zs ∧ xs.length + zs.length ≤ sizeLine ∧ ∀ p, H p = none → Q (.ref p) (upd H p (.lst (xs ++ zs)))
theorem op_catG : OpR X (binaryOp .Add) (rCatG X.K) := by
  intro pins s σ H x y v u Q I rx ry h
  obtain ⟨l, b, xs, zs, rfl, rfl, hH, hB, hz, q⟩ := h
  cases rx
  cases ry
  obtain ⟨its, r, p1, z1⟩ := I.list hH
  obtain ⟨its2, r2, p2, z2⟩ := I.list hB
  have hl := r.length
  have hl2 := r2.length
  obtain ⟨⟨cls, dd, data, sl⟩, ho, hc, n, hd⟩ := p1.isList
  obtain ⟨⟨cls2, dd2, data2, sl2⟩, ho2, hc2, n2, hd2⟩ := p2.isList
  simp only at hc hd hc2 hd2
  subst hc hd hc2 hd2
  have e : its.toArray ++ its2.toArray = (its ++ its2).toArray := by simp
  refine concat_meets ⟨_, ho, rfl⟩ ⟨_, ho2, rfl⟩ noFill_list_add seq_list_add PySem.F.slot_list_add PySem.F.entry_list_add (PySem.F.args_list_add_2 _ _) (list_addW l b its.toArray its2.toArray n n2 dd dd2 sl sl2 (by rw [List.size_toArray, List.size_toArray]; omega)) ⟨ho, ho2, ?_⟩
  rw [e]
  exact ⟨.ref _, _, I.lnew (t' := s.toks) (r.append r2) (by rw [List.length_append]; omega), rfl, q _ I.fresh⟩
def rCatGT (K : PySem.W.Frag) : R2 := fun x y H Q => ∃ l b xs zs, x = .ref l ∧ y = .ref b ∧ SqT K H l xs ∧ SqT K H b zs ∧ xs.length + zs.length ≤ sizeLine ∧
  (xs = [] → Q (.ref b) H) ∧ (zs = [] → Q (.ref l) H) ∧ ∀ p, H p = none → Q (.ref p) (upd H p (.tup (xs ++ zs)))
theorem op_catGT : OpR X (binaryOp .Add) (rCatGT X.K) := by
  intro pins s σ H x y v u Q I rx ry h
  obtain ⟨l, b, xs, zs, rfl, rfl, hH, hB, hz, qx, qz, q⟩ := h
  cases rx
  cases ry
  obtain ⟨its, r, p1, z1⟩ := I.tuple hH
  obtain ⟨its2, r2, p2, z2⟩ := I.tuple hB
  have hl := r.length
  have hl2 := r2.length
  obtain ⟨⟨cls, dd, data, sl⟩, ho, hc, n, hd⟩ := id p1
  obtain ⟨⟨cls2, dd2, data2, sl2⟩, ho2, hc2, n2, hd2⟩ := id p2
  simp only at hc hd hc2 hd2
  subst hc hd hc2 hd2
  by_cases h1 : xs = []
  · have hi : its.toArray.isEmpty = true := by
      subst h1
      have : its = [] := List.length_eq_zero_iff.mp hl.symm
      subst this; rfl
    exact concat_meets ⟨_, ho, rfl⟩ ⟨_, ho2, rfl⟩ noFill_tuple_add seq_tuple_add PySem.F.slot_tuple_add PySem.F.entry_tuple_add (PySem.F.args_tuple_add_2 _ _) (tuple_addW0 l b its.toArray its2.toArray n n2 dd dd2 sl sl2 hi) ⟨ho, ho2, ⟨.ref b, H, I, rfl, qx h1⟩⟩
  · have hi : ¬ its.toArray.isEmpty = true := by
      intro z
      have : its = [] := by simpa using z
      subst this
      exact h1 (List.length_eq_zero_iff.mp hl)
    by_cases h2 : zs = []
    · have hi2 : its2.toArray.isEmpty = true := by
        subst h2
        have : its2 = [] := List.length_eq_zero_iff.mp hl2.symm
        subst this; rfl
      exact concat_meets ⟨_, ho, rfl⟩ ⟨_, ho2, rfl⟩ noFill_tuple_add seq_tuple_add PySem.F.slot_tuple_add PySem.F.entry_tuple_add (PySem.F.args_tuple_add_2 _ _) (tuple_addW1 l b its.toArray its2.toArray n n2 dd dd2 sl sl2 hi hi2) ⟨ho, ho2, ⟨.ref l, H, I, rfl, qz h2⟩⟩
    · have hi2 : ¬ its2.toArray.isEmpty = true := by
        intro z
        have : its2 = [] := by simpa using z
        subst this
        exact h2 (List.length_eq_zero_iff.mp hl2)
      have e : its.toArray ++ its2.toArray = (its ++ its2).toArray := by simp
      refine concat_meets ⟨_, ho, rfl⟩ ⟨_, ho2, rfl⟩ noFill_tuple_add seq_tuple_add PySem.F.slot_tuple_add PySem.F.entry_tuple_add (PySem.F.args_tuple_add_2 _ _) (tuple_addW2 l b its.toArray its2.toArray n n2 dd dd2 sl sl2 hi hi2 (by rw [List.size_toArray, List.size_toArray]; omega)) ⟨ho, ho2, ?_⟩
      rw [e]
      refine ⟨.ref s.heap.objs.size, upd H s.heap.objs.size (.tup (xs ++ zs)), I.laid (t' := s.toks) (fun b u e => Heap.get?_push_of_some _ e) (Nat.le_refl _) ?_, rfl, q _ I.fresh⟩
      exact ⟨by rw [List.length_append]; omega, its ++ its2, r.append r2, IsTup.new _ _⟩
end
@[simp] def addD : D → D → Option D
  | .int i, .int j => some (.int (i + j))
  | .str x, .str y => if x.length + y.length ≤ sizeLine then some (.str (x ++ y)) else none
  | .lst xs, .lst ys => if xs.length + ys.length ≤ sizeLine then some (.lst (xs ++ ys)) else none
  | .tup xs, .tup ys => if xs.length + ys.length ≤ sizeLine then some (.tup (xs ++ ys)) else none
  | _, _ => none
def rAddD (K : PySem.W.Frag) : R2 := fun x y H Q => rI0 (fun i j => .int (i + j)) x y H Q ∨ (∃ i j, x = .str i ∧ y = .str j ∧ i.length + j.length ≤ sizeLine ∧ Q (.str (i ++ j)) H) ∨ rCatG K x y H Q ∨ rCatGT K x y H Q
theorem op_addD {X : Cx} : OpR X (binaryOp .Add) (rAddD X.K) := op_add.or (op_add_str.or (op_catG.or op_catGT))
theorem den_newL {K : PySem.W.Frag} {N : Fb} {H : Hp} {xs : List D} {vs : List V} {p : Addr} (nh : ∀ a, N a → H a ≠ none) (hp : H p = none) (h : DenL K N H xs vs) : Den K N (upd H p (.lst vs)) (.lst xs) (.ref p) := by
  simp only [Den]
  exact ⟨p, vs, rfl, .of (fun z => nh p z hp) upd_same, h.same (same_new hp)⟩
theorem den_newT {K : PySem.W.Frag} {N : Fb} {H : Hp} {xs : List D} {vs : List V} {p : Addr} (hp : H p = none) (h : DenL K N H xs vs) : Den K N (upd H p (.tup vs)) (.tup xs) (.ref p) := by
  simp only [Den]
  exact ⟨p, vs, rfl, SqT.of upd_same, h.same (same_new hp)⟩
theorem r2_add {K : PySem.W.Frag} : R2D K (rAddD K) addD := by
  intro N H x y d1 d2 d Q nh h1 h2 e q
  unfold addD at e
  split at e
  · cases e; exact .inl ⟨_, _, h1.int, h2.int, q _ H (Same.refl H) den_int⟩
  · split at e
    · next hz => cases e; exact .inr (.inl ⟨_, _, h1.str, h2.str, hz, q _ H (Same.refl H) den_str⟩)
    · cases e
  · split at e
    · next hz =>
      cases e
      obtain ⟨a, vs, e1, q1, r1⟩ := h1
      obtain ⟨b, ws, e2, q2, r2⟩ := h2
      exact .inr (.inr (.inl ⟨a, b, vs, ws, e1, e2, q1, q2, by rw [← r1.length, ← r2.length]; exact hz, fun p hp => q _ _ (same_new hp) (den_newL nh hp (r1.append r2))⟩))
    · cases e
  · split at e
    · next hz =>
      cases e
      obtain ⟨a, vs, e1, q1, r1⟩ := h1.tup
      obtain ⟨b, ws, e2, q2, r2⟩ := h2.tup
      refine .inr (.inr (.inr ⟨a, b, vs, ws, e1, e2, q1, q2, by rw [← r1.length, ← r2.length]; exact hz, fun z => ?_, fun z => ?_, fun p hp => q _ _ (same_new hp) (den_newT hp (r1.append r2))⟩))
      · refine q _ H (Same.refl H) ?_
        simp only [Den]
        exact ⟨b, vs ++ ws, rfl, by rw [z]; exact q2, r1.append r2⟩
      · refine q _ H (Same.refl H) ?_
        simp only [Den]
        exact ⟨a, vs ++ ws, rfl, by rw [z, List.append_nil]; exact q1, r1.append r2⟩
    · cases e
  · cases e
theorem ve_add {X : Cx} {M : Fb} {H0 : Hp} {a b : Expr} {f g : VE → Option D} {pos : Pos} (ha : PE X a (tP X.K M H0 f)) (hb : PE X b (tP X.K M H0 g)) : PE X (.BinOp a .Add b pos) (tD X.K M H0 (bin2 addD f g)) := ve_op op_addD r2_add ha hb
theorem j_ve_add {X : Cx} {M : Fb} {H0 : Hp} {a b : Expr} {f g : VE → Option D} {pos : Pos} (ha : JE X a (tP X.K M H0 f)) (hb : JE X b (tP X.K M H0 g)) : JE X (.BinOp a .Add b pos) (tD X.K M H0 (bin2 addD f g)) := ⟨ve_add ha.h hb.h⟩
section
variable {prog : Program} {w : World} {A : Around} {E : Value → Shared → Prop} {s : Shared}
theorem getItem_tuple_whole {t sl : Addr} {items : Array Value} {vl vu : Value} {lo hi : Option Int} {Q : Value → Shared → Prop} (ht : IsTup s.heap t items) (hs : s.heap.IsSliceOf sl vl vu .none) (pl : IsPart vl lo) (pu : IsPart vu hi)
    (hw : HT.sIx items.size 0 lo = 0 ∧ HT.sIx items.size items.size hi = items.size) (h : Q (.ref t) s) : wpAny (model prog w) A (getItem (.ref t) (.ref sl)) Q E s := by
  obtain ⟨os, hos, hcs, hds⟩ := id hs
  have hTs : s.TypeIs (.ref sl) "slice" := ⟨os, hos, hcs⟩
  unfold getItem
  try with_reducible refine wpAny_holding ?_
  first | refine wpAny_bind (wpAny_pure ?_) | skip
  refine wpAny_bind (wpAny_sequenceKey ht.typeIs (by decide) ?_)
  refine wpAny_bind (wpAny_callSpecial?_slot (name := Str.ofString "__getitem__") ht.typeIs PyProof.Rows.slot_tuple_getitem
    (wpAny_call_entry PyProof.Rows.slot_tuple_getitem ht.typeIs entry_tuple_getitem ?_ (args_tuple_getitem _ _)))
  show wpAny _ _ (Builtin.Tuple.tupleItemsOf (.ref t) >>= _) _ _ s
  refine wpAny_bind (PyProof.Rows.tupleItemsOf_ ht ?_)
  refine wpAny_bind (wpAny_typeOf hTs ?_)
  rw [if_pos (by decide)]
  refine wpAny_bind (HT.sliceApplied_gen hs pl pu ?_)
  have hyes : (((HT.sIx items.size 0 lo : Nat) : Int) == 0 && (1 : Int) == 1 && (HT.sIx items.size items.size hi - HT.sIx items.size 0 lo) == items.size) = true := by
    rw [hw.1, hw.2]; simp
  show wpAny _ _ (if (((HT.sIx items.size 0 lo : Nat) : Int) == 0 && (1 : Int) == 1 && (HT.sIx items.size items.size hi - HT.sIx items.size 0 lo) == items.size) = true then _ else _) _ _ s
  rw [if_pos hyes]
  unfold Builtin.Tuple.tupleIsExact
  refine wpAny_bind (wpAny_bind (wpAny_typeOf ht.typeIs (wpAny_pure ?_)))
  rw [if_pos (by decide)]
  exact wpAny_bind (wpAny_rule (wpAny_pure ⟨_, rfl, wpAny_pure h⟩))
end
def rSlTG (K : PySem.W.Frag) : V → Option Int → Option Int → Hp → VK → Prop := fun x lo hi H Q => ∃ a xs, x = .ref a ∧ SqT K H a xs ∧ (cutV xs lo hi = xs → Q (.ref a) H) ∧ ∀ p, H p = none → Q (.ref p) (upd H p (.tup (cutV xs lo hi)))
theorem sl_tupG {X : Cx} : SlR X (rSlTG X.K) := by
  intro pins s σ H x v vl vu lo hi sl Q I rx hs pl pu h
  obtain ⟨a, xs, rfl, hx, qw, q⟩ := h
  by_cases hw : HT.sIx xs.length 0 lo = 0 ∧ HT.sIx xs.length xs.length hi = xs.length
  · cases rx
    obtain ⟨its, r, ht, hz⟩ := I.tuple hx
    have hlen : its.toArray.size = xs.length := by rw [List.size_toArray]; exact r.length.symm
    refine ⟨"tuple", _, PyProof.Rows.slot_tuple_getitem.lookup, ht.typeIs, getItem_tuple_whole ht hs pl pu (by rw [hlen]; exact hw) ⟨.ref a, H, I, rfl, qw ?_⟩⟩
    unfold cutV
    rw [hw.1, hw.2, List.drop_zero, Nat.sub_zero, List.take_length]
  · exact sl_tup pins s σ H _ v vl vu lo hi sl Q I rx hs pl pu ⟨a, xs, rfl, hx, hw, q⟩
@[simp] def ixD : D → D → Option D
  | .lst xs, .int i => atI xs i
  | .tup xs, .int i => atI xs i
  | .str x, .int i => if x.length ≤ sizeLine then (atI x.cps.toList i).map fun c => .str ⟨#[c]⟩ else none
  | _, _ => none
theorem DenL.atI {K : PySem.W.Frag} {N : Fb} {H : Hp} {xs : List D} {vs : List V} {i : Int} {d : D} (h : DenL K N H xs vs) (e : L2.atI xs i = some d) : ∃ v, L2.atI vs i = some v ∧ Den K N H d v := by
  unfold L2.atI at e ⊢
  rw [← h.length]
  cases hj : ixN xs.length i with
  | none => rw [hj] at e; cases e
  | some j => rw [hj] at e; exact h.get e
theorem r2_ix {K : PySem.W.Frag} : R2D K (rIx K) ixD := by
  intro N H x y d1 d2 d Q nh h1 h2 e q
  unfold ixD at e
  split at e
  · obtain ⟨a, vs, e1, q1, r1⟩ := h1
    obtain ⟨v, ev, hv⟩ := r1.atI e
    exact .inl ⟨a, vs, _, v, e1, h2.int, q1, ev, q v H (Same.refl H) hv⟩
  · obtain ⟨a, vs, e1, q1, r1⟩ := h1.tup
    obtain ⟨v, ev, hv⟩ := r1.atI e
    exact .inr (.inl ⟨a, vs, _, v, e1, h2.int, q1, ev, q v H (Same.refl H) hv⟩)
  · split at e
    · next z i hz =>
      cases hc : atI z.cps.toList i with
      | none => rw [hc] at e; cases e
      | some c => rw [hc] at e; cases e; exact .inr (.inr ⟨z, i, c, h1.str, h2.int, hz, hc, q _ H (Same.refl H) den_str⟩)
    · cases e
  · cases e
section
variable {X : Cx} {K : PySem.W.Frag} {M : Fb} {H0 : Hp} {a b e : Expr} {f g : VE → Option D} {pos p2 : Pos}
theorem ve_item (ha : PE X a (tP X.K M H0 f)) (hb : PE X b (tP X.K M H0 g)) (hs : PlainIx b) : PE X (.Subscript a b pos) (tD X.K M H0 (bin2 ixD f g)) := ve_ix ix_seq r2_ix ha hb hs
theorem j_ve_item (ha : JE X a (tP X.K M H0 f)) (hb : JE X b (tP X.K M H0 g)) (hs : PlainIx b) : JE X (.Subscript a b pos) (tD X.K M H0 (bin2 ixD f g)) := ⟨ve_item ha.h hb.h hs⟩
def tO (K : PySem.W.Frag) (M : Fb) (H0 : Hp) (o : VE → Option (Option Int)) : TO := fun σ H Q => ∃ ρ i, Rel K M H0 ρ σ H ∧ o ρ = some i ∧ ∀ H', Same H H' → Q i H'
@[simp] def asI : Option D → Option (Option Int)
  | some (.int i) => some (some i)
  | _ => none
theorem PO.mono {e : Option Expr} {t t' : TO} (h : PO X e t) (m : ∀ σ H Q, t' σ H Q → t σ H Q) : PO X e t' := by
  intro pins s σ H Q I q
  exact h pins s σ H Q I (m σ H Q q)
theorem vo_none : PO X none (tO K M H0 fun _ => some none) := PO.mono po_none fun σ H Q ⟨ρ, i, R, e, q⟩ => by (try dsimp only at e q); cases e; exact q H (Same.refl H)
theorem j_vo_none  : JO X none (tO K M H0 fun _ => some none) := ⟨vo_none ⟩
theorem vo_some (h : PE X e (tP K M H0 f)) : PO X (some e) (tO K M H0 fun ρ => asI (f ρ)) := PO.mono (po_some h) fun σ H Q ⟨ρ, i, R, e, q⟩ => by
  try dsimp only at e q
  unfold asI at e
  split at e
  · next j hf => cases e; exact ⟨ρ, .int j, R, hf, fun v H' s hv => ⟨j, hv.int, q H' s⟩⟩
  · cases e
theorem j_vo_some (h : JE X e (tP K M H0 f)) : JO X (some e) (tO K M H0 fun ρ => asI (f ρ)) := ⟨vo_some h.h⟩
def cutD {α : Type} (xs : List α) (lo hi : Option Int) : List α := (xs.drop (HT.sIx xs.length 0 lo)).take (HT.sIx xs.length xs.length hi - HT.sIx xs.length 0 lo)
@[simp] def slD (x : D) (lo hi : Option Int) : Option D := match x with
  | .lst xs => some (.lst (cutD xs lo hi))
  | .tup xs => some (.tup (cutD xs lo hi))
  | .str x => if x.length ≤ sizeLine then some (.str (Txt.slice x lo hi)) else none
  | _ => none
@[simp] def slL (x : D) (lo hi : Option Int) : Option (List D) := match x with
  | .lst xs => some (cutD xs lo hi)
  | _ => none
theorem DenL.cut {K : PySem.W.Frag} {N : Fb} {H : Hp} {xs : List D} {vs : List V} (h : DenL K N H xs vs) (lo hi : Option Int) : DenL K N H (cutD xs lo hi) (cutV vs lo hi) := by
  unfold cutD cutV
  rw [h.length]
  exact (h.drop _).take _
@[simp] def sl3 {α : Type} (f : VE → Option D) (lo hi : VE → Option (Option Int)) (F : D → Option Int → Option Int → Option α) : VE → Option α := fun ρ => (f ρ).bind fun x => (lo ρ).bind fun l => (hi ρ).bind fun h => F x l h
theorem sl3_inv {α : Type} {f : VE → Option D} {lo hi : VE → Option (Option Int)} {F : D → Option Int → Option Int → Option α} {ρ : VE} {d : α} (h : sl3 f lo hi F ρ = some d) : ∃ x l u, f ρ = some x ∧ lo ρ = some l ∧ hi ρ = some u ∧ F x l u = some d := by
  unfold sl3 at h
  cases hf : f ρ with
  | none => rw [hf] at h; cases h
  | some x =>
    cases hl : lo ρ with
    | none => rw [hf, hl] at h; cases h
    | some l =>
      cases hu : hi ρ with
      | none => rw [hf, hl, hu] at h; cases h
      | some u => rw [hf, hl, hu] at h; exact ⟨x, l, u, rfl, rfl, rfl, h⟩
theorem ve_slice {el eu : Option Expr} {lo hi : VE → Option (Option Int)} (he : PE X e (tP X.K M H0 f)) (hl : PO X el (tO X.K M H0 lo)) (hu : PO X eu (tO X.K M H0 hi)) :
    PE X (.Subscript e (.Slice el eu none p2) pos) (tD X.K M H0 (sl3 f lo hi slD)) := (pe_slice (sl_list.or (sl_tupG.or sl_str)) he hl hu).mono fun σ H Q ⟨ρ, d, R, ex, q⟩ => by
  try dsimp only at ex q
  obtain ⟨x, l, u, e1, e2, e3, e4⟩ := sl3_inv ex
  refine ⟨ρ, x, R, e1, fun v H1 s1 hv => ⟨ρ, l, R.st s1, e2, fun H2 s2 => ⟨ρ, u, (R.st s1).st s2, e3, fun H3 s3 => ?_⟩⟩⟩
  have hv := (hv.same s2).same s3
  have s := (s1.trans s2).trans s3
  have R3 := R.st s
  unfold slD at e4
  split at e4
  · cases e4
    obtain ⟨a, vs, ea, qa, ra⟩ := hv
    exact .inl ⟨a, vs, ea, qa, fun p hp => q _ _ (s.trans (same_new hp)) (den_newL R3.nh hp (ra.cut l u))⟩
  · cases e4
    obtain ⟨a, vs, ea, qa, ra⟩ := hv.tup
    refine .inr (.inl ⟨a, vs, ea, qa, fun z => q _ _ s ?_, fun p hp => q _ _ (s.trans (same_new hp)) (den_newT hp (ra.cut l u))⟩)
    simp only [Den]
    exact ⟨a, vs, rfl, qa, z ▸ ra.cut l u⟩
  · split at e4
    · next hz => cases e4; exact .inr (.inr ⟨_, hv.str, hz, q _ _ s den_str⟩)
    · cases e4
  · cases e4
theorem j_ve_slice {el eu : Option Expr} {lo hi : VE → Option (Option Int)} (he : JE X e (tP X.K M H0 f)) (hl : JO X el (tO X.K M H0 lo)) (hu : JO X eu (tO X.K M H0 hi)) : JE X (.Subscript e (.Slice el eu none p2) pos) (tD X.K M H0 (sl3 f lo hi slD)) := ⟨ve_slice he.h hl.h hu.h⟩
end
end L2
set_option Elab.async false
set_option linter.all false
set_option maxRecDepth 100000
namespace L2
open PySem PySem.Spec PyProof.Rows
mutual
def eqD : D → D → Bool
  | .non, .non => true
  | .bl a, .bl b => a == b
  | .bl a, .int b => (if a then 1 else 0) == b
  | .int a, .bl b => a == (if b then 1 else 0)
  | .int a, .int b => a == b
  | .str a, .str b => a == b
  | .tup xs, .tup ys => eqDs xs ys
  | .lst xs, .lst ys => eqDs xs ys
  | _, _ => false
def eqDs : List D → List D → Bool
  | [], [] => true
  | x :: xs, y :: ys => eqD x y && eqDs xs ys
  | _, _ => false
end
@[simp] def okD : Nat → D → Bool
  | _, .non => true
  | _, .bl _ => true
  | _, .int _ => true
  | _, .str _ => true
  | n + 1, .tup xs => xs.all (okD n)
  | n + 1, .lst xs => xs.all (okD n)
  | _, _ => false
mutual
theorem eqD_refl : ∀ (n : Nat) (d : D), okD n d = true → eqD d d = true
  | _, .non, _ => by simp only [eqD]
  | _, .bl _, _ => by simp only [eqD, beq_self_eq_true]
  | _, .int _, _ => by simp only [eqD, beq_self_eq_true]
  | _, .str _, _ => by simp only [eqD, beq_self_eq_true]
  | 0, .ty _, h => by simp [okD] at h
  | _ + 1, .ty _, h => by simp [okD] at h
  | 0, .tup xs, h => by simp [okD] at h
  | 0, .lst xs _, h => by simp [okD] at h
  | n + 1, .tup xs, h => by simp only [okD] at h; simp only [eqD]; exact eqDs_refl n xs h
  | n + 1, .lst xs false, h => by simp only [okD] at h; simp only [eqD]; exact eqDs_refl n xs h
  | n + 1, .lst xs true, h => by simp [okD] at h
theorem eqDs_refl : ∀ (n : Nat) (xs : List D), xs.all (okD n) = true → eqDs xs xs = true
  | _, [], _ => by simp only [eqDs]
  | n, x :: xs, h => by
    simp only [List.all_cons, Bool.and_eq_true] at h
    simp only [eqDs, Bool.and_eq_true]
    exact ⟨eqD_refl n x h.1, eqDs_refl n xs h.2⟩
end
theorem eqDs_len : ∀ {xs ys : List D}, xs.length ≠ ys.length → eqDs xs ys = false
  | [], [], h => absurd rfl h
  | [], _ :: _, _ => by simp only [eqDs]
  | _ :: _, [], _ => by simp only [eqDs]
  | x :: xs, y :: ys, h => by
    simp only [eqDs]
    rw [eqDs_len (xs := xs) (ys := ys) (by simpa using h), Bool.and_false]
theorem eqDs_all : ∀ {xs ys : List D}, xs.length = ys.length → eqDs xs ys = (List.range xs.length).all fun j => eqD (xs.getD j .non) (ys.getD j .non)
  | [], [], _ => by simp [eqDs]
  | [], _ :: _, h => by simp at h
  | _ :: _, [], h => by simp at h
  | x :: xs, y :: ys, h => by
    have ih := eqDs_all (xs := xs) (ys := ys) (by simpa using h)
    simp only [eqDs, List.length_cons, List.range_succ_eq_map, List.all_cons, List.getD_cons_zero, List.all_map, ih]
    rfl
section
variable {X : Cx} {pins : List (Addr × Obj)} {σ : St} {H : Hp} {s : Shared}
theorem Inv.apart (I : Inv X pins σ H s) {a : Addr} {xs ys : List V} (h : SqL X.K H a xs) (h' : SqT X.K H a ys) : False := by
  obtain ⟨its, r, ⟨o, n, e, c, _⟩, _⟩ := I.list h
  obtain ⟨its', r', ⟨o', e', c', _⟩, _⟩ := I.tuple h'
  rw [e] at e'; cases e'
  rw [c] at c'
  exact absurd c' (by decide)
theorem Rd.dct_inj {H : Hp} {a : Addr} {ks ks' : List KT} {vs vs' : List V} (h : Rd H a (.dct ks vs)) (h' : Rd H a (.dct ks' vs')) : vs = vs' := by
  rcases h with h | ⟨o, h⟩ <;> rcases h' with h' | ⟨o', h'⟩ <;> (rw [h] at h'; cases h'; try rfl)
theorem Inv.apartDL (I : Inv X pins σ H s) {a : Addr} {ks : List KT} {xs ys : List V} (h : Rd H a (.dct ks xs)) (h' : SqL X.K H a ys) : False := by
  obtain ⟨_, _, _, o, _, _, e, c, _⟩ := h.ok I.hok
  obtain ⟨its', r', ⟨o', n', e', c', _⟩, _⟩ := I.list h'
  rw [e] at e'; cases e'
  rw [c.1] at c'
  exact absurd c' (by decide)
theorem Inv.apartDT (I : Inv X pins σ H s) {a : Addr} {ks : List KT} {xs ys : List V} (h : Rd H a (.dct ks xs)) (h' : SqT X.K H a ys) : False := by
  obtain ⟨_, _, _, o, _, _, e, c, _⟩ := h.ok I.hok
  obtain ⟨its', r', ⟨o', e', c', _⟩, _⟩ := I.tuple h'
  rw [e] at e'; cases e'
  rw [c.1] at c'
  exact absurd c' (by decide)
mutual
/-- what an address denotes is one thing -/
theorem den_inj (I : Inv X pins σ H s) {N N' : Fb} : ∀ (d d' : D) (v : V), DenP X.K N H d v → DenP X.K N' H d' v → d = d'
  | .non, d', v, h, h' => by
    have h := h.non
    cases d' with
    | non => rfl
    | bl _ => rw [h'.bl] at h; cases h
    | int _ => rw [h'.int] at h; cases h
    | str _ => rw [h'.str] at h; cases h
    | ty _ => rw [h'.ty] at h; cases h
    | tup _ => obtain ⟨_, _, e, _⟩ := h'.tup; rw [e] at h; cases h
    | lst _ fl => cases fl <;> (obtain ⟨_, _, e, _⟩ := h'; rw [e] at h; cases h)
  | .bl _, d', v, h, h' => by
    have h := h.bl
    cases d' with
    | non => rw [h'.non] at h; cases h
    | bl _ => rw [h'.bl] at h; cases h; rfl
    | int _ => rw [h'.int] at h; cases h
    | str _ => rw [h'.str] at h; cases h
    | ty _ => rw [h'.ty] at h; cases h
    | tup _ => obtain ⟨_, _, e, _⟩ := h'.tup; rw [e] at h; cases h
    | lst _ fl => cases fl <;> (obtain ⟨_, _, e, _⟩ := h'; rw [e] at h; cases h)
  | .int _, d', v, h, h' => by
    have h := h.int
    cases d' with
    | non => rw [h'.non] at h; cases h
    | bl _ => rw [h'.bl] at h; cases h
    | int _ => rw [h'.int] at h; cases h; rfl
    | str _ => rw [h'.str] at h; cases h
    | ty _ => rw [h'.ty] at h; cases h
    | tup _ => obtain ⟨_, _, e, _⟩ := h'.tup; rw [e] at h; cases h
    | lst _ fl => cases fl <;> (obtain ⟨_, _, e, _⟩ := h'; rw [e] at h; cases h)
  | .str _, d', v, h, h' => by
    have h := h.str
    cases d' with
    | non => rw [h'.non] at h; cases h
    | bl _ => rw [h'.bl] at h; cases h
    | int _ => rw [h'.int] at h; cases h
    | str _ => rw [h'.str] at h; cases h; rfl
    | ty _ => rw [h'.ty] at h; cases h
    | tup _ => obtain ⟨_, _, e, _⟩ := h'.tup; rw [e] at h; cases h
    | lst _ fl => cases fl <;> (obtain ⟨_, _, e, _⟩ := h'; rw [e] at h; cases h)
  | .ty _, d', v, h, h' => by
    have h := h.ty
    cases d' with
    | non => rw [h'.non] at h; cases h
    | bl _ => rw [h'.bl] at h; cases h
    | int _ => rw [h'.int] at h; cases h
    | str _ => rw [h'.str] at h; cases h
    | ty _ => rw [h'.ty] at h; cases h; rfl
    | tup _ => obtain ⟨_, _, e, _⟩ := h'.tup; rw [e] at h; cases h
    | lst _ fl => cases fl <;> (obtain ⟨_, _, e, _⟩ := h'; rw [e] at h; cases h)
  | .tup xs, d', v, h, h' => by
    obtain ⟨a, vs, e, q, r⟩ := h.tup
    subst e
    cases d' with
    | non => cases h'.non
    | bl _ => cases h'.bl
    | int _ => cases h'.int
    | str _ => cases h'.str
    | ty _ => cases h'.ty
    | tup ys =>
      obtain ⟨b, ws, e, q', r'⟩ := h'.tup
      cases e
      have := I.tuple_inj q q'
      subst this
      rw [denL_inj I xs ys vs r r']
    | lst _ fl =>
      cases fl with
      | false => obtain ⟨b, ws, e, q', _⟩ := h'; cases e; exact (I.apart q' q).elim
      | true => obtain ⟨b, ws, e, q', _⟩ := h'; cases e; exact (I.apartDT q' q).elim
  | .lst xs true, d', v, h, h' => by
    obtain ⟨a, vs, e, q, r⟩ := h
    subst e
    cases d' with
    | non => cases h'.non
    | bl _ => cases h'.bl
    | int _ => cases h'.int
    | str _ => cases h'.str
    | ty _ => cases h'.ty
    | tup ys => obtain ⟨b, ws, e, q', r'⟩ := h'.tup; cases e; exact (I.apartDT q q').elim
    | lst ys fl =>
      cases fl with
      | false => obtain ⟨b, ws, e, q', r'⟩ := h'; cases e; exact (I.apartDL q q').elim
      | true =>
        obtain ⟨b, ws, e, q', r'⟩ := h'
        cases e
        have := Rd.dct_inj q q'
        subst this
        rw [denL_inj I xs ys vs r r']
  | .lst xs false, d', v, h, h' => by
    obtain ⟨a, vs, e, q, r⟩ := h
    subst e
    cases d' with
    | non => cases h'.non
    | bl _ => cases h'.bl
    | int _ => cases h'.int
    | str _ => cases h'.str
    | ty _ => cases h'.ty
    | tup ys => obtain ⟨b, ws, e, q', r'⟩ := h'.tup; cases e; exact (I.apart q q').elim
    | lst ys fl =>
      cases fl with
      | true => obtain ⟨b, ws, e, q', r'⟩ := h'; cases e; exact (I.apartDL q' q).elim
      | false =>
      obtain ⟨b, ws, e, q', r'⟩ := h'
      cases e
      have := I.list_inj q q'
      subst this
      rw [denL_inj I xs ys vs r r']
theorem denL_inj (I : Inv X pins σ H s) {N N' : Fb} : ∀ (xs ys : List D) (vs : List V), DenL X.K N H xs vs → DenL X.K N' H ys vs → xs = ys
  | [], ys, vs, h, h' => by
    simp only [DenL] at h; subst h
    cases ys with
    | nil => rfl
    | cons y ys => simp only [DenL] at h'; obtain ⟨_, _, e, _⟩ := h'; cases e
  | x :: xs, ys, vs, h, h' => by
    simp only [DenL] at h
    obtain ⟨v, r, e, q, t⟩ := h
    subst e
    cases ys with
    | nil => simp only [DenL] at h'; cases h'
    | cons y ys =>
      simp only [DenL] at h'
      obtain ⟨v', r', e, q', t'⟩ := h'
      cases e
      rw [den_inj I x y v q.p q'.p, denL_inj I xs ys r t t']
end
open SeqAt
theorem getD_some {α : Type} {xs : List α} {j : Nat} {d e : α} (h : xs[j]? = some e) : xs.getD j d = e := by simp [List.getD_eq_getElem?_getD, h]
theorem arr_get {its : List Value} {j : Nat} {u : Value} (h1 : j < its.toArray.size) (e : its[j]? = some u) : its.toArray[j] = u := by
  obtain ⟨_, e⟩ := List.getElem?_eq_some_iff.mp e
  simpa using e
def BothAt (A : Around) (s : Shared) (u v : Value) (b : Bool) : Prop := RcAt A s u v b ∧ EqAt A s u v b ∧ RcNeAt A s u v (!b)
theorem in1_units (A : Around) : A.in1.units = A.units + 1 := rfl
theorem bothAt_D (I : Inv X pins σ H s) {N : Fb} : ∀ (n : Nat) (A : Around) (x y : D) (vx vy : V) (u v : Value), A.units + n < cLine → okD n x = true → okD n y = true → DenP X.K N H x vx → DenP X.K N H y vy → RelV vx u → RelV vy v → BothAt A s u v (eqD x y) := by
  intro n
  induction n with
  | zero =>
    intro A x y vx vy u v hu ox oy hx hy rx ry
    have hu' : A.units < cLine := by omega
    cases x with
    | non =>
      rw [hx.non] at rx; cases rx
      cases y with
      | non => rw [hy.non] at ry; cases ry; simp only [eqD]; exact ⟨RcAt.none_none, EqAt.same _, RcNeAt.none_none⟩
      | bl _ => rw [hy.bl] at ry; cases ry; simp only [eqD]; exact ⟨RcAt.none_bool _, EqAt.none_bool _, RcNeAt.none_bool _⟩
      | int _ => rw [hy.int] at ry; obtain ⟨t2, rfl⟩ := ry; simp only [eqD]; exact ⟨RcAt.none_int _ _, EqAt.none_int _ _, RcNeAt.none_int _ _⟩
      | str _ => rw [hy.str] at ry; obtain ⟨t2, rfl⟩ := ry; simp only [eqD]; exact ⟨RcAt.none_str _ _, EqAt.none_str _ _, RcNeAt.none_str _ _⟩
      | tup ys => simp [okD] at oy
      | lst ys => simp [okD] at oy
      | ty _ => simp [okD] at oy
    | bl _ =>
      rw [hx.bl] at rx; cases rx
      cases y with
      | non => rw [hy.non] at ry; cases ry; simp only [eqD]; exact ⟨RcAt.bool_none _, EqAt.bool_none _, RcNeAt.bool_none _⟩
      | bl _ => rw [hy.bl] at ry; cases ry; simp only [eqD]; exact ⟨RcAt.bool_bool _ _, EqAt.bool_bool _ _, RcNeAt.bool_bool _ _⟩
      | int _ => rw [hy.int] at ry; obtain ⟨t2, rfl⟩ := ry; simp only [eqD]; exact ⟨RcAt.bool_int _ _ _, EqAt.bool_int _ _ _, RcNeAt.bool_int _ _ _⟩
      | str _ => rw [hy.str] at ry; obtain ⟨t2, rfl⟩ := ry; simp only [eqD]; exact ⟨RcAt.bool_str _ _ _, EqAt.bool_str _ _ _, RcNeAt.bool_str _ _ _⟩
      | tup ys => simp [okD] at oy
      | lst ys => simp [okD] at oy
      | ty _ => simp [okD] at oy
    | int _ =>
      rw [hx.int] at rx; obtain ⟨t1, rfl⟩ := rx
      cases y with
      | non => rw [hy.non] at ry; cases ry; simp only [eqD]; exact ⟨RcAt.int_none _ _, EqAt.int_none _ _, RcNeAt.int_none _ _⟩
      | bl _ => rw [hy.bl] at ry; cases ry; simp only [eqD]; exact ⟨RcAt.int_bool _ _ _, EqAt.int_bool _ _ _, RcNeAt.int_bool _ _ _⟩
      | int _ => rw [hy.int] at ry; obtain ⟨t2, rfl⟩ := ry; simp only [eqD]; exact ⟨RcAt.int_int _ _ _ _, EqAt.int_int _ _ _ _, RcNeAt.int_int _ _ _ _⟩
      | str _ => rw [hy.str] at ry; obtain ⟨t2, rfl⟩ := ry; simp only [eqD]; exact ⟨RcAt.int_str _ _ _ _, EqAt.int_str _ _ _ _, RcNeAt.int_str _ _ _ _⟩
      | tup ys => simp [okD] at oy
      | lst ys => simp [okD] at oy
      | ty _ => simp [okD] at oy
    | str _ =>
      rw [hx.str] at rx; obtain ⟨t1, rfl⟩ := rx
      cases y with
      | non => rw [hy.non] at ry; cases ry; simp only [eqD]; exact ⟨RcAt.str_none _ _, EqAt.str_none _ _, RcNeAt.str_none _ _⟩
      | bl _ => rw [hy.bl] at ry; cases ry; simp only [eqD]; exact ⟨RcAt.str_bool _ _ _, EqAt.str_bool _ _ _, RcNeAt.str_bool _ _ _⟩
      | int _ => rw [hy.int] at ry; obtain ⟨t2, rfl⟩ := ry; simp only [eqD]; exact ⟨RcAt.str_int _ _ _ _, EqAt.str_int _ _ _ _, RcNeAt.str_int _ _ _ _⟩
      | str _ => rw [hy.str] at ry; obtain ⟨t2, rfl⟩ := ry; simp only [eqD]; exact ⟨RcAt.str_str _ _ _ _, EqAt.str_str _ _ _ _, RcNeAt.str_str _ _ _ _⟩
      | tup ys => simp [okD] at oy
      | lst ys => simp [okD] at oy
      | ty _ => simp [okD] at oy
    | tup xs => simp [okD] at ox
    | lst xs => simp [okD] at ox
    | ty _ => simp [okD] at ox
  | succ n ih =>
    intro A x y vx vy u v hu ox oy hx hy rx ry
    have hu' : A.units < cLine := by omega
    cases x with
    | non =>
      rw [hx.non] at rx; cases rx
      cases y with
      | non => rw [hy.non] at ry; cases ry; simp only [eqD]; exact ⟨RcAt.none_none, EqAt.same _, RcNeAt.none_none⟩
      | bl _ => rw [hy.bl] at ry; cases ry; simp only [eqD]; exact ⟨RcAt.none_bool _, EqAt.none_bool _, RcNeAt.none_bool _⟩
      | int _ => rw [hy.int] at ry; obtain ⟨t2, rfl⟩ := ry; simp only [eqD]; exact ⟨RcAt.none_int _ _, EqAt.none_int _ _, RcNeAt.none_int _ _⟩
      | str _ => rw [hy.str] at ry; obtain ⟨t2, rfl⟩ := ry; simp only [eqD]; exact ⟨RcAt.none_str _ _, EqAt.none_str _ _, RcNeAt.none_str _ _⟩
      | tup ys => obtain ⟨a2, vs2, e2, q2, d2⟩ := hy.tup; subst e2; cases ry; obtain ⟨its2, r2, p2, z2⟩ := I.tuple q2; simp only [eqD]; exact ⟨RcAt.none_tuple p2 hu', EqAt.none_tuple p2 hu', RcNeAt.none_tuple p2 hu'⟩
      | lst ys fl =>
       cases fl with
       | true => simp [okD] at oy
       | false =>
        obtain ⟨a2, vs2, e2, q2, d2⟩ := hy; subst e2; cases ry; obtain ⟨its2, r2, p2, z2⟩ := I.list q2; simp only [eqD]; exact ⟨RcAt.none_list p2.isList hu', EqAt.none_list p2.isList hu', RcNeAt.none_list p2.isList hu'⟩
      | ty _ => simp [okD] at oy
    | bl _ =>
      rw [hx.bl] at rx; cases rx
      cases y with
      | non => rw [hy.non] at ry; cases ry; simp only [eqD]; exact ⟨RcAt.bool_none _, EqAt.bool_none _, RcNeAt.bool_none _⟩
      | bl _ => rw [hy.bl] at ry; cases ry; simp only [eqD]; exact ⟨RcAt.bool_bool _ _, EqAt.bool_bool _ _, RcNeAt.bool_bool _ _⟩
      | int _ => rw [hy.int] at ry; obtain ⟨t2, rfl⟩ := ry; simp only [eqD]; exact ⟨RcAt.bool_int _ _ _, EqAt.bool_int _ _ _, RcNeAt.bool_int _ _ _⟩
      | str _ => rw [hy.str] at ry; obtain ⟨t2, rfl⟩ := ry; simp only [eqD]; exact ⟨RcAt.bool_str _ _ _, EqAt.bool_str _ _ _, RcNeAt.bool_str _ _ _⟩
      | tup ys => obtain ⟨a2, vs2, e2, q2, d2⟩ := hy.tup; subst e2; cases ry; obtain ⟨its2, r2, p2, z2⟩ := I.tuple q2; simp only [eqD]; exact ⟨RcAt.bool_tuple _ p2 hu', EqAt.bool_tuple _ p2 hu', RcNeAt.bool_tuple _ p2 hu'⟩
      | lst ys fl =>
       cases fl with
       | true => simp [okD] at oy
       | false =>
        obtain ⟨a2, vs2, e2, q2, d2⟩ := hy; subst e2; cases ry; obtain ⟨its2, r2, p2, z2⟩ := I.list q2; simp only [eqD]; exact ⟨RcAt.bool_list _ p2.isList hu', EqAt.bool_list _ p2.isList hu', RcNeAt.bool_list _ p2.isList hu'⟩
      | ty _ => simp [okD] at oy
    | int _ =>
      rw [hx.int] at rx; obtain ⟨t1, rfl⟩ := rx
      cases y with
      | non => rw [hy.non] at ry; cases ry; simp only [eqD]; exact ⟨RcAt.int_none _ _, EqAt.int_none _ _, RcNeAt.int_none _ _⟩
      | bl _ => rw [hy.bl] at ry; cases ry; simp only [eqD]; exact ⟨RcAt.int_bool _ _ _, EqAt.int_bool _ _ _, RcNeAt.int_bool _ _ _⟩
      | int _ => rw [hy.int] at ry; obtain ⟨t2, rfl⟩ := ry; simp only [eqD]; exact ⟨RcAt.int_int _ _ _ _, EqAt.int_int _ _ _ _, RcNeAt.int_int _ _ _ _⟩
      | str _ => rw [hy.str] at ry; obtain ⟨t2, rfl⟩ := ry; simp only [eqD]; exact ⟨RcAt.int_str _ _ _ _, EqAt.int_str _ _ _ _, RcNeAt.int_str _ _ _ _⟩
      | tup ys => obtain ⟨a2, vs2, e2, q2, d2⟩ := hy.tup; subst e2; cases ry; obtain ⟨its2, r2, p2, z2⟩ := I.tuple q2; simp only [eqD]; exact ⟨RcAt.int_tuple _ _ p2 hu', EqAt.int_tuple _ _ p2 hu', RcNeAt.int_tuple _ _ p2 hu'⟩
      | lst ys fl =>
       cases fl with
       | true => simp [okD] at oy
       | false =>
        obtain ⟨a2, vs2, e2, q2, d2⟩ := hy; subst e2; cases ry; obtain ⟨its2, r2, p2, z2⟩ := I.list q2; simp only [eqD]; exact ⟨RcAt.int_list _ _ p2.isList hu', EqAt.int_list _ _ p2.isList hu', RcNeAt.int_list _ _ p2.isList hu'⟩
      | ty _ => simp [okD] at oy
    | str _ =>
      rw [hx.str] at rx; obtain ⟨t1, rfl⟩ := rx
      cases y with
      | non => rw [hy.non] at ry; cases ry; simp only [eqD]; exact ⟨RcAt.str_none _ _, EqAt.str_none _ _, RcNeAt.str_none _ _⟩
      | bl _ => rw [hy.bl] at ry; cases ry; simp only [eqD]; exact ⟨RcAt.str_bool _ _ _, EqAt.str_bool _ _ _, RcNeAt.str_bool _ _ _⟩
      | int _ => rw [hy.int] at ry; obtain ⟨t2, rfl⟩ := ry; simp only [eqD]; exact ⟨RcAt.str_int _ _ _ _, EqAt.str_int _ _ _ _, RcNeAt.str_int _ _ _ _⟩
      | str _ => rw [hy.str] at ry; obtain ⟨t2, rfl⟩ := ry; simp only [eqD]; exact ⟨RcAt.str_str _ _ _ _, EqAt.str_str _ _ _ _, RcNeAt.str_str _ _ _ _⟩
      | tup ys => obtain ⟨a2, vs2, e2, q2, d2⟩ := hy.tup; subst e2; cases ry; obtain ⟨its2, r2, p2, z2⟩ := I.tuple q2; simp only [eqD]; exact ⟨RcAt.str_tuple _ _ p2 hu', EqAt.str_tuple _ _ p2 hu', RcNeAt.str_tuple _ _ p2 hu'⟩
      | lst ys fl =>
       cases fl with
       | true => simp [okD] at oy
       | false =>
        obtain ⟨a2, vs2, e2, q2, d2⟩ := hy; subst e2; cases ry; obtain ⟨its2, r2, p2, z2⟩ := I.list q2; simp only [eqD]; exact ⟨RcAt.str_list _ _ p2.isList hu', EqAt.str_list _ _ p2.isList hu', RcNeAt.str_list _ _ p2.isList hu'⟩
      | ty _ => simp [okD] at oy
    | tup xs =>
      obtain ⟨a1, vs1, e1, q1, d1⟩ := hx.tup; subst e1; cases rx; obtain ⟨its1, r1, p1, z1⟩ := I.tuple q1
      cases y with
      | non => rw [hy.non] at ry; cases ry; simp only [eqD]; exact ⟨RcAt.tuple_none p1 hu', EqAt.tuple_none p1 hu', RcNeAt.tuple_none p1 hu'⟩
      | bl _ => rw [hy.bl] at ry; cases ry; simp only [eqD]; exact ⟨RcAt.tuple_bool _ p1 hu', EqAt.tuple_bool _ p1 hu', RcNeAt.tuple_bool _ p1 hu'⟩
      | int _ => rw [hy.int] at ry; obtain ⟨t2, rfl⟩ := ry; simp only [eqD]; exact ⟨RcAt.tuple_int _ _ p1 hu', EqAt.tuple_int _ _ p1 hu', RcNeAt.tuple_int _ _ p1 hu'⟩
      | str _ => rw [hy.str] at ry; obtain ⟨t2, rfl⟩ := ry; simp only [eqD]; exact ⟨RcAt.tuple_str _ _ p1 hu', EqAt.tuple_str _ _ p1 hu', RcNeAt.tuple_str _ _ p1 hu'⟩
      | tup ys =>
        obtain ⟨a2, vs2, e2, q2, d2⟩ := hy.tup; subst e2; cases ry; obtain ⟨its2, r2, p2, z2⟩ := I.tuple q2
        simp only [okD] at ox oy
        have l1 := r1.length
        have l2 := r2.length
        have m1 := d1.length
        have m2 := d2.length
        simp only [eqD]
        have rc : RcAt A s (.ref a1) (.ref a2) (eqDs xs ys) ∧ RcNeAt A s (.ref a1) (.ref a2) (!eqDs xs ys) := by
          have each : ∀ j (h1 : j < its1.toArray.size) (h2 : j < its2.toArray.size), EqAt A.in1 s its1.toArray[j] its2.toArray[j] (eqD (xs.getD j .non) (ys.getD j .non)) := fun j h1 h2 => ?_
          · have key := RcAt.tuples (A := A) (s := s) (e := fun j => eqD (xs.getD j .non) (ys.getD j .non)) p1 p2 hu' each
            have key2 := RcNeAt.tuples (A := A) (s := s) (e := fun j => eqD (xs.getD j .non) (ys.getD j .non)) p1 p2 hu' each
            have e : ((List.range (min its1.toArray.size its2.toArray.size)).all (fun j => eqD (xs.getD j .non) (ys.getD j .non)) && its1.toArray.size == its2.toArray.size) = eqDs xs ys := by
              rw [List.size_toArray, List.size_toArray]
              by_cases hl : xs.length = ys.length
              · rw [eqDs_all hl, show its1.length = xs.length by omega, show its2.length = xs.length by omega, Nat.min_self]; simp
              · rw [eqDs_len hl, show (its1.length == its2.length) = false by simp; omega, Bool.and_false]
            rw [e] at key key2
            exact ⟨key, key2⟩
          · have h1' : j < xs.length := by rw [List.size_toArray] at h1; omega
            have h2' : j < ys.length := by rw [List.size_toArray] at h2; omega
            have g1 := List.getElem?_eq_getElem h1'
            have g2 := List.getElem?_eq_getElem h2'
            obtain ⟨w1, hw1, dw1⟩ := d1.get g1
            obtain ⟨w2, hw2, dw2⟩ := d2.get g2
            obtain ⟨u1, hu1, ru1⟩ := r1.get hw1
            obtain ⟨u2, hu2, ru2⟩ := r2.get hw2
            rw [arr_get h1 hu1, arr_get h2 hu2, getD_some g1, getD_some g2]
            exact (ih A.in1 _ _ _ _ _ _ (by rw [in1_units]; omega) (List.all_eq_true.mp ox _ (List.getElem_mem h1')) (List.all_eq_true.mp oy _ (List.getElem_mem h2')) dw1.p dw2.p ru1 ru2).2.1
        refine ⟨rc.1, ?_, rc.2⟩
        by_cases ea : a1 = a2
        · subst ea
          have := I.tuple_inj q1 q2
          subst this
          rw [denL_inj I xs ys _ d1 d2, eqDs_refl n ys oy]
          exact EqAt.same _
        · exact EqAt.of_refs ea rc.1
      | lst ys fl =>
       cases fl with
       | true => simp [okD] at oy
       | false =>
        obtain ⟨a2, vs2, e2, q2, d2⟩ := hy; subst e2; cases ry; obtain ⟨its2, r2, p2, z2⟩ := I.list q2; simp only [eqD]; exact ⟨RcAt.tuple_list p1 p2.isList hu', EqAt.tuple_list p1 p2.isList hu', RcNeAt.tuple_list p1 p2.isList hu'⟩
      | ty _ => simp [okD] at oy
    | lst xs fl =>
     cases fl with
     | true => simp [okD] at ox
     | false =>
      obtain ⟨a1, vs1, e1, q1, d1⟩ := hx; subst e1; cases rx; obtain ⟨its1, r1, p1, z1⟩ := I.list q1
      cases y with
      | non => rw [hy.non] at ry; cases ry; simp only [eqD]; exact ⟨RcAt.list_none p1.isList hu', EqAt.list_none p1.isList hu', RcNeAt.list_none p1.isList hu'⟩
      | bl _ => rw [hy.bl] at ry; cases ry; simp only [eqD]; exact ⟨RcAt.list_bool _ p1.isList hu', EqAt.list_bool _ p1.isList hu', RcNeAt.list_bool _ p1.isList hu'⟩
      | int _ => rw [hy.int] at ry; obtain ⟨t2, rfl⟩ := ry; simp only [eqD]; exact ⟨RcAt.list_int _ _ p1.isList hu', EqAt.list_int _ _ p1.isList hu', RcNeAt.list_int _ _ p1.isList hu'⟩
      | str _ => rw [hy.str] at ry; obtain ⟨t2, rfl⟩ := ry; simp only [eqD]; exact ⟨RcAt.list_str _ _ p1.isList hu', EqAt.list_str _ _ p1.isList hu', RcNeAt.list_str _ _ p1.isList hu'⟩
      | tup ys => obtain ⟨a2, vs2, e2, q2, d2⟩ := hy.tup; subst e2; cases ry; obtain ⟨its2, r2, p2, z2⟩ := I.tuple q2; simp only [eqD]; exact ⟨RcAt.list_tuple p1.isList p2 hu', EqAt.list_tuple p1.isList p2 hu', RcNeAt.list_tuple p1.isList p2 hu'⟩
      | lst ys fl =>
       cases fl with
       | true => simp [okD] at oy
       | false =>
        obtain ⟨a2, vs2, e2, q2, d2⟩ := hy; subst e2; cases ry; obtain ⟨its2, r2, p2, z2⟩ := I.list q2
        simp only [okD] at ox oy
        have l1 := r1.length
        have l2 := r2.length
        have m1 := d1.length
        have m2 := d2.length
        simp only [eqD]
        have rc : RcAt A s (.ref a1) (.ref a2) (eqDs xs ys) ∧ RcNeAt A s (.ref a1) (.ref a2) (!eqDs xs ys) := by
          by_cases hl : xs.length = ys.length
          · have each : ∀ j (h1 : j < its1.toArray.size) (h2 : j < its2.toArray.size), EqAt A.in1 s its1.toArray[j] its2.toArray[j] (eqD (xs.getD j .non) (ys.getD j .non)) := fun j h1 h2 => ?_
            · have key := RcAt.lists (A := A) (s := s) (e := fun j => eqD (xs.getD j .non) (ys.getD j .non)) p1.isList p2.isList (by rw [List.size_toArray, List.size_toArray]; omega) hu' each
              have key2 := RcNeAt.lists (A := A) (s := s) (e := fun j => eqD (xs.getD j .non) (ys.getD j .non)) p1.isList p2.isList (by rw [List.size_toArray, List.size_toArray]; omega) hu' each
              have e : (List.range its1.toArray.size).all (fun j => eqD (xs.getD j .non) (ys.getD j .non)) = eqDs xs ys := by
                rw [List.size_toArray, eqDs_all hl, show its1.length = xs.length by omega]
              rw [e] at key key2
              exact ⟨key, key2⟩
            · have h1' : j < xs.length := by rw [List.size_toArray] at h1; omega
              have h2' : j < ys.length := by rw [List.size_toArray] at h2; omega
              have g1 := List.getElem?_eq_getElem h1'
              have g2 := List.getElem?_eq_getElem h2'
              obtain ⟨w1, hw1, dw1⟩ := d1.get g1
              obtain ⟨w2, hw2, dw2⟩ := d2.get g2
              obtain ⟨u1, hu1, ru1⟩ := r1.get hw1
              obtain ⟨u2, hu2, ru2⟩ := r2.get hw2
              rw [arr_get h1 hu1, arr_get h2 hu2, getD_some g1, getD_some g2]
              exact (ih A.in1 _ _ _ _ _ _ (by rw [in1_units]; omega) (List.all_eq_true.mp ox _ (List.getElem_mem h1')) (List.all_eq_true.mp oy _ (List.getElem_mem h2')) dw1.p dw2.p ru1 ru2).2.1
          · rw [eqDs_len hl]
            have hne : (its1.toArray.size != its2.toArray.size) = true := by rw [List.size_toArray, List.size_toArray]; simp; omega
            exact ⟨RcAt.lists_lengths p1.isList p2.isList hne hu', RcNeAt.lists_lengths p1.isList p2.isList hne hu'⟩
        refine ⟨rc.1, ?_, rc.2⟩
        by_cases ea : a1 = a2
        · subst ea
          have := I.list_inj q1 q2
          subst this
          rw [denL_inj I xs ys _ d1 d2, eqDs_refl n ys oy]
          exact EqAt.same _
        · exact EqAt.of_refs ea rc.1
      | ty _ => simp [okD] at oy
    | ty _ => simp [okD] at ox
end
def deep : Nat := 12
@[simp] def eqO (x y : D) : Option D := if okD deep x && okD deep y then some (.bl (eqD x y)) else none
@[simp] def neO (x y : D) : Option D := if okD deep x && okD deep y then some (.bl (!eqD x y)) else none
def rEqD (K : PySem.W.Frag) (neg : Bool) : R2 := fun x y H Q => ∃ N d1 d2, DenP K N H d1 x ∧ DenP K N H d2 y ∧ okD deep d1 = true ∧ okD deep d2 = true ∧ Q (.bl (if neg then !eqD d1 d2 else eqD d1 d2)) H
section
variable {X : Cx} {K : PySem.W.Frag} {M : Fb} {H0 : Hp} {a b : Expr} {f g : VE → Option D} {pos : Pos}
theorem op_eqD (hu : X.A.units + 64 < cLine) : OpR X (compareOp .Eq) (rEqD X.K false) := by
  intro pins s σ H x y v u Q I rx ry h
  obtain ⟨N, d1, d2, h1, h2, o1, o2, q⟩ := h
  exact (bothAt_D I deep X.A d1 d2 x y v u (by unfold deep; omega) o1 o2 h1 h2 rx ry).1 X.prog X.w X.xe _ ⟨.bl _, H, I, rfl, q⟩
theorem op_neD (hu : X.A.units + 64 < cLine) : OpR X (compareOp .NotEq) (rEqD X.K true) := by
  intro pins s σ H x y v u Q I rx ry h
  obtain ⟨N, d1, d2, h1, h2, o1, o2, q⟩ := h
  exact (bothAt_D I deep X.A d1 d2 x y v u (by unfold deep; omega) o1 o2 h1 h2 rx ry).2.2 X.prog X.w X.xe _ ⟨.bl _, H, I, rfl, q⟩
theorem r2_eq : R2D K (rEqD K false) eqO := by
  intro N H x y d1 d2 d Q nh h1 h2 e q
  unfold eqO at e
  split at e
  · next ho => rw [Bool.and_eq_true] at ho; cases e; exact ⟨N, d1, d2, h1, h2, ho.1, ho.2, q _ H (Same.refl H) den_bl⟩
  · cases e
theorem r2_ne : R2D K (rEqD K true) neO := by
  intro N H x y d1 d2 d Q nh h1 h2 e q
  unfold neO at e
  split at e
  · next ho => rw [Bool.and_eq_true] at ho; cases e; exact ⟨N, d1, d2, h1, h2, ho.1, ho.2, q _ H (Same.refl H) den_bl⟩
  · cases e
def inDs (x : D) (ys : List D) : Bool := ys.any fun y => eqD y x
@[simp] def inD (neg : Bool) (x y : D) : Option D := match y with
  | .lst ys => if okD deep x && ys.all (okD deep) then some (.bl (if neg then !inDs x ys else inDs x ys)) else none
  | .tup ys => if okD deep x && ys.all (okD deep) then some (.bl (if neg then !inDs x ys else inDs x ys)) else none
  | .str z => match x with
    | .str w => some (.bl (if neg then !(!(Builtin.Str.occurrences z w 0 z.length 1).isEmpty) else !(Builtin.Str.occurrences z w 0 z.length 1).isEmpty))
    | _ => none
  | _ => none
def rInD (K : PySem.W.Frag) (neg : Bool) : R2 := fun x y H Q => ∃ N d1 ys vs p, DenP K N H d1 x ∧ y = .ref p ∧ (SqL K H p vs ∨ SqT K H p vs) ∧ DenL K N H ys vs ∧ okD deep d1 = true ∧ ys.all (okD deep) = true ∧ Q (.bl (if neg then !inDs d1 ys else inDs d1 ys)) H
open Classical in
noncomputable def ansOf (K : PySem.W.Frag) (N : Fb) (H : Hp) (x : D) (u : Value) : Bool := decide (∃ d w, DenP K N H d w ∧ RelV w u ∧ eqD d x = true)
theorem ansOf_eq {pins : List (Addr × Obj)} {σ : St} {H : Hp} {s : Shared} (I : Inv X pins σ H s) {N : Fb} {x d : D} {w : V} {u : Value} (hd : DenP X.K N H d w) (r : RelV w u) : ansOf X.K N H x u = eqD d x := by
  classical
  unfold ansOf
  cases e : eqD d x with
  | true => exact @decide_eq_true _ (Classical.propDecidable _) ⟨d, w, hd, r, e⟩
  | false =>
    refine @decide_eq_false _ (Classical.propDecidable _) ?_
    rintro ⟨d', w', hd', r', e'⟩
    have := r'.inj r
    subst this
    have := den_inj I d' d _ hd' hd
    subst this
    rw [e] at e'; cases e'
theorem any_ans {pins : List (Addr × Obj)} {σ : St} {H : Hp} {s : Shared} (I : Inv X pins σ H s) {N : Fb} {x : D} : ∀ {ys : List D} {vs : List V} {us : List Value}, DenL X.K N H ys vs → Vals vs us → us.any (ansOf X.K N H x) = inDs x ys
  | [], _, _, h, r => by simp only [DenL] at h; subst h; cases r; rfl
  | y :: ys, _, _, h, r => by
    simp only [DenL] at h
    obtain ⟨v, t, e, hv, ht⟩ := h
    subst e
    cases r with
    | cons r1 r2 =>
      rw [List.any_cons, ansOf_eq I hv.p r1, any_ans I ht r2]
      rfl
theorem each_ans {pins : List (Addr × Obj)} {σ : St} {H : Hp} {s : Shared} (I : Inv X pins σ H s) {N : Fb} {A : Around} {x : D} {vx : V} {v : Value} (hu : A.units + deep < cLine) (ox : okD deep x = true) (hx : DenP X.K N H x vx) (rx : RelV vx v) {ys : List D} {vs : List V} {us : List Value} (h : DenL X.K N H ys vs) (r : Vals vs us) (oy : ys.all (okD deep) = true) :
    ∀ u ∈ us, SeqAt.EqAt A s u v (ansOf X.K N H x u) := by
  intro u hu'
  obtain ⟨j, hj⟩ := List.getElem?_of_mem hu'
  have hl := r.length
  have hj' : j < vs.length := by have := (List.getElem?_eq_some_iff.mp hj).1; omega
  have hv := List.getElem?_eq_getElem hj'
  obtain ⟨u', e1, r1⟩ := r.get hv
  rw [hj] at e1; cases e1
  obtain ⟨y, e2, hy⟩ := h.get' hv
  rw [ansOf_eq I hy.p r1]
  exact (bothAt_D I deep A y x _ _ _ _ hu (List.all_eq_true.mp oy y (List.mem_of_getElem? e2)) ox hy.p hx r1 rx).2.1
theorem op_inD (hu : X.A.units + 64 < cLine) : OpR X (compareOp .In) (rInD X.K false) := by
  intro pins s σ H x y v u Q I rx ry h
  obtain ⟨N, d1, ys, vs, p, h1, rfl, hq, hd, o1, o2, q⟩ := h
  cases ry
  have hu1 : X.A.in1.units + deep < cLine := by rw [in1_units]; unfold deep; omega
  rcases hq with hq | hq
  · obtain ⟨its, r, pl, hz⟩ := I.list hq
    refine SeqAt.in_listAt (ansOf X.K N H d1) pl.isList (fun w hw => each_ans I hu1 o1 h1 rx hd r o2 w (by simpa using hw)) ⟨.bl _, H, I, rfl, ?_⟩
    rw [show its.toArray.any (ansOf X.K N H d1) = its.any (ansOf X.K N H d1) by simp, any_ans I hd r]
    exact q
  · obtain ⟨its, r, pl, hz⟩ := I.tuple hq
    refine SeqAt.in_tupleAt (ansOf X.K N H d1) pl (fun w hw => each_ans I hu1 o1 h1 rx hd r o2 w (by simpa using hw)) ⟨.bl _, H, I, rfl, ?_⟩
    rw [show its.toArray.any (ansOf X.K N H d1) = its.any (ansOf X.K N H d1) by simp, any_ans I hd r]
    exact q
theorem op_ninD (hu : X.A.units + 64 < cLine) : OpR X (compareOp .NotIn) (rInD X.K true) := by
  intro pins s σ H x y v u Q I rx ry h
  obtain ⟨N, d1, ys, vs, p, h1, rfl, hq, hd, o1, o2, q⟩ := h
  cases ry
  have hu1 : X.A.in1.units + deep < cLine := by rw [in1_units]; unfold deep; omega
  rcases hq with hq | hq
  · obtain ⟨its, r, pl, hz⟩ := I.list hq
    refine SeqAt.notIn_listAt (ansOf X.K N H d1) pl.isList (fun w hw => each_ans I hu1 o1 h1 rx hd r o2 w (by simpa using hw)) ⟨.bl _, H, I, rfl, ?_⟩
    rw [show its.toArray.any (ansOf X.K N H d1) = its.any (ansOf X.K N H d1) by simp, any_ans I hd r]
    exact q
  · obtain ⟨its, r, pl, hz⟩ := I.tuple hq
    refine SeqAt.notIn_tupleAt (ansOf X.K N H d1) pl (fun w hw => each_ans I hu1 o1 h1 rx hd r o2 w (by simpa using hw)) ⟨.bl _, H, I, rfl, ?_⟩
    rw [show its.toArray.any (ansOf X.K N H d1) = its.any (ansOf X.K N H d1) by simp, any_ans I hd r]
    exact q
theorem r2_in : R2D K (fun x y H Q => rInD K false x y H Q ∨ ∃ i j, x = .str i ∧ y = .str j ∧ Q (.bl (!(Builtin.Str.occurrences j i 0 j.length 1).isEmpty)) H) (inD false) := by
  intro N H x y d1 d2 d Q nh h1 h2 e q
  unfold inD at e
  split at e
  · split at e
    · next ho => rw [Bool.and_eq_true] at ho; cases e; obtain ⟨a, vs, e1, q1, r1⟩ := h2; exact .inl ⟨N, d1, _, vs, a, h1, e1, .inl q1, r1, ho.1, ho.2, q _ H (Same.refl H) den_bl⟩
    · cases e
  · split at e
    · next ho => rw [Bool.and_eq_true] at ho; cases e; obtain ⟨a, vs, e1, q1, r1⟩ := h2.tup; exact .inl ⟨N, d1, _, vs, a, h1, e1, .inr q1, r1, ho.1, ho.2, q _ H (Same.refl H) den_bl⟩
    · cases e
  · split at e
    · cases e; exact .inr ⟨_, _, h1.str, h2.str, q _ H (Same.refl H) den_bl⟩
    · cases e
  · cases e
theorem r2_nin : R2D K (fun x y H Q => rInD K true x y H Q ∨ ∃ i j, x = .str i ∧ y = .str j ∧ Q (.bl (!(!(Builtin.Str.occurrences j i 0 j.length 1).isEmpty))) H) (inD true) := by
  intro N H x y d1 d2 d Q nh h1 h2 e q
  unfold inD at e
  split at e
  · split at e
    · next ho => rw [Bool.and_eq_true] at ho; cases e; obtain ⟨a, vs, e1, q1, r1⟩ := h2; exact .inl ⟨N, d1, _, vs, a, h1, e1, .inl q1, r1, ho.1, ho.2, q _ H (Same.refl H) den_bl⟩
    · cases e
  · split at e
    · next ho => rw [Bool.and_eq_true] at ho; cases e; obtain ⟨a, vs, e1, q1, r1⟩ := h2.tup; exact .inl ⟨N, d1, _, vs, a, h1, e1, .inr q1, r1, ho.1, ho.2, q _ H (Same.refl H) den_bl⟩
    · cases e
  · split at e
    · cases e; exact .inr ⟨_, _, h1.str, h2.str, q _ H (Same.refl H) den_bl⟩
    · cases e
  · cases e
@[simp] def ltDs (lt : D → D → Option Bool) : List D → List D → Option Bool
  | [], [] => some false
  | [], _ :: _ => some true
  | _ :: _, [] => some false
  | x :: xs, y :: ys => if okD deep x && okD deep y then (if eqD x y then ltDs lt xs ys else lt x y) else none
@[simp] def ltN : Nat → D → D → Option Bool
  | _, .int i, .int j => some (decide (i < j))
  | _, .str a, .str b => some (decide (a.cps.toList < b.cps.toList))
  | n + 1, .tup xs, .tup ys => ltDs (ltN n) xs ys
  | _, _, _ => none
@[simp] def ltO (x y : D) : Option D := (ltN 6 x y).map D.bl
def rLtD (K : PySem.W.Frag) : R2 := fun x y H Q => ∃ N d1 d2 b, DenP K N H d1 x ∧ DenP K N H d2 y ∧ ltN 6 d1 d2 = some b ∧ Q (.bl b) H
theorem ltAt_D {pins : List (Addr × Obj)} {σ : St} {H : Hp} {s : Shared} (I : Inv X pins σ H s) {N : Fb} : ∀ (n : Nat) (A : Around) (x y : D) (vx vy : V) (u v : Value) (b : Bool), A.units + n + deep < cLine → ltN n x y = some b → DenP X.K N H x vx → DenP X.K N H y vy → RelV vx u → RelV vy v →
    ∀ (prog : Program) (wo : World) (E Q : Value → Shared → Prop), Q (.bool b) s → wpAny (model prog wo) A (richCompare .Lt u v) Q E s := by
  intro n
  induction n with
  | zero =>
    intro A x y vx vy u v b hu h hx hy rx ry prog wo E Q q
    unfold ltN at h
    split at h
    · cases h; rw [hx.int] at rx; rw [hy.int] at ry; obtain ⟨t, rfl⟩ := rx; obtain ⟨t', rfl⟩ := ry; exact HT.rcLt_int A s _ _ _ _ prog wo E Q q
    · cases h; rw [hx.str] at rx; rw [hy.str] at ry; obtain ⟨t, rfl⟩ := rx; obtain ⟨t', rfl⟩ := ry; exact (PyProof.Rows.lt_str q : wpAny (model prog wo) A (compareOp .Lt _ _) Q E s)
    · next h0 => cases h0
    · cases h
  | succ n ih =>
    intro A x y vx vy u v b hu h hx hy rx ry prog wo E Q q
    unfold ltN at h
    split at h
    · cases h; rw [hx.int] at rx; rw [hy.int] at ry; obtain ⟨t, rfl⟩ := rx; obtain ⟨t', rfl⟩ := ry; exact HT.rcLt_int A s _ _ _ _ prog wo E Q q
    · cases h; rw [hx.str] at rx; rw [hy.str] at ry; obtain ⟨t, rfl⟩ := rx; obtain ⟨t', rfl⟩ := ry; exact (PyProof.Rows.lt_str q : wpAny (model prog wo) A (compareOp .Lt _ _) Q E s)
    · next m xs ys e0 =>
      cases e0
      obtain ⟨a1, vs1, e1, q1, d1⟩ := hx.tup
      obtain ⟨a2, vs2, e2, q2, d2⟩ := hy.tup
      subst e1 e2
      cases rx
      cases ry
      obtain ⟨its1, r1, p1, _⟩ := I.tuple q1
      obtain ⟨its2, r2, p2, _⟩ := I.tuple q2
      have lists : ∀ (xs ys : List D) (vs1 vs2 : List V) (us1 us2 : List Value), ltDs (ltN n) xs ys = some b → DenL X.K N H xs vs1 → DenL X.K N H ys vs2 → Vals vs1 us1 → Vals vs2 us2 → LtAt A.in1 s us1 us2 b := by
        intro xs
        induction xs with
        | nil =>
          intro ys vs1 vs2 us1 us2 h d1 d2 r1 r2
          simp only [DenL] at d1; subst d1; cases r1
          cases ys with
          | nil => simp only [DenL] at d2; subst d2; cases r2; cases h; exact .nn
          | cons y ys => simp only [DenL] at d2; obtain ⟨w, t, e, _, _⟩ := d2; subst e; cases r2; cases h; exact .nc
        | cons x xs ihx =>
          intro ys vs1 vs2 us1 us2 h d1 d2 r1 r2
          simp only [DenL] at d1; obtain ⟨w1, t1, e1, dw1, dt1⟩ := d1; subst e1
          cases r1 with
          | cons rw1 rt1 =>
            cases ys with
            | nil => simp only [DenL] at d2; subst d2; cases r2; cases h; exact .cn
            | cons y ys =>
              simp only [DenL] at d2; obtain ⟨w2, t2, e2, dw2, dt2⟩ := d2; subst e2
              cases r2 with
              | cons rw2 rt2 =>
                simp only [ltDs] at h
                split at h
                · next ho =>
                  rw [Bool.and_eq_true] at ho
                  have he := (bothAt_D I deep A.in1 x y _ _ _ _ (by rw [in1_units]; omega) ho.1 ho.2 dw1.p dw2.p rw1 rw2).2.1
                  split at h
                  · next e => rw [e] at he; exact .eq he (ihx ys _ _ _ _ h dt1 dt2 rt1 rt2)
                  · next e =>
                    rw [Bool.not_eq_true] at e
                    rw [e] at he
                    exact .ne he fun prog wo E Q q => ih A.in1 x y _ _ _ _ b (by rw [in1_units]; omega) h dw1.p dw2.p rw1 rw2 prog wo E Q q
                · cases h
      exact rcLt_tup p1 p2 (by simpa using lists xs ys _ _ _ _ h d1 d2 r1 r2) (by omega) q
    · cases h
theorem op_ltD (hu : X.A.units + 64 < cLine) : OpR X (compareOp .Lt) (rLtD X.K) := by
  intro pins s σ H x y v u Q I rx ry h
  obtain ⟨N, d1, d2, b, h1, h2, hb, q⟩ := h
  have fin : EP X pins σ Q (.bool b) s := ⟨.bl b, H, I, rfl, q⟩
  exact ltAt_D I 6 X.A d1 d2 x y v u b (by unfold deep; omega) hb h1 h2 rx ry X.prog X.w X.xe _ fin
theorem r2_lt : R2D K (rLtD K) ltO := by
  intro N H x y d1 d2 d Q nh h1 h2 e q
  unfold ltO at e
  cases hl : ltN 6 d1 d2 with
  | none => rw [hl] at e; cases e
  | some b => rw [hl] at e; cases e; exact ⟨N, d1, d2, b, h1, h2, hl, q _ H (Same.refl H) den_bl⟩
end
end L2
set_option Elab.async false
set_option linter.all false
set_option maxRecDepth 100000
namespace L2
open PySem PySem.Spec PyProof.Rows
section
variable {K : PySem.W.Frag} {N : Fb} {H : Hp}
theorem Paired.one' {α β : Type} {F : α → β → Prop} {x : α} {vs : List β} (h : Paired F [x] vs) : ∃ v, vs = [v] ∧ F x v := by
  cases h with
  | cons r t => cases t; exact ⟨_, rfl, r⟩
theorem Paired.two' {α β : Type} {F : α → β → Prop} {x y : α} {vs : List β} (h : Paired F [x, y] vs) : ∃ v w, vs = [v, w] ∧ F x v ∧ F y w := by
  cases h with
  | cons r t =>
    obtain ⟨w, e, q⟩ := Paired.one' t
    subst e
    exact ⟨_, w, rfl, r, q⟩
@[simp] def lenD : List D → Option D
  | [.lst xs] => some (.int xs.length)
  | [.tup xs] => some (.int xs.length)
  | [.str x] => if x.length ≤ sizeLine then some (.int x.length) else none
  | _ => none
theorem rc_len : RcD K (fun xs H Q => ∃ x n, xs = [x] ∧ LenV K x H n ∧ Q (.int n) H) lenD := by
  intro N H vs ds d Q nh h e q
  unfold lenD at e
  split at e
  · cases e
    obtain ⟨v, rfl, hv⟩ := Paired.one' h
    obtain ⟨a, ws, e1, q1, r1⟩ := hv
    subst e1
    exact ⟨.ref a, _, rfl, .inl ⟨ws, q1, rfl⟩, by rw [← r1.length]; exact q _ H (Same.refl H) den_int⟩
  · cases e
    obtain ⟨v, rfl, hv⟩ := Paired.one' h
    obtain ⟨a, ws, e1, q1, r1⟩ := hv.tup
    subst e1
    exact ⟨.ref a, _, rfl, .inr ⟨ws, q1, rfl⟩, by rw [← r1.length]; exact q _ H (Same.refl H) den_int⟩
  · split at e
    · next hz =>
      cases e
      obtain ⟨v, rfl, hv⟩ := Paired.one' h
      exact ⟨v, _, rfl, by rw [hv.str]; exact ⟨hz, rfl⟩, q _ H (Same.refl H) den_int⟩
    · cases e
  · cases e
@[simp] def lstD : List D → Option (List D)
  | [.lst xs] => some xs
  | [.tup xs] => some xs
  | _ => none
theorem rc_list : RcF K (fun xs H Q => ∃ p ys, xs = [.ref p] ∧ (SqL K H p ys ∨ SqT K H p ys) ∧ ∀ l, H l = none → Q (.ref l) (upd H l (.lst ys))) lstD := by
  intro N H vs ds xs Q nh h e q
  unfold lstD at e
  split at e
  · cases e
    obtain ⟨v, rfl, hv⟩ := Paired.one' h
    obtain ⟨a, ws, e1, q1, r1⟩ := hv
    subst e1
    exact ⟨a, ws, rfl, .inl q1, fun l hl => q ws l hl r1⟩
  · cases e
    obtain ⟨v, rfl, hv⟩ := Paired.one' h
    obtain ⟨a, ws, e1, q1, r1⟩ := hv.tup
    subst e1
    exact ⟨a, ws, rfl, .inr q1, fun l hl => q ws l hl r1⟩
  · cases e
@[simp] def tupD : List D → Option D
  | [.lst xs] => some (.tup xs)
  | [.tup xs] => some (.tup xs)
  | _ => none
theorem rc_tuple : RcD K (fun xs H Q => ∃ p ys, xs = [.ref p] ∧ ((SqL K H p ys ∧ ∀ l, H l = none → Q (.ref l) (upd H l (.tup ys))) ∨ (SqT K H p ys ∧ Q (.ref p) H))) tupD := by
  intro N H vs ds d Q nh h e q
  unfold tupD at e
  split at e
  · cases e
    obtain ⟨v, rfl, hv⟩ := Paired.one' h
    obtain ⟨a, ws, e1, q1, r1⟩ := hv
    subst e1
    exact ⟨a, ws, rfl, .inl ⟨q1, fun l hl => q _ _ (same_new hl) (den_newT hl r1)⟩⟩
  · cases e
    obtain ⟨v, rfl, hv⟩ := Paired.one' h
    obtain ⟨a, ws, e1, q1, r1⟩ := hv.tup
    subst e1
    exact ⟨a, ws, rfl, .inr ⟨q1, q _ _ (Same.refl H) (by simp only [Den]; exact ⟨a, ws, rfl, q1, r1⟩)⟩⟩
  · cases e
def asBs : List D → Option (List Bool)
  | [] => some []
  | .bl b :: r => (asBs r).map (b :: ·)
  | _ => none
theorem asBs_map : ∀ {xs : List D} {bs : List Bool}, asBs xs = some bs → xs = bs.map D.bl
  | [], _, e => by cases e; rfl
  | .bl b :: r, _, e => by
    simp only [asBs] at e
    cases h : asBs r with
    | none => rw [h] at e; cases e
    | some bs => rw [h] at e; cases e; rw [asBs_map h]; rfl
  | .non :: _, _, e => nomatch e
  | .int _ :: _, _, e => nomatch e
  | .str _ :: _, _, e => nomatch e
  | .ty _ :: _, _, e => nomatch e
  | .tup _ :: _, _, e => nomatch e
  | .lst _ _ :: _, _, e => nomatch e
theorem denL_bls : ∀ {bs : List Bool} {vs : List V}, DenL K N H (bs.map D.bl) vs → vs = bs.map V.bl
  | [], _, h => by simpa only [List.map_nil, DenL] using h
  | b :: bs, _, h => by
    simp only [List.map_cons, DenL, Den] at h
    obtain ⟨v, r, e, hv, t⟩ := h
    subst e hv
    rw [denL_bls t]; rfl
@[simp] def allD : List D → Option D
  | [.lst xs] => (asBs xs).map fun bs => .bl (bs.all id)
  | _ => none
@[simp] def anyD : List D → Option D
  | [.lst xs] => (asBs xs).map fun bs => .bl (bs.any id)
  | _ => none
theorem rc_all : RcD K (fun xs H Q => ∃ (a : Addr) (bs : List Bool), xs = [.ref a] ∧ SqL K H a (bs.map V.bl) ∧ Q (.bl (bs.all id)) H) allD := by
  intro N H vs ds d Q nh h e q
  unfold allD at e
  split at e
  · next xs =>
    cases hb : asBs xs with
    | none => rw [hb] at e; cases e
    | some bs =>
      rw [hb] at e; cases e
      obtain ⟨v, rfl, hv⟩ := Paired.one' h
      obtain ⟨a, ws, e1, q1, r1⟩ := hv
      subst e1
      rw [asBs_map hb] at r1
      rw [denL_bls r1] at q1
      exact ⟨a, bs, rfl, q1, q _ H (Same.refl H) den_bl⟩
  · cases e
@[simp] def max2D : List D → Option D
  | [.int i, .int j] => some (.int (if j > i then j else i))
  | _ => none
@[simp] def min2D : List D → Option D
  | [.int i, .int j] => some (.int (if j < i then j else i))
  | _ => none
@[simp] def absD : List D → Option D
  | [.int i] => some (.int (if i < 0 then -i else i))
  | _ => none
@[simp] def strI : List D → Option D
  | [.int i] => if i.natAbs.log2 < 1920 then some (.str (toString i)) else none
  | _ => none
@[simp] def intD : List D → Option D
  | [.int i] => some (.int i)
  | [.bl k] => some (.int (if k then 1 else 0))
  | _ => none
def asIs : List D → Option (List Int)
  | [] => some []
  | .int b :: r => (asIs r).map (b :: ·)
  | _ => none
theorem asIs_ints : ∀ (ns : List Int), asIs (ns.map D.int) = some ns
  | [] => rfl
  | n :: ns => by simp only [List.map_cons, asIs, asIs_ints ns]; rfl
end
section
variable {X : Cx}
end
def minL : List Int → Option Int
  | [] => none
  | x :: xs => some (xs.foldl (fun m y => if y < m then y else m) x)
def maxL : List Int → Option Int
  | [] => none
  | x :: xs => some (xs.foldl (fun m y => if y > m then y else m) x)
section
variable {K : PySem.W.Frag}
@[simp] def sumD : List D → Option D
  | [.lst xs] => (asIs xs).map fun ns => .int ns.sum
  | _ => none
@[simp] def min1D : List D → Option D
  | [.lst xs] => ((asIs xs).bind minL).map D.int
  | _ => none
@[simp] def max1D : List D → Option D
  | [.lst xs] => ((asIs xs).bind maxL).map D.int
  | _ => none
@[simp] def tyD : D → Option String
  | .non => some "NoneType"
  | .bl _ => some "bool"
  | .int _ => some "int"
  | .str _ => some "str"
  | .tup _ => some "tuple"
  | .lst _ => some "list"
  | .lst _ true => none
  | .ty _ => none
def tyLe (t n : String) : Bool := t == n || (t == "bool" && n == "int")
end
def tyNames : List String := ["NoneType", "bool", "int", "str", "tuple", "list"]
theorem kit_all (K : PySem.W.Frag) : ∀ t ∈ tyNames, ∀ n ∈ tyNames, PySem.W.kitOne K (.type t) (.type n) = some (tyLe t n) := by
  intro t ht n hn
  simp only [tyNames, List.mem_cons, List.not_mem_nil, or_false] at ht hn
  rcases ht with rfl | rfl | rfl | rfl | rfl | rfl <;> rcases hn with rfl | rfl | rfl | rfl | rfl | rfl <;> with_unfolding_all rfl
theorem kit_any (K : PySem.W.Frag) {t : String} (ht : t ∈ tyNames) : ∀ (ns : List String), (∀ n ∈ ns, n ∈ tyNames) → PySem.W.kitAny K (.type t) (ns.map Value.type) = some (ns.any fun n => tyLe t n)
  | [], _ => rfl
  | n :: ns, h => by
    have h1 := kit_all K t ht n (h n List.mem_cons_self)
    have h2 := kit_any K ht ns fun m hm => h m (List.mem_cons_of_mem _ hm)
    simp only [List.map_cons, PySem.W.kitAny, h1, h2, List.any_cons]
    cases tyLe t n <;> rfl
theorem tyD_mem {d : D} {t : String} (h : tyD d = some t) : t ∈ tyNames := by
  cases d with
  | lst xs fl => cases fl <;> simp [tyD] at h; subst h; simp [tyNames]
  | _ => simp [tyD] at h <;> subst h <;> simp [tyNames]
section
variable {X : Cx} {K : PySem.W.Frag}
theorem kitx_D {pins : List (Addr × Obj)} {σ : St} {H : Hp} {s : Shared} (I : Inv X pins σ H s) {N : Fb} {d : D} {x : V} {u : Value} {t : String} (hx : DenP X.K N H d x) (rx : RelV x u) (ht : tyD d = some t) :
    ∃ HP : Heap → Prop, PySem.W.KitX X.K u (.type t) HP ∧ HP s.heap ∧ u ≠ .builtin "__main__.__loader__#opaque" := by
  cases d with
  | non => cases ht; rw [hx.non] at rx; cases rx; exact ⟨_, PySem.W.kitx_none, trivial, fun z => nomatch z⟩
  | bl b => cases ht; rw [hx.bl] at rx; cases rx; exact ⟨_, PySem.W.kitx_bool, trivial, fun z => nomatch z⟩
  | int b => cases ht; rw [hx.int] at rx; obtain ⟨t, rfl⟩ := rx; exact ⟨_, PySem.W.kitx_int, trivial, fun z => nomatch z⟩
  | str b => cases ht; rw [hx.str] at rx; obtain ⟨t, rfl⟩ := rx; exact ⟨_, PySem.W.kitx_str, trivial, fun z => nomatch z⟩
  | ty n => cases ht
  | tup xs =>
    cases ht
    obtain ⟨a, vs, e, q, r⟩ := hx.tup
    subst e; cases rx
    obtain ⟨its, _, ⟨o, h1, h2, _⟩, _⟩ := I.tuple q
    exact ⟨_, PySem.W.kitx_tuple, ⟨o, h1, h2⟩, fun z => nomatch z⟩
  | lst xs fl =>
    cases fl with
    | true => cases ht
    | false =>
    cases ht
    obtain ⟨a, vs, e, q, r⟩ := hx
    subst e; cases rx
    obtain ⟨its, _, ⟨o, n, h1, h2, _⟩, _⟩ := I.list q
    exact ⟨_, PySem.W.kitx_list, ⟨o, h1, h2⟩, fun z => nomatch z⟩
@[simp] def tysOf : D → Option (List String)
  | .ty n => some [n]
  | .tup xs => tysL xs
  | _ => none
where tysL : List D → Option (List String)
  | [] => some []
  | .ty n :: r => (tysL r).map (n :: ·)
  | _ => none
theorem tysL_map : ∀ {xs : List D} {ns : List String}, tysOf.tysL xs = some ns → xs = ns.map D.ty
  | [], _, e => by cases e; rfl
  | .ty b :: r, _, e => by
    simp only [tysOf.tysL] at e
    cases h : tysOf.tysL r with
    | none => rw [h] at e; cases e
    | some bs => rw [h] at e; cases e; rw [tysL_map h]; rfl
  | .non :: _, _, e => nomatch e
  | .bl _ :: _, _, e => nomatch e
  | .int _ :: _, _, e => nomatch e
  | .str _ :: _, _, e => nomatch e
  | .tup _ :: _, _, e => nomatch e
  | .lst _ _ :: _, _, e => nomatch e
@[simp] def isD : List D → Option D
  | [x, c] => (tysOf c).bind fun ns => if (∀ n ∈ ns, n ∈ tyNames) then (tyD x).map fun t => .bl (ns.any fun n => tyLe t n) else none
  | _ => none
def rIsD (K : PySem.W.Frag) : List V → Hp → VK → Prop := fun vs H Q => ∃ N d c x y ns t, vs = [x, y] ∧ DenP K N H d x ∧ DenP K N H c y ∧ tysOf c = some ns ∧ (∀ n ∈ ns, n ∈ tyNames) ∧ tyD d = some t ∧ Q (.bl (ns.any fun n => tyLe t n)) H
theorem denL_tys {N : Fb} {H : Hp} : ∀ {ns : List String} {vs : List V}, DenL K N H (ns.map D.ty) vs → vs = ns.map V.ty
  | [], _, h => by simpa only [List.map_nil, DenL] using h
  | b :: bs, _, h => by
    simp only [List.map_cons, DenL, Den] at h
    obtain ⟨v, r, e, hv, t⟩ := h
    subst e hv
    rw [denL_tys t]; rfl
theorem vals_tys : ∀ {ns : List String} {us : List Value}, Vals (ns.map V.ty) us → us = ns.map Value.type
  | [], _, r => by cases r; rfl
  | n :: ns, _, r => by
    cases r with
    | cons r1 r2 => cases r1; rw [vals_tys r2]; rfl
theorem call_isD : CallR X (.builtin "isinstance") (rIsD X.K) := by
  intro pins s σ H xs us Q I r h
  obtain ⟨N, d, c, x, y, ns, t, rfl, hx, hy, hns, hin, ht, q⟩ := h
  obtain ⟨u, w', rfl, rx, ry⟩ := vals2 r
  obtain ⟨HP, Z, p, hne⟩ := kitx_D I hx rx ht
  cases c with
  | ty n =>
    cases hns
    rw [hy.ty] at ry; cases ry
    refine PySem.W.kia_one Z I.kIn p (kit_all X.K t (tyD_mem ht) n (hin n (by simp))) hne fun tk => ⟨.bl _, H, I.tok tk, rfl, ?_⟩
    simpa using q
  | tup xs =>
    have e := tysL_map hns
    subst e
    obtain ⟨a, vs, e, sq, dl⟩ := hy.tup
    subst e; cases ry
    obtain ⟨its, rv, ⟨⟨cls, dd, data, sl⟩, h1, h2, n, h3⟩, _⟩ := I.tuple sq
    simp only at h2 h3
    subst h2 h3
    have e2 := denL_tys dl
    subst e2
    have e3 := vals_tys rv
    subst e3
    exact PySem.W.kia_tup Z I.kIn p h1 (kit_any X.K (tyD_mem ht) ns hin) hne fun tk => ⟨.bl _, H, I.tok tk, rfl, q⟩
  | non => cases hns
  | bl _ => cases hns
  | int _ => cases hns
  | str _ => cases hns
  | lst _ => cases hns
theorem rc_is : RcD K (rIsD K) isD := by
  intro N H vs ds d Q nh h e q
  unfold isD at e
  split at e
  · next x c =>
    cases hc : tysOf c with
    | none => rw [hc] at e; cases e
    | some ns =>
      rw [hc] at e
      simp only [Option.bind] at e
      split at e
      · next hin =>
        cases ht : tyD x with
        | none => rw [ht] at e; cases e
        | some t =>
          rw [ht] at e; cases e
          obtain ⟨v, w, rfl, hv, hw⟩ := Paired.two' h
          exact ⟨N, x, c, v, w, ns, t, rfl, hv, hw, hc, hin, ht, q _ H (Same.refl H) den_bl⟩
      · cases e
  · cases e
theorem ve_tyn {M : Fb} {H0 : Hp} {x : Str} {n : String} {pos : Pos} (hg : Gl X x) (hm : X.mg x = none) (hv : bootBuiltins x = some (.type n)) (hn : x ≠ "__name__" := by decide) (hd : (x == ("__debug__" : Str)) = false := by decide) : PE X (.Name x pos) (tD K M H0 fun _ => some (.ty n)) :=
  ve_c (pe_bltn hg hm hv (v := .ty n) rfl hn hd) fun _ _ => by simp only [Den]
theorem j_ve_tyn {M : Fb} {H0 : Hp} {x : Str} {n : String} {pos : Pos} (hg : Gl X x) (hm : X.mg x = none) (hv : bootBuiltins x = some (.type n)) (hn : x ≠ "__name__" := by decide) (hd : (x == ("__debug__" : Str)) = false := by decide) : JE X (.Name x pos) (tD K M H0 fun _ => some (.ty n)) := ⟨ve_tyn hg hm hv hn hd⟩
theorem ve_glob {M : Fb} {H0 : Hp} {x : Str} {v : V} {d : D} {pos : Pos} (hg : Gl X x) (h : ∃ u, X.mg x = some u ∧ RelV v u) (hd : ∀ N H, Den K N H d v) (hdb : (x == ("__debug__" : Str)) = false := by decide) : PE X (.Name x pos) (tD K M H0 fun _ => some d) := by
  obtain ⟨u, hm, r⟩ := h
  exact ve_c (pe_glob hg hm r hdb) hd
theorem j_ve_glob {M : Fb} {H0 : Hp} {x : Str} {v : V} {d : D} {pos : Pos} (hg : Gl X x) (h : ∃ u, X.mg x = some u ∧ RelV v u) (hd : ∀ N H, Den K N H d v) (hdb : (x == ("__debug__" : Str)) = false := by decide) : JE X (.Name x pos) (tD K M H0 fun _ => some d) := ⟨ve_glob hg h hd hdb⟩
end
end L2
set_option Elab.async false
set_option linter.all false
set_option maxRecDepth 100000
namespace L2
open PySem PySem.Spec PyProof.Rows
section
variable {X : Cx} {K : PySem.W.Frag} {M : Fb} {H0 : Hp} {a b c e tg iter : Expr} {es : List Expr} {f g h : VE → Option D} {fa : VE → Option (List Sl)} {pos : Pos}
theorem vv (i : Nat) {x : Str} (hN : X.N[i]? = some x := by rfl) (hv : Vis X.env.scope x := by first | exact Or.inl rfl | exact Or.inr (Or.inl rfl) | exact Or.inr (Or.inr rfl)) (hd : (x == ("__debug__" : Str)) = false := by decide) (hcd : (x == ("__classdict__" : Str)) = false := by decide) :
    PE X (.Name x pos) (tD K M H0 fun ρ => rdV ρ i) := ve_var hN hv hd hcd
theorem j_vv (i : Nat) {x : Str} (hN : X.N[i]? = some x := by rfl) (hv : Vis X.env.scope x := by first | exact Or.inl rfl | exact Or.inr (Or.inl rfl) | exact Or.inr (Or.inr rfl)) (hd : (x == ("__debug__" : Str)) = false := by decide) (hcd : (x == ("__classdict__" : Str)) = false := by decide) : JE X (.Name x pos) (tD K M H0 fun ρ => rdV ρ i) := ⟨vv i hN hv hd hcd⟩
theorem vp (i : Nat) {x : Str} (hN : X.N[i]? = some x := by rfl) (hv : Vis X.env.scope x := by first | exact Or.inl rfl | exact Or.inr (Or.inl rfl) | exact Or.inr (Or.inr rfl)) (hd : (x == ("__debug__" : Str)) = false := by decide) (hcd : (x == ("__classdict__" : Str)) = false := by decide) :
    PE X (.Name x pos) (tP K M H0 fun ρ => rdP ρ i) := vp_var hN hv hd hcd
theorem j_vp (i : Nat) {x : Str} (hN : X.N[i]? = some x := by rfl) (hv : Vis X.env.scope x := by first | exact Or.inl rfl | exact Or.inr (Or.inl rfl) | exact Or.inr (Or.inr rfl)) (hd : (x == ("__debug__" : Str)) = false := by decide) (hcd : (x == ("__classdict__" : Str)) = false := by decide) : JE X (.Name x pos) (tP K M H0 fun ρ => rdP ρ i) := ⟨vp i hN hv hd hcd⟩
theorem vq (i : Nat) {x : Str} (hN : X.N[i]? = some x := by rfl) (hv : Vis X.env.scope x := by first | exact Or.inl rfl | exact Or.inr (Or.inl rfl) | exact Or.inr (Or.inr rfl)) (hd : (x == ("__debug__" : Str)) = false := by decide) (hcd : (x == ("__classdict__" : Str)) = false := by decide) :
    PE X (.Name x pos) (tQ K M H0 fun ρ => rdQ ρ i) := vq_var hN hv hd hcd
theorem j_vq (i : Nat) {x : Str} (hN : X.N[i]? = some x := by rfl) (hv : Vis X.env.scope x := by first | exact Or.inl rfl | exact Or.inr (Or.inl rfl) | exact Or.inr (Or.inr rfl)) (hd : (x == ("__debug__" : Str)) = false := by decide) (hcd : (x == ("__classdict__" : Str)) = false := by decide) : JE X (.Name x pos) (tQ K M H0 fun ρ => rdQ ρ i) := ⟨vq i hN hv hd hcd⟩
theorem va (i : Nat) {x : Str} (hN : X.N[i]? = some x := by rfl) (hv : Vis X.env.scope x := by first | exact Or.inl rfl | exact Or.inr (Or.inl rfl) | exact Or.inr (Or.inr rfl)) (hd : (x == ("__debug__" : Str)) = false := by decide) (hcd : (x == ("__classdict__" : Str)) = false := by decide) :
    PE X (.Name x pos) (tS1 K M H0 fun ρ => rdA ρ i) := va_var hN hv hd hcd
theorem j_va (i : Nat) {x : Str} (hN : X.N[i]? = some x := by rfl) (hv : Vis X.env.scope x := by first | exact Or.inl rfl | exact Or.inr (Or.inl rfl) | exact Or.inr (Or.inr rfl)) (hd : (x == ("__debug__" : Str)) = false := by decide) (hcd : (x == ("__classdict__" : Str)) = false := by decide) : JE X (.Name x pos) (tS1 K M H0 fun ρ => rdA ρ i) := ⟨va i hN hv hd hcd⟩
theorem vret (i : Nat) {x : Str} {vpos : Pos} (hN : X.N[i]? = some x := by rfl) (hv : Vis X.env.scope x := by first | exact Or.inl rfl | exact Or.inr (Or.inl rfl) | exact Or.inr (Or.inr rfl)) (hd : (x == ("__debug__" : Str)) = false := by decide) (hcd : (x == ("__classdict__" : Str)) = false := by decide) :
    PS X (.Return (some (.Name x vpos)) pos) (tS K M H0 fun ρ => retF (rdO ρ i)) := vs_retO hN hv hd hcd
theorem j_vret (i : Nat) {x : Str} {vpos : Pos} (hN : X.N[i]? = some x := by rfl) (hv : Vis X.env.scope x := by first | exact Or.inl rfl | exact Or.inr (Or.inl rfl) | exact Or.inr (Or.inr rfl)) (hd : (x == ("__debug__" : Str)) = false := by decide) (hcd : (x == ("__classdict__" : Str)) = false := by decide) : JS X (.Return (some (.Name x vpos)) pos) (tS K M H0 fun ρ => retF (rdO ρ i)) := ⟨vret i hN hv hd hcd⟩
theorem vc_eq (hu : X.A.units + 64 < cLine) (ha : PE X a (tP X.K M H0 f)) (hb : PE X b (tP X.K M H0 g)) : PE X (.Compare a [.Eq] [b] pos) (tD X.K M H0 (bin2 eqO f g)) := ve_cmp (op_eqD hu) r2_eq ha hb (nobehind _ (by decide) (by decide))
theorem j_vc_eq (hu : X.A.units + 64 < cLine) (ha : JE X a (tP X.K M H0 f)) (hb : JE X b (tP X.K M H0 g)) : JE X (.Compare a [.Eq] [b] pos) (tD X.K M H0 (bin2 eqO f g)) := ⟨vc_eq hu ha.h hb.h⟩
theorem vc_lt (hu : X.A.units + 64 < cLine) (ha : PE X a (tP X.K M H0 f)) (hb : PE X b (tP X.K M H0 g)) : PE X (.Compare a [.Lt] [b] pos) (tD X.K M H0 (bin2 ltO f g)) := ve_cmp (op_ltD hu) r2_lt ha hb (nobehind _ (by decide) (by decide))
theorem j_vc_lt (hu : X.A.units + 64 < cLine) (ha : JE X a (tP X.K M H0 f)) (hb : JE X b (tP X.K M H0 g)) : JE X (.Compare a [.Lt] [b] pos) (tD X.K M H0 (bin2 ltO f g)) := ⟨vc_lt hu ha.h hb.h⟩
theorem vc_in (hu : X.A.units + 64 < cLine) (ha : PE X a (tP X.K M H0 f)) (hb : PE X b (tP X.K M H0 g)) (hm : behindInMarks .In b = false := by with_unfolding_all rfl) : PE X (.Compare a [.In] [b] pos) (tD X.K M H0 (bin2 (inD false) f g)) := ve_cmp ((op_inD hu).or op_in_str) r2_in ha hb hm
theorem j_vc_in (hu : X.A.units + 64 < cLine) (ha : JE X a (tP X.K M H0 f)) (hb : JE X b (tP X.K M H0 g)) (hm : behindInMarks .In b = false := by with_unfolding_all rfl) : JE X (.Compare a [.In] [b] pos) (tD X.K M H0 (bin2 (inD false) f g)) := ⟨vc_in hu ha.h hb.h hm⟩
theorem vtc_eq (hu : X.A.units + 64 < cLine) (ha : PE X a (tP X.K M H0 f)) (hb : PE X b (tP X.K M H0 g)) : PT X (.Compare a [.Eq] [b] pos) (tB' X.K M H0 fun ρ => asB (bin2 eqO f g ρ)) := vt_cmp (op_eqD hu) r2_eq ha hb (nobehind _ (by decide) (by decide))
theorem j_vtc_eq (hu : X.A.units + 64 < cLine) (ha : JE X a (tP X.K M H0 f)) (hb : JE X b (tP X.K M H0 g)) : JT X (.Compare a [.Eq] [b] pos) (tB' X.K M H0 fun ρ => asB (bin2 eqO f g ρ)) := ⟨vtc_eq hu ha.h hb.h⟩
theorem vtc_ne (hu : X.A.units + 64 < cLine) (ha : PE X a (tP X.K M H0 f)) (hb : PE X b (tP X.K M H0 g)) : PT X (.Compare a [.NotEq] [b] pos) (tB' X.K M H0 fun ρ => asB (bin2 neO f g ρ)) := vt_cmp (op_neD hu) r2_ne ha hb (nobehind _ (by decide) (by decide))
theorem j_vtc_ne (hu : X.A.units + 64 < cLine) (ha : JE X a (tP X.K M H0 f)) (hb : JE X b (tP X.K M H0 g)) : JT X (.Compare a [.NotEq] [b] pos) (tB' X.K M H0 fun ρ => asB (bin2 neO f g ρ)) := ⟨vtc_ne hu ha.h hb.h⟩
theorem vtc_lt (hu : X.A.units + 64 < cLine) (ha : PE X a (tP X.K M H0 f)) (hb : PE X b (tP X.K M H0 g)) : PT X (.Compare a [.Lt] [b] pos) (tB' X.K M H0 fun ρ => asB (bin2 ltO f g ρ)) := vt_cmp (op_ltD hu) r2_lt ha hb (nobehind _ (by decide) (by decide))
theorem j_vtc_lt (hu : X.A.units + 64 < cLine) (ha : JE X a (tP X.K M H0 f)) (hb : JE X b (tP X.K M H0 g)) : JT X (.Compare a [.Lt] [b] pos) (tB' X.K M H0 fun ρ => asB (bin2 ltO f g ρ)) := ⟨vtc_lt hu ha.h hb.h⟩
theorem vtc_gt (hu : X.A.units + 64 < cLine) (ha : PE X a (tP X.K M H0 f)) (hb : PE X b (tP X.K M H0 g)) : PT X (.Compare a [.Gt] [b] pos) (tB' X.K M H0 fun ρ => asB (bin2 gtD f g ρ)) := vt_cmp op_gt (r2_b0 _) ha hb (nobehind _ (by decide) (by decide))
theorem j_vtc_gt (hu : X.A.units + 64 < cLine) (ha : JE X a (tP X.K M H0 f)) (hb : JE X b (tP X.K M H0 g)) : JT X (.Compare a [.Gt] [b] pos) (tB' X.K M H0 fun ρ => asB (bin2 gtD f g ρ)) := ⟨vtc_gt hu ha.h hb.h⟩
theorem vtc_nin (hu : X.A.units + 64 < cLine) (ha : PE X a (tP X.K M H0 f)) (hb : PE X b (tP X.K M H0 g)) (hm : behindInMarks .NotIn b = false := by with_unfolding_all rfl) : PT X (.Compare a [.NotIn] [b] pos) (tB' X.K M H0 fun ρ => asB (bin2 (inD true) f g ρ)) := vt_cmp ((op_ninD hu).or op_notin_str) r2_nin ha hb hm
theorem j_vtc_nin (hu : X.A.units + 64 < cLine) (ha : JE X a (tP X.K M H0 f)) (hb : JE X b (tP X.K M H0 g)) (hm : behindInMarks .NotIn b = false := by with_unfolding_all rfl) : JT X (.Compare a [.NotIn] [b] pos) (tB' X.K M H0 fun ρ => asB (bin2 (inD true) f g ρ)) := ⟨vtc_nin hu ha.h hb.h hm⟩
@[simp] def chainO (F F' : D → D → Option D) (f g h : VE → Option D) : VE → Option D := fun ρ => (f ρ).bind fun x => (g ρ).bind fun y => match F x y with
  | some (.bl true) => (h ρ).bind fun z => F' y z
  | some (.bl false) => some (.bl false)
  | _ => none
theorem tChain_D {r r' : R2} {F F' : D → D → Option D} (hr : R2D K r F) (hr' : R2D K r' F') {σ : St} {H : Hp} {Q : VK} (q : tD K M H0 (chainO F F' f g h) σ H Q) : tChain r r' (tP K M H0 f) (tP K M H0 g) (tP K M H0 h) σ H Q := by
  obtain ⟨ρ, d, R, e, q⟩ := q
  unfold chainO at e
  cases hf : f ρ with
  | none => rw [hf] at e; cases e
  | some x =>
    cases hg : g ρ with
    | none => rw [hf, hg] at e; cases e
    | some y =>
      rw [hf, hg] at e
      simp only [Option.bind] at e
      refine ⟨ρ, x, R, hf, fun v H1 s1 h1 => ⟨ρ, y, R.st s1, hg, fun u H2 s2 h2 => ?_⟩⟩
      have R2 := (R.st s1).st s2
      split at e
      · next hF =>
        cases hh : h ρ with
        | none => rw [hh] at e; cases e
        | some z =>
          rw [hh] at e
          refine hr _ H2 v u x y _ _ R2.nh (h1.same s2) h2 hF fun w H3 s3 h3 => ⟨true, by simpa only [Den] using h3, ite_t ⟨ρ, z, R2.st s3, hh, fun w' H4 s4 h4 => ?_⟩⟩
          exact hr' _ H4 u w' y z d Q (((R2.st s3).st s4)).nh ((h2.same s3).same s4) h4 e fun w2 H5 s5 h5 => q w2 H5 ((((s1.trans s2).trans s3).trans s4).trans s5) h5
      · next hF =>
        cases e
        exact hr _ H2 v u x y _ _ R2.nh (h1.same s2) h2 hF fun w H3 s3 h3 => ⟨false, by simpa only [Den] using h3, ite_f (q _ H3 ((s1.trans s2).trans s3) den_bl)⟩
      · cases e
theorem vc_chain {op op' : CmpOp} {r r' : R2} {F F' : D → D → Option D} (ho : OpR X (compareOp op) r) (ho' : OpR X (compareOp op') r') (hr : R2D K r F) (hr' : R2D K r' F') (ha : PE X a (tP K M H0 f)) (hb : PE X b (tP K M H0 g)) (hc : PE X c (tP K M H0 h))
    (hm : lastMarks [op, op'] [b, c] = false := by with_unfolding_all rfl) : PE X (.Compare a [op, op'] [b, c] pos) (tD K M H0 (chainO F F' f g h)) := (pe_chain ho ho' ha hb hc hm).mono fun _ _ _ q => tChain_D hr hr' q
theorem j_vc_chain {op op' : CmpOp} {r r' : R2} {F F' : D → D → Option D} (ho : OpR X (compareOp op) r) (ho' : OpR X (compareOp op') r') (hr : R2D K r F) (hr' : R2D K r' F') (ha : JE X a (tP K M H0 f)) (hb : JE X b (tP K M H0 g)) (hc : JE X c (tP K M H0 h)) (hm : lastMarks [op, op'] [b, c] = false := by with_unfolding_all rfl) : JE X (.Compare a [op, op'] [b, c] pos) (tD K M H0 (chainO F F' f g h)) := ⟨vc_chain ho ho' hr hr' ha.h hb.h hc.h hm⟩
@[simp] def truD : Option D → Option Bool
  | some .non => some false
  | some (.bl b) => some b
  | some (.int i) => some (i != 0)
  | some (.str y) => if y.length ≤ sizeLine then some ((y.length : Int) != 0) else none
  | some (.lst xs) => some (!xs.isEmpty)
  | some (.tup xs) => some (!xs.isEmpty)
  | _ => none
theorem DenL.isEmpty {N : Fb} {H : Hp} {xs : List D} {vs : List V} (h : DenL K N H xs vs) : vs.isEmpty = xs.isEmpty := by
  cases xs with
  | nil => simp only [DenL] at h; subst h; rfl
  | cons x xs => simp only [DenL] at h; obtain ⟨_, _, e, _⟩ := h; subst e; rfl
theorem vt_tru (ha : PE X a (tP X.K M H0 f)) (he : ∀ whole, isTrue a X.env whole = (do let v ← whole; standAt a.pos; holding [v] (truthy v)) := by intro _; rfl) : PT X a (tB' X.K M H0 fun ρ => truD (f ρ)) :=
  (pt_truth ha he).mono fun σ H Q ⟨ρ, k, R, e, q⟩ => by
    try dsimp only at e q
    unfold truD at e
    split at e
    · next hf => cases e; exact ⟨ρ, _, R, hf, fun v H' s hv => ⟨_, by rw [hv.non]; rfl, q H' s⟩⟩
    · next hf => cases e; exact ⟨ρ, _, R, hf, fun v H' s hv => ⟨_, by rw [hv.bl]; rfl, q H' s⟩⟩
    · next hf => cases e; exact ⟨ρ, _, R, hf, fun v H' s hv => ⟨_, by rw [hv.int]; rfl, q H' s⟩⟩
    · next hf =>
      split at e
      · next hz => cases e; exact ⟨ρ, _, R, hf, fun v H' s hv => ⟨_, by rw [hv.str]; exact ⟨hz, rfl⟩, q H' s⟩⟩
      · cases e
    · next hf =>
      cases e
      refine ⟨ρ, _, R, hf, fun v H' s hv => ⟨_, ?_, q H' s⟩⟩
      obtain ⟨p, vs, e1, q1, r1⟩ := hv
      subst e1
      exact .inl ⟨vs, q1, by rw [r1.isEmpty]⟩
    · next hf =>
      cases e
      refine ⟨ρ, _, R, hf, fun v H' s hv => ⟨_, ?_, q H' s⟩⟩
      obtain ⟨p, vs, e1, q1, r1⟩ := hv.tup
      subst e1
      exact .inr (.inl ⟨vs, q1, by rw [r1.isEmpty]⟩)
    · cases e
theorem j_vt_tru (ha : JE X a (tP X.K M H0 f)) (he : ∀ whole, isTrue a X.env whole = (do let v ← whole; standAt a.pos; holding [v] (truthy v)) := by intro _; rfl) : JT X a (tB' X.K M H0 fun ρ => truD (f ρ)) := ⟨vt_tru ha.h he⟩
@[simp] def seqItems : D → Option (List D)
  | .lst xs => some xs
  | .tup xs => some xs
  | .str x => some (x.cps.toList.map fun c => D.str ⟨#[c]⟩)
  | _ => none
theorem vi_seq {l : Expr} (hl : PE X l (tQ X.K M H0 f)) : PI X tg l (tI X.K M H0 fun ρ => (f ρ).bind seqItems) := fun pins s σ H R' I ⟨ρ, ds, R, e, q⟩ => by
  try dsimp only at e
  cases hf : f ρ with
  | none => rw [hf] at e; cases e
  | some d =>
    rw [hf] at e
    cases d with
    | lst xs fl =>
      cases fl with
      | true => cases e
      | false => exact vi_list hl pins s σ H R' I ⟨ρ, ds, R, by dsimp only; rw [hf]; exact e, q⟩
    | tup xs => exact vi_tup hl pins s σ H R' I ⟨ρ, ds, R, by dsimp only; rw [hf]; exact e, q⟩
    | str x => exact vi_str hl pins s σ H R' I ⟨ρ, ds, R, by dsimp only; rw [hf]; exact e, q⟩
    | _ => cases e
theorem j_vi_seq {l : Expr} (hl : JE X l (tQ X.K M H0 f)) : JI X tg l (tI X.K M H0 fun ρ => (f ρ).bind seqItems) := ⟨vi_seq hl.h⟩
@[simp] def extR (i : Nat) (o : Option (List D)) (ρ : VE) : Res := match rdO ρ i, o with
  | some xs, some ys => if xs.length + ys.length ≤ sizeLine then .next (ρ.set i (.own (xs ++ ys))) else .fail
  | _, _ => .fail
@[simp] def revR (i : Nat) (ρ : VE) : Res := match rdO ρ i with
  | some xs => .next (ρ.set i (.own xs.reverse))
  | _ => .fail
@[simp] def movR (i j : Nat) (ρ : VE) : Res := match rdO ρ j with
  | some xs => .next ((ρ.set j .no).set i (.own xs))
  | _ => .fail
@[simp] def movG (i j : Nat) (ρ : VE) : Res := match rdG ρ j with
  | some xs => .next ((ρ.set j .no).set i (.own xs true))
  | _ => .fail
end
end L2
namespace L2
theorem PSs.conv {X : Cx} {K : PySem.W.Frag} {M : Fb} {H0 : Hp} {b : List PySem.Stmt} {g g' : VE → Res} (h : PSs X b (tS K M H0 g)) (e : g = g') : PSs X b (tS K M H0 g') := e ▸ h
theorem j_conv {X : Cx} {K : PySem.W.Frag} {M : Fb} {H0 : Hp} {b : List PySem.Stmt} {g g' : VE → Res} (h : JB X b (tS K M H0 g)) (e : g = g') : JB X b (tS K M H0 g') := ⟨PSs.conv h.h e⟩
end L2
namespace L2
theorem j_pt {X : Cx} {e : PySem.Expr} {t : TT} (h : JW X e t) : JT X e t := ⟨h.h.pt⟩
end L2
set_option Elab.async false
set_option linter.all false
set_option maxRecDepth 100000
namespace L2
open PySem PySem.Spec PyProof.Rows
def isrt (ns : List Int) : List Int := ns.mergeSort fun a b => decide (a ≤ b)
section
variable {X : Cx} {K : PySem.W.Frag}
def sortD : List D → Option (List D)
  | [.lst xs] => (asIs xs).bind fun ns => if ns.length < 64 then some ((isrt ns).map D.int) else none
  | _ => none
@[simp] def mtO (F : Str → List D → Option D) (f : VE → Option D) (fa : VE → Option (List Sl)) : VE → Option D := fun ρ => match f ρ with
  | some (.str z) => ((fa ρ).bind pks).bind (F z)
  | _ => none
@[simp] def mtO0 (F : Str → List D → Option D) (f : VE → Option D) : VE → Option D := fun ρ => match f ρ with
  | some (.str z) => F z []
  | _ => none
section
variable {M : Fb} {H0 : Hp} {o e : Expr} {es : List Expr} {f : VE → Option D} {fa : VE → Option (List Sl)} {name : Str} {apos cpos : Pos} {id : String} {r : V → List V → Hp → VK → Prop} {F : Str → List D → Option D}
end
def asSs : List D → Option (List Str)
  | [] => some []
  | .str b :: r => (asSs r).map (b :: ·)
  | _ => none
@[simp] theorem asSs_eq : ∀ (ns : List Str), asSs (ns.map D.str) = some ns
  | [] => rfl
  | n :: ns => by simp only [List.map_cons, asSs, asSs_eq ns]; rfl
@[simp] def joinD (z : Str) : List D → Option D
  | [.lst xs] => (asSs xs).bind fun zs => if (zs.map (·.length)).sum + zs.length * z.length ≤ 16777216 then some (.str (Txt.join z zs)) else none
  | _ => none
@[simp] def findD (z : Str) : List D → Option D
  | [.str y] => some (.int (Txt.find z y))
  | _ => none
@[simp] def upperD (z : Str) : List D → Option D
  | [] => if Builtin.Str.tooLong (Txt.upper z).length = false then some (.str (Txt.upper z)) else none
  | _ => none
end
end L2
set_option Elab.async false
set_option linter.all false
set_option maxRecDepth 100000
namespace L2
open PySem PySem.Spec PyProof.Rows
section
variable {prog : Program} {w : World} {A : Around} {E : Value → Shared → Prop} {s : Shared}
section
variable {z tin tout ia ib : Addr} {fa fb : List Addr} {n m k : Nat} {isA isB : Nat → Value → Prop} {sa sb : Nat → Heap → Prop} {a b : Value}
end
end
end L2
set_option Elab.async false
set_option linter.all false
set_option maxRecDepth 100000
namespace L2
open PySem PySem.Spec PyProof.Rows
section
variable {X : Cx} {pins : List (Addr × Obj)} {σ : St} {H : Hp} {s : Shared} {h' : Heap}
end
inductive Src where
  | l (a : Addr)
  | t (a : Addr)
@[reducible] def Src.ad : Src → Addr
  | .l a => a
  | .t a => a
def Src.sq (K : PySem.W.Frag) (H : Hp) : Src → List V → Prop
  | .l a => SqL K H a
  | .t a => SqT K H a
def Src.nm : Src → String
  | .l _ => "list_iterator"
  | .t _ => "tuple_iterator"
def Src.ok (h : Heap) (its : Array Value) : Src → Prop
  | .l a => h.IsList a its
  | .t a => h.IsTuple a its
def Src.it (h : Heap) (i : Addr) (k : Nat) : Src → Prop
  | .l a => h.IsListIter i a k
  | .t a => h.IsTupleIter i a k
theorem Src.of (S : Src) {X : Cx} {pins : List (Addr × Obj)} {σ : St} {H : Hp} {s : Shared} {xs : List V} (I : Inv X pins σ H s) (h : S.sq X.K H xs) : ∃ its : List Value, Vals xs its ∧ S.ok s.heap its.toArray ∧ xs.length ≤ sizeLine := by
  cases S with
  | l a => obtain ⟨its, r, p, z⟩ := I.list h; exact ⟨its, r, p.isList, z⟩
  | t a => obtain ⟨its, r, p, z⟩ := I.tuple h; exact ⟨its, r, (show s.heap.IsTuple a its.toArray from p), z⟩
theorem Src.inj (S : Src) {X : Cx} {pins : List (Addr × Obj)} {σ : St} {H : Hp} {s : Shared} {xs ys : List V} (I : Inv X pins σ H s) (h : S.sq X.K H xs) (h' : S.sq X.K H ys) : xs = ys := by
  cases S with
  | l a => exact I.list_inj h h'
  | t a => exact I.tuple_inj h h'
theorem Src.lt (S : Src) {h : Heap} {its : Array Value} (p : S.ok h its) : S.ad < h.objs.size := by
  cases S with
  | l a => obtain ⟨o, e, _⟩ := p; exact Heap.lt_size e
  | t a => obtain ⟨o, e, _⟩ := p; exact Heap.lt_size e
def Src.obj (S : Src) : Obj := { cls := .type S.nm, data := .fields #[.ref S.ad, .int 0 0] }
theorem Src.pyIter (S : Src) {prog : Program} {w : World} {A : Around} {E : Value → Shared → Prop} {s : Shared} {its : Array Value} {Q : Value → Shared → Prop} (p : S.ok s.heap its)
    (q : Q (.ref s.heap.objs.size) { s with heap := s.heap.push S.obj }) : wpAny (model prog w) A (pyIter (.ref S.ad)) Q E s := by
  cases S with
  | l a => exact wpAny_pyIter_list p q
  | t a => exact wpAny_pyIter_tuple p q
theorem Src.new (S : Src) {h : Heap} : S.it (h.push S.obj) h.objs.size 0 := by
  cases S with
  | l a => exact ⟨_, Heap.get?_push_size _ rfl, rfl, rfl⟩
  | t a => exact ⟨_, Heap.get?_push_size _ rfl, rfl, rfl⟩
end L2
set_option Elab.async false
set_option linter.all false
set_option maxRecDepth 100000
namespace L2
open PySem PySem.Spec PyProof.Rows
section
variable {prog : Program} {w : World} {A : Around} {E : Value → Shared → Prop} {s : Shared}
end
@[simp] def zsItems : D → Option (List D)
  | .lst xs => some xs
  | .tup xs => some xs
  | _ => none
theorem DenQ.src {K : PySem.W.Frag} {M N : Fb} {H : Hp} {d : D} {v : V} {xs : List D} (h : DenQ K M N H d v) (e : zsItems d = some xs) :
    ∃ (S : Src) (vs : List V), v = .ref S.ad ∧ DenL K N H xs vs ∧ ∀ N2 H2, Step M N N2 H H2 → S.sq K H2 vs := by
  cases d with
  | lst ys fl =>
    cases fl with
    | true => cases e
    | false =>
    cases e
    obtain ⟨a, vs, e1, hr, hd⟩ := h
    refine ⟨.l a, vs, e1, hd, fun N2 H2 S => ?_⟩
    rcases hr with ⟨hn, hr⟩ | hr
    · exact .inl (hr.step S (by rcases hn with z | z; exact .inl z; exact .inr (.inl z)))
    · exact hr.sq
  | tup ys =>
    cases e
    simp only [DenQ, Den] at h
    obtain ⟨a, vs, e1, hr, hd⟩ := h
    exact ⟨.t a, vs, e1, hd, fun N2 H2 S => hr.step S⟩
  | _ => cases e
@[simp] def zipO (f g : VE → Option D) : VE → Option (List D) := fun ρ => match (f ρ).bind zsItems, (g ρ).bind zsItems with
  | some xs, some ys => some (List.zipWith (fun x y => D.tup [x, y]) xs ys)
  | _, _ => none
section
variable {X : Cx} {M : Fb} {H0 : Hp} {f g : VE → Option D} {a b : Expr} {elts : List Expr} {p pos tpos : Pos}
end
end L2
set_option Elab.async false
set_option linter.all false
set_option maxRecDepth 100000
namespace L2
open PySem PySem.Spec PyProof.Rows
section
variable {prog : Program} {w : World} {A : Around} {E : Value → Shared → Prop} {s : Shared}
section
variable {e it : Addr} {fa : List Addr} {n k : Nat} {isA : Nat → Value → Prop} {sa : Nat → Heap → Prop} {old : Value}
end
end
def enumL : Nat → List D → List D
  | _, [] => []
  | k, d :: ds => .tup [.int k, d] :: enumL (k + 1) ds
@[simp] def enumO (f : VE → Option D) : VE → Option (List D) := fun ρ => match (f ρ).bind zsItems with
  | some xs => some (enumL 0 xs)
  | none => none
section
variable {X : Cx} {M : Fb} {H0 : Hp} {f : VE → Option D} {a : Expr} {elts : List Expr} {p pos tpos : Pos}
end
end L2
set_option Elab.async false
set_option linter.all false
set_option maxRecDepth 100000
namespace L2
open PySem PySem.Spec PyProof.Rows
abbrev T3 := KT × V × V
def flat3 : List T3 → List V
  | [] => []
  | t :: r => t.2.1 :: t.2.2 :: flat3 r
def val3 : List T3 → KT → Option V
  | [], _ => none
  | t :: r, k => if t.1 = k then some t.2.2 else val3 r k
def rep3 : List T3 → KT → V → List T3
  | [], _, _ => []
  | t :: r, k, v => (if t.1 = k then (t.1, t.2.1, v) else t) :: rep3 r k v
def put3 (tr : List T3) (k : KT) (kv v : V) : List T3 := if (val3 tr k).isSome = true then rep3 tr k v else tr ++ [(k, kv, v)]
theorem rep3_fst (k : KT) (v : V) : ∀ tr : List T3, (rep3 tr k v).map (·.1) = tr.map (·.1)
  | [] => rfl
  | t :: r => by
    simp only [rep3, List.map_cons, rep3_fst k v r]
    split <;> rfl
theorem val3_none {k : KT} : ∀ {tr : List T3}, val3 tr k = none → k ∉ tr.map (·.1)
  | [], _ => by simp
  | t :: r, h => by
    unfold val3 at h
    split at h
    · cases h
    · next e =>
      simp only [List.map_cons, List.mem_cons, not_or]
      exact ⟨fun z => e z.symm, val3_none h⟩
theorem put3_nodup {tr : List T3} {k : KT} {kv v : V} (h : (tr.map (·.1)).Nodup) : ((put3 tr k kv v).map (·.1)).Nodup := by
  unfold put3
  split
  · rw [rep3_fst]; exact h
  · next e =>
    rw [List.map_append, List.nodup_append]
    refine ⟨h, by simp, fun a ha b hb => ?_⟩
    have hn : val3 tr k = none := by
      cases hv : val3 tr k with
      | none => rfl
      | some x => rw [hv] at e; exact absurd rfl e
    simp only [List.map_cons, List.map_nil, List.mem_singleton] at hb
    subst hb
    rintro rfl
    exact val3_none hn ha
theorem rep3_len (k : KT) (v : V) : ∀ tr : List T3, (rep3 tr k v).length = tr.length
  | [] => rfl
  | t :: r => by simp [rep3, rep3_len k v r]
theorem put3_len (tr : List T3) (k : KT) (kv v : V) : (put3 tr k kv v).length ≤ tr.length + 1 := by
  unfold put3
  split
  · rw [rep3_len]; omega
  · simp
theorem atV_is {a : At} {u : Value} (h : RelV (atV a) u) : atIs a u = true := by
  cases a with
  | non => cases h; rfl
  | int i => obtain ⟨t, rfl⟩ := h; exact atIs_int i t
  | str x => obtain ⟨t, rfl⟩ := h; exact atIs_str x t
theorem is_atV {a : At} {u : Value} (h : atIs a u = true) : RelV (atV a) u := by
  rcases atIs_shape h with ⟨rfl, rfl⟩ | ⟨i, t, rfl, rfl⟩ | ⟨x, t, rfl, rfl⟩
  · rfl
  · exact ⟨t, rfl⟩
  · exact ⟨t, rfl⟩
abbrev RA : List T3 → List (At × Value) → Prop := Paired fun t u => t.1 = .at u.1 ∧ t.2.1 = atV u.1 ∧ RelV t.2.2 u.2
theorem ent_atoms {P : Program} {w : World} : ∀ {tr : List T3} {es : List DictEntry}, EntOk w (tr.map (·.1)) (flat3 tr) es → (∀ t ∈ tr, ∃ a, t.1 = KT.at a) →
    ∃ us, RA tr us ∧ Pairs (atomKind P w) es us ∧ ∀ e ∈ es, ∃ k, (atomKind P w).is k e.key = true ∧ e.hash = (atomKind P w).hash k
  | [], es, h, _ => by
    obtain ⟨_, rfl⟩ := h
    exact ⟨[], .nil, .nil, fun _ z => nomatch z⟩
  | t :: r, es, h, ha => by
    obtain ⟨kv, v, q, e, es', e1, e2, h1, h2, h3, h4, h5⟩ := h
    obtain ⟨a, ea⟩ := ha t List.mem_cons_self
    simp only [flat3, List.cons.injEq] at e1
    obtain ⟨e1, e1', e1''⟩ := e1
    subst e1 e1' e2 e1''
    dsimp only at h3 h4
    rw [ea] at h3 h4
    obtain ⟨us, r1, r2, r3⟩ := ent_atoms (P := P) h5 fun t ht => ha t (List.mem_cons_of_mem _ ht)
    have h4 : t.2.1 = atV a := h4
    rw [h4] at h1
    refine ⟨(a, e.val) :: us, .cons ⟨ea, h4, h2⟩ r1, .cons (atV_is h1) rfl r2, fun e' he => ?_⟩
    rcases List.mem_cons.mp he with rfl | he
    · exact ⟨a, atV_is h1, h3⟩
    · exact r3 e' he
theorem atoms_ent {P : Program} {w : World} : ∀ {tr : List T3} {us : List (At × Value)} {es : List DictEntry}, RA tr us → Pairs (atomKind P w) es us → (∀ e ∈ es, ∃ k, (atomKind P w).is k e.key = true ∧ e.hash = (atomKind P w).hash k) →
    EntOk w (tr.map (·.1)) (flat3 tr) es
  | _, _, _, .nil, .nil, _ => ⟨rfl, rfl⟩
  | t :: r, (a, u) :: us, e :: es, .cons ⟨h1, h2, h3⟩ hr, .cons p1 p2 pr, hk => by
    refine ⟨t.2.1, t.2.2, flat3 r, e, es, rfl, rfl, ?_, ?_, ?_, ?_, atoms_ent hr pr fun e he => hk e (List.mem_cons_of_mem _ he)⟩
    · rw [h2]; exact is_atV p1
    · rw [p2]; exact h3
    · obtain ⟨k, q1, q2⟩ := hk e List.mem_cons_self
      have : k = a := (atomKind P w).inj _ _ _ q1 p1
      subst this
      dsimp only; rw [h1]; exact q2
    · dsimp only; rw [h1]; exact h2
theorem RA.val : ∀ {tr : List T3} {us : List (At × Value)}, RA tr us → ∀ a, RelO (val3 tr (.at a)) (valueAt us a)
  | _, _, .nil, _ => True.intro
  | t :: r, u :: us, .cons ⟨h1, h2, h3⟩ hr, a => by
    have ih := RA.val hr a
    unfold val3 valueAt
    rw [h1, List.find?_cons]
    by_cases e : u.1 = a
    · rw [if_pos (by rw [e])]; simp only [e, decide_true]; exact h3
    · rw [if_neg (fun z => e (KT.at.inj z))]; simp only [e, decide_false]; exact ih
theorem RelO.isS : ∀ {o : Option V} {u : Option Value}, RelO o u → o.isSome = u.isSome
  | some _, some _, _ => rfl
  | none, none, _ => rfl
  | some _, none, h => h.elim
  | none, some _, h => h.elim
theorem RA.rep {a : At} {v : V} {u : Value} (rv : RelV v u) : ∀ {tr : List T3} {us : List (At × Value)}, RA tr us → RA (rep3 tr (.at a) v) (us.map fun kv => if kv.1 = a then (kv.1, u) else kv)
  | _, _, .nil => .nil
  | t :: r, w :: us, .cons ⟨h1, h2, h3⟩ hr => by
    have ih := RA.rep (a := a) rv hr
    unfold rep3
    rw [List.map_cons]
    refine .cons ?_ ih
    by_cases e : w.1 = a
    · rw [if_pos (by rw [h1, e]), if_pos e]; exact ⟨h1, h2, rv⟩
    · rw [if_neg (fun z => e (KT.at.inj (h1.symm.trans z))), if_neg e]; exact ⟨h1, h2, h3⟩
theorem Paired.snoc' {α β : Type} {F : α → β → Prop} {x : α} {y : β} (h : F x y) : ∀ {l : List α} {m : List β}, Paired F l m → Paired F (l ++ [x]) (m ++ [y])
  | _, _, .nil => .cons h .nil
  | _, _, .cons r t => .cons r (Paired.snoc' h t)
theorem any_val {us : List (At × Value)} {a : At} : (us.any fun kv => decide (kv.1 = a)) = (valueAt us a).isSome := by
  unfold valueAt
  rw [Option.isSome_map]
  induction us with
  | nil => rfl
  | cons x r ih =>
    rw [List.any_cons, List.find?_cons]
    cases decide (x.1 = a) with
    | true => rfl
    | false => simpa using ih
theorem RA.put {tr : List T3} {us : List (At × Value)} {a : At} {v : V} {u : Value} (h : RA tr us) (rv : RelV v u) : RA (put3 tr (.at a) (atV a) v) (stored us a u) := by
  unfold put3 stored
  rw [any_val, (h.val a).isS]
  by_cases e : (valueAt us a).isSome = true
  · rw [if_pos e, if_pos e]; exact h.rep rv
  · rw [if_neg e, if_neg e]; exact Paired.snoc' ⟨rfl, rfl, rv⟩ h
theorem RA.fst : ∀ {tr : List T3} {us : List (At × Value)}, RA tr us → tr.map (·.1) = (us.map (·.1)).map KT.at
  | _, _, .nil => rfl
  | t :: r, u :: us, .cons ⟨h1, _, _⟩ hr => by rw [List.map_cons, List.map_cons, List.map_cons, h1, RA.fst hr]
abbrev RT : List T3 → List (List At × Addr × Value) → Prop := Paired fun t u => t.1 = .tup u.1 ∧ t.2.1 = .ref u.2.1 ∧ RelV t.2.2 u.2.2
theorem ent_tups {P : Program} {w : World} : ∀ {tr : List T3} {es : List DictEntry}, EntOk w (tr.map (·.1)) (flat3 tr) es → (∀ t ∈ tr, ∃ l, t.1 = KT.tup l) →
    ∃ us, RT tr us ∧ es = us.map (entryOfKey (tupleKind (atomKind P w)))
  | [], es, h, _ => by
    obtain ⟨_, rfl⟩ := h
    exact ⟨[], .nil, rfl⟩
  | t :: r, es, h, ha => by
    obtain ⟨kv, v, q, e, es', e1, e2, h1, h2, h3, h4, h5⟩ := h
    obtain ⟨l, el⟩ := ha t List.mem_cons_self
    simp only [flat3, List.cons.injEq] at e1
    obtain ⟨e1, e1', e1''⟩ := e1
    subst e1 e1' e2 e1''
    dsimp only at h3 h4
    rw [el] at h3 h4
    obtain ⟨us, r1, r2⟩ := ent_tups (P := P) h5 fun t ht => ha t (List.mem_cons_of_mem _ ht)
    obtain ⟨p, ep⟩ := (h4 : ∃ p, t.2.1 = .ref p)
    rw [ep] at h1
    obtain ⟨hh, hk, hv⟩ := e
    cases (h1 : hk = Value.ref p)
    refine ⟨(l, p, hv) :: us, .cons ⟨el, ep, h2⟩ r1, ?_⟩
    rw [List.map_cons, ← r2]
    have : hh = (KT.tup l).hash w := h3
    rw [this]; rfl
theorem tups_ent {P : Program} {w : World} : ∀ {tr : List T3} {us : List (List At × Addr × Value)}, RT tr us → EntOk w (tr.map (·.1)) (flat3 tr) (us.map (entryOfKey (tupleKind (atomKind P w))))
  | _, _, .nil => ⟨rfl, rfl⟩
  | t :: r, u :: us, .cons ⟨h1, h2, h3⟩ hr => by
    refine ⟨t.2.1, t.2.2, flat3 r, _, _, rfl, rfl, ?_, h3, ?_, ?_, tups_ent hr⟩
    · rw [h2]; rfl
    · dsimp only; rw [h1]; rfl
    · dsimp only; rw [h1]; exact ⟨_, h2⟩
theorem RT.val : ∀ {tr : List T3} {us : List (List At × Addr × Value)}, RT tr us → ∀ l, RelO (val3 tr (.tup l)) ((atKey us l).map (·.2))
  | _, _, .nil, _ => True.intro
  | t :: r, u :: us, .cons ⟨h1, h2, h3⟩ hr, l => by
    have ih := RT.val hr l
    unfold val3 atKey
    rw [h1, List.find?_cons]
    by_cases e : u.1 = l
    · rw [if_pos (by rw [e])]; simp only [e, decide_true]; exact h3
    · rw [if_neg (fun z => e (KT.tup.inj z))]; simp only [e, decide_false]; exact ih
theorem RT.rep {l : List At} {v : V} {u : Value} (rv : RelV v u) : ∀ {tr : List T3} {us : List (List At × Addr × Value)}, RT tr us → RT (rep3 tr (.tup l) v) (us.map (putAt l u))
  | _, _, .nil => .nil
  | t :: r, w :: us, .cons ⟨h1, h2, h3⟩ hr => by
    have ih := RT.rep (l := l) rv hr
    unfold rep3
    rw [List.map_cons]
    refine .cons ?_ ih
    unfold putAt
    by_cases e : w.1 = l
    · rw [if_pos (by rw [h1, e]), if_pos e]; exact ⟨h1, h2, rv⟩
    · rw [if_neg (fun z => e (KT.tup.inj (h1.symm.trans z))), if_neg e]; exact ⟨h1, h2, h3⟩
theorem RT.put {tr : List T3} {us : List (List At × Addr × Value)} {l : List At} {p : Addr} {v : V} {u : Value} (h : RT tr us) (rv : RelV v u) : RT (put3 tr (.tup l) (.ref p) v) (storedH us l p u) := by
  unfold put3 storedH
  have e0 := (h.val l).isS
  rw [Option.isSome_map] at e0
  rw [e0]
  by_cases e : (atKey us l).isSome = true
  · rw [if_pos e, if_pos e]; exact h.rep rv
  · rw [if_neg e, if_neg e]; exact Paired.snoc' ⟨rfl, rfl, rv⟩ h
theorem RT.fst : ∀ {tr : List T3} {us : List (List At × Addr × Value)}, RT tr us → tr.map (·.1) = (us.map (·.1)).map KT.tup
  | _, _, .nil => rfl
  | t :: r, u :: us, .cons ⟨h1, _, _⟩ hr => by rw [List.map_cons, List.map_cons, List.map_cons, h1, RT.fst hr]
theorem nodup_map {α β : Type} {f : α → β} (hf : ∀ a b, f a = f b → a = b) : ∀ {l : List α}, (l.map f).Nodup → l.Nodup
  | [], _ => List.nodup_nil
  | a :: l, h => by
    rw [List.map_cons, List.nodup_cons] at h
    rw [List.nodup_cons]
    exact ⟨fun z => h.1 (List.mem_map.mpr ⟨a, z, rfl⟩), nodup_map hf h.2⟩
def KeyV (K : PySem.W.Frag) (H : Hp) : KT → V → Prop
  | .at a, v => v = atV a
  | .tup l, v => ∃ p, v = .ref p ∧ SqT K H p (l.map atV)
theorem items_at {P : Program} {w : World} : ∀ {ks : List At} {us : List Value}, Vals (ks.map atV) us → ItemsAre (atomKind P w) ks us
  | [], _, r => by rw [List.map_nil] at r; cases r; exact .nil
  | k :: ks, _, r => by
    rw [List.map_cons] at r
    cases r with
    | cons h t => exact .cons (atV_is h) (items_at t)
def homK : KT → List T3 → Prop
  | .at _, tr => ∀ t ∈ tr, ∃ a, t.1 = KT.at a
  | .tup _, tr => ∀ t ∈ tr, ∃ l, t.1 = KT.tup l
def IsDc (K : PySem.W.Frag) (H : Hp) (a : Addr) (tr : List T3) : Prop := Rd H a (.dct (tr.map (·.1)) (flat3 tr)) ∧ ∀ t ∈ tr, KeyV K H t.1 t.2.1
section
variable {X : Cx} {pins : List (Addr × Obj)} {σ : St} {H : Hp} {s : Shared} {a p : Addr} {y v : V} {u r : Value} {o : Option V} {A : Around} {E : Value → Shared → Prop} {tr : List T3} {k : KT}
theorem key_tup {l : List At} (I : Inv X pins σ H s) (h : SqT X.K H p (l.map atV)) : (tupleKind (atomKind X.prog X.w)).is s.heap l p := by
  obtain ⟨its, r, ⟨o, h1, h2, n, h3⟩, _⟩ := I.tuple h
  exact ⟨o, its.toArray, n, h1, h2, h3, by simpa using items_at r⟩
theorem dct_at (I : Inv X pins σ H s) (h : IsDc X.K H a tr) (hk : ∀ t ∈ tr, ∃ a, t.1 = KT.at a) : tr.length ≤ sizeLine ∧ (a == sysModules) = false ∧ (tr.map (·.1)).Nodup ∧ ∃ us, RA tr us ∧ s.heap.DictOf (atomKind X.prog X.w) a us := by
  obtain ⟨z, hs, nd, o, es, ep, e1, e2, e3, e4⟩ := h.1.ok I.hok
  obtain ⟨us, r1, r2, r3⟩ := ent_atoms (P := X.prog) e4 hk
  refine ⟨by simpa using z, hs, nd, us, r1, o, es, ep, e1, e2, e3, fun e he => r3 e (by simpa using he), r2, ?_⟩
  rw [r1.fst] at nd
  exact nodup_map (fun _ _ z => KT.at.inj z) nd
theorem dct_tup (I : Inv X pins σ H s) (h : IsDc X.K H a tr) (hk : ∀ t ∈ tr, ∃ l, t.1 = KT.tup l) : tr.length ≤ sizeLine ∧ (a == sysModules) = false ∧ (tr.map (·.1)).Nodup ∧ ∃ us, RT tr us ∧ s.heap.DictOfH (tupleKind (atomKind X.prog X.w)) a us := by
  obtain ⟨z, hs, nd, o, es, ep, e1, e2, e3, e4⟩ := h.1.ok I.hok
  obtain ⟨us, r1, r2⟩ := ent_tups (P := X.prog) e4 hk
  have nd' := nd
  rw [r1.fst] at nd'
  refine ⟨by simpa using z, hs, nd, us, r1, o, es, ep, e1, e2, e3, r2, fun x hx => ?_, nodup_map (fun _ _ z => KT.tup.inj z) nd'⟩
  have all : ∀ {l : List T3} {m : List (List At × Addr × Value)}, RT l m → (∀ t ∈ l, KeyV X.K H t.1 t.2.1) → ∀ x ∈ m, (tupleKind (atomKind X.prog X.w)).is s.heap x.1 x.2.1 := by
    intro l m q
    induction q with
    | nil => intro _ x hx; exact nomatch hx
    | @cons t u ts us hq tl ih =>
      intro hl x hx
      rcases List.mem_cons.mp hx with e | hx
      · subst e
        have := hl t List.mem_cons_self
        rw [hq.1, hq.2.1] at this
        obtain ⟨p, ep, sq⟩ := this
        cases ep
        exact key_tup I sq
      · exact ih (fun t ht => hl t (List.mem_cons_of_mem _ ht)) x hx
  exact all r1 h.2 x hx
theorem RelO.to : ∀ {v : V} {o : Option Value}, RelO (some v) o → ∃ w, o = some w ∧ RelV v w
  | _, some w, h => ⟨w, rfl, h⟩
  | _, none, h => h.elim
theorem dc_getItem {Q : Value → Shared → Prop} (hu : A.units + 1 < cLine) (I : Inv X pins σ H s) (h : IsDc X.K H a tr) (hk : homK k tr) (ky : KeyV X.K H k y) (ry : RelV y u) (hv : val3 tr k = some v) (q : ∀ w' s', Inv X pins σ H s' → RelV v w' → Q w' s') :
    wpAny (model X.prog X.w) A (getItem (.ref a) u) Q E s := by
  cases k with
  | «at» b =>
    cases ky
    obtain ⟨z, hd, nd, us, rel, dd⟩ := dct_at I h hk
    have h1 := rel.val b
    rw [hv] at h1
    obtain ⟨w', hw, rw'⟩ := h1.to
    exact wpAny_getItem_of (knd := atomKind X.prog X.w) (atV_is ry) dd.mapOf hw (q w' _ (I.tok _) rw')
  | tup l =>
    obtain ⟨p, ep, sq⟩ := ky
    subst ep
    cases (show u = Value.ref p from ry)
    obtain ⟨z, hd, nd, us, rel, dd⟩ := dct_tup I h hk
    have h1 := rel.val l
    rw [hv] at h1
    obtain ⟨w', hw, rw'⟩ := h1.to
    obtain ⟨p', hp, hp2⟩ := Option.map_eq_some_iff.mp hw
    refine wpAny_getItem_heap (tupleKind_room_in1 hu) (key_tup I sq) dd hp ?_
    rw [hp2]
    exact q w' _ (I.tok _) rw'
theorem dc_in {Q : Value → Shared → Prop} (hu : A.units + 1 < cLine) (I : Inv X pins σ H s) (h : IsDc X.K H a tr) (hk : homK k tr) (ky : KeyV X.K H k y) (ry : RelV y u) (q : ∀ s', Inv X pins σ H s' → Q (.bool (val3 tr k).isSome) s') :
    wpAny (model X.prog X.w) A (compareOp .In u (.ref a)) Q E s := by
  cases k with
  | «at» b =>
    cases ky
    obtain ⟨z, hd, nd, us, rel, dd⟩ := dct_at I h hk
    refine wpAny_in_of (knd := atomKind X.prog X.w) (atV_is ry) hd dd.mapOf ?_
    rw [← (rel.val b).isS]
    exact q _ (I.tok _)
  | tup l =>
    obtain ⟨p, ep, sq⟩ := ky
    subst ep
    cases (show u = Value.ref p from ry)
    obtain ⟨z, hd, nd, us, rel, dd⟩ := dct_tup I h hk
    refine wpAny_in_heap (tupleKind_room_in1 hu) (key_tup I sq) hd dd ?_
    have e0 := (rel.val l).isS
    rw [Option.isSome_map] at e0
    rw [← e0]
    exact q _ (I.tok _)
theorem dc_notIn {Q : Value → Shared → Prop} (hu : A.units + 1 < cLine) (I : Inv X pins σ H s) (h : IsDc X.K H a tr) (hk : homK k tr) (ky : KeyV X.K H k y) (ry : RelV y u) (q : ∀ s', Inv X pins σ H s' → Q (.bool (!(val3 tr k).isSome)) s') :
    wpAny (model X.prog X.w) A (compareOp .NotIn u (.ref a)) Q E s := by
  cases k with
  | «at» b =>
    cases ky
    obtain ⟨z, hd, nd, us, rel, dd⟩ := dct_at I h hk
    refine wpAny_notIn_of (knd := atomKind X.prog X.w) (atV_is ry) hd dd.mapOf ?_
    rw [← (rel.val b).isS]
    exact q _ (I.tok _)
  | tup l =>
    obtain ⟨p, ep, sq⟩ := ky
    subst ep
    cases (show u = Value.ref p from ry)
    obtain ⟨z, hd, nd, us, rel, dd⟩ := dct_tup I h hk
    refine wpAny_notIn_heap (tupleKind_room_in1 hu) (key_tup I sq) hd dd ?_
    have e0 := (rel.val l).isS
    rw [Option.isSome_map] at e0
    rw [← e0]
    exact q _ (I.tok _)
theorem dc_write {h' : Heap} {t' : Nat} {ob : HO} (I : Inv X pins σ H s) (mu : Mut (H a)) (hs : Heap.SameBut a s.heap h') (he : ∃ q, h'.get? a = some q) (new : ObjOk X.prog X.w (upd H a ob) h' a ob) :
    Inv X pins σ (upd H a ob) { s with heap := h', toks := t' } :=
  I.write (x := a) (e := a) mu (.inl rfl) (fun b q hb z => (hs.2 b hb).trans z) he new
def dcO (tr : List T3) : HO := .dct (tr.map (·.1)) (flat3 tr)
theorem obj_at {P : Program} {w : World} {H' : Hp} {h' : Heap} {us : List (At × Value)} (z : tr.length ≤ sizeLine) (hd : (a == sysModules) = false) (nd : (tr.map (·.1)).Nodup) (rel : RA tr us) (dd : h'.DictOf (atomKind P w) a us) : ObjOk P w H' h' a (dcO tr) := by
  obtain ⟨o, es, ep, e1, e2, e3, e4, e5, e6⟩ := dd
  exact ⟨by simpa using z, hd, nd, o, es, ep, e1, e2, e3, atoms_ent rel e5 fun e he => e4 e (by simpa using he)⟩
theorem obj_tup {P : Program} {w : World} {H' : Hp} {h' : Heap} {us : List (List At × Addr × Value)} (z : tr.length ≤ sizeLine) (hd : (a == sysModules) = false) (nd : (tr.map (·.1)).Nodup) (rel : RT tr us) (dd : h'.DictOfH (tupleKind (atomKind P w)) a us) : ObjOk P w H' h' a (dcO tr) := by
  obtain ⟨o, es, ep, e1, e2, e3, e4, e5, e6⟩ := dd
  refine ⟨by simpa using z, hd, nd, o, es, ep, e1, e2, e3, ?_⟩
  rw [e4]
  exact tups_ent rel
theorem dc_setItem {Q : Unit → Shared → Prop} (hu : A.units + 1 < cLine) (I : Inv X pins σ H s) (e : H a = some (dcO tr)) (hkeys : ∀ t ∈ tr, KeyV X.K H t.1 t.2.1) (hk : homK k tr) (ky : KeyV X.K H k y) (ry : RelV y u) (rv : RelV v r) (hl : tr.length < sizeLine)
    (q : ∀ s', Inv X pins σ (upd H a (dcO (put3 tr k y v))) s' → Q () s') : wpAny (model X.prog X.w) A (setItem (.ref a) u r) Q E s := by
  have h : IsDc X.K H a tr := ⟨.inl e, hkeys⟩
  have hl' : (put3 tr k y v).length ≤ sizeLine := by have := put3_len tr k y v; omega
  cases k with
  | «at» b =>
    cases ky
    obtain ⟨z, hd, nd, us, rel, dd⟩ := dct_at I h hk
    have hz : us.length ≤ sizeLine := by rw [← Paired.length rel]; exact z
    refine wpAny_setItem_pairs (knd := atomKind X.prog X.w) (hsz := hz) (atV_is ry) dd fun h' dd' hs => q _ ?_
    have he : ∃ q, h'.get? a = some q := let ⟨q, _, _, hq, _⟩ := dd'; ⟨q, hq⟩
    exact dc_write I (by rw [e]; exact True.intro) hs he (obj_at hl' hd (put3_nodup nd) (rel.put rv) dd')
  | tup l =>
    obtain ⟨p, ep, sq⟩ := ky
    subst ep
    cases (show u = Value.ref p from ry)
    obtain ⟨z, hd, nd, us, rel, dd⟩ := dct_tup I h hk
    have hz : us.length ≤ sizeLine := by rw [← Paired.length rel]; exact z
    refine wpAny_setItem_heap (hsz := hz) (tupleKind_room_in1 hu) (key_tup I sq) dd fun h' dd' hs => q _ ?_
    have he : ∃ q, h'.get? a = some q := let ⟨q, _, _, hq, _⟩ := dd'; ⟨q, hq⟩
    exact dc_write I (by rw [e]; exact True.intro) hs he (obj_tup hl' hd (put3_nodup nd) (rel.put rv) dd')
end
end L2
set_option Elab.async false
set_option linter.all false
set_option maxRecDepth 100000
namespace PySem
section
variable {prog : Program} {w : World} {K : Type} [DecidableEq K] {knd : HeapKind prog w K} {A : Around} {E : Value → Shared → Prop} {s : Shared}
theorem cb_setDefault_heap {d a : Addr} {xs : List (K × Addr × Value)} {k : K} {v : Value} {Q : Value → Shared → Prop} (hu : knd.room A) (hkey : knd.is s.heap k a) (hm : s.heap.DictOfH knd d xs) (hsz : xs.length ≤ sizeLine)
    (h1 : ∀ p, atKey xs k = some p → Q p.2 { s with toks := s.toks + knd.draws k })
    (h2 : atKey xs k = none → ∀ h', h'.DictOfH knd d (storedH xs k a v) → Heap.SameBut d s.heap h' → Q v { s with heap := h', toks := s.toks + knd.draws k }) :
    wpAny (model prog w) A (dictSetDefault d (.ref a) v) Q E s := by
  obtain ⟨o, es, ep, ho, hc, hd, he, his, hn⟩ := hm
  unfold dictSetDefault
  try with_reducible refine wpAny_holding ?_
  refine wpAny_bind (knd.pyHash hu hkey ?_)
  refine wpAny_bind (wpAny_dictFind_heap (s := { s with toks := s.toks + knd.draws k }) hu hkey ho hd he his hn ?_ ?_)
  · intro hno
    have hnot : k ∉ xs.map (·.1) := not_mem_keys_of_get hno
    refine wpAny_bind (wpAny_rule (wpAny_bind (wpAny_updateDictKeys (hz := by have e := size_of_entries he; omega) (s := { s with toks := s.toks + knd.draws k }) ho hd (wpAny_pure (h2 (atKey_none_of_get hno) _ ⟨_, _, ep + 1, Heap.get?_update_self _ ho (Obj.isFreed_of_dict (Obj.data_mapDictKeys hd _)),
      hc.mapDictKeys _, Obj.data_mapDictKeys hd _, ?_, ?_, ?_⟩ (Heap.SameBut.update ..))))))
    · rw [storedH_new (atKey_none_of_get hno)]
      simp [he, entryOfKey]
    · rw [storedH_new (atKey_none_of_get hno)]
      intro x hx
      rcases List.mem_append.mp hx with hx | hx
      · exact knd.keeps (his x hx) ho hd (Heap.SameBut.update ..)
      · simp only [List.mem_singleton] at hx
        subst hx
        exact knd.keeps hkey ho hd (Heap.SameBut.update ..)
    · rw [storedH_new (atKey_none_of_get hno)]
      rw [List.map_append, List.nodup_append]
      refine ⟨hn, by simp, ?_⟩
      intro x hx y hy
      simp only [List.map_cons, List.map_nil, List.mem_singleton] at hy
      subst hy
      exact fun e => hnot (e ▸ hx)
  · intro j p hj
    refine wpAny_bind (wpAny_dictEntries (s := { s with toks := s.toks + knd.draws k }) ho hd ?_)
    rw [entry_at he j, hj]
    exact wpAny_bind (wpAny_rule (wpAny_pure (h1 p (atKey_of_get hn hj))))
theorem cb_meets_setdefault {k : K} {a : Addr} (d : Addr) (hd : (d == sysModules) = false) (dflt : Value) :
    MeetsIn prog w (Builtin.«dict.setdefault» ⟨[.ref d, .ref a, dflt], []⟩) (fun A R s => knd.room A.in1 ∧ ∃ xs, knd.is s.heap k a ∧ s.heap.DictOfH knd d xs ∧ xs.length ≤ sizeLine ∧
      (∀ p, atKey xs k = some p → R (.ok (.ret p.2)) { s with toks := s.toks + knd.draws k }) ∧
      (atKey xs k = none → ∀ h', h'.DictOfH knd d (storedH xs k a dflt) → Heap.SameBut d s.heap h' → R (.ok (.ret dflt)) { s with heap := h', toks := s.toks + knd.draws k })) :=
  .of_wp fun A R s ⟨hu, xs, hkey, hm, hz, h1, h2⟩ => by
    unfold Builtin.«dict.setdefault»
    refine wpAny_bind ?_
    unfold Builtin.Dict.keyAndDefault
    refine wpAny_bind (wpAny_notOrdered_dict hm.typeIs ?_)
    show wpAny _ _ (pure (d, Value.ref a, some dflt)) _ _ s
    refine wpAny_pure ?_
    show wpAny _ _ (if (d == sysModules) = true then _ else (dictSetDefault d (.ref a) dflt >>= _)) _ _ s
    rw [if_neg (by rw [hd]; exact Bool.false_ne_true)]
    exact wpAny_bind (cb_setDefault_heap hu hkey hm hz (fun p hp => wpAny_pure ⟨p.2, rfl, h1 p hp⟩) fun hn h' hm' hs' => wpAny_pure ⟨dflt, rfl, h2 hn h' hm' hs'⟩)
end
end PySem
namespace L2
open PySem PySem.Spec PyProof.Rows
def rIxDc (K : PySem.W.Frag) : R2 := fun x y H Q => ∃ a tr k v, x = .ref a ∧ IsDc K H a tr ∧ homK k tr ∧ KeyV K H k y ∧ val3 tr k = some v ∧ Q v H
def rInDc (K : PySem.W.Frag) (neg : Bool) : R2 := fun x y H Q => ∃ a tr k, y = .ref a ∧ IsDc K H a tr ∧ homK k tr ∧ KeyV K H k x ∧ Q (.bl (neg != (val3 tr k).isSome)) H
def rSetDc (K : PySem.W.Frag) : TSet := fun o i v H Q => ∃ a tr k, o = .ref a ∧ H a = some (dcO tr) ∧ (∀ t ∈ tr, KeyV K H t.1 t.2.1) ∧ homK k tr ∧ KeyV K H k i ∧ tr.length < sizeLine ∧ Q (upd H a (dcO (put3 tr k i v)))
def rDef (K : PySem.W.Frag) : V → List V → Hp → VK → Prop := fun x xs H Q => ∃ a tr k y z, x = .ref a ∧ xs = [y, z] ∧ H a = some (dcO tr) ∧ (∀ t ∈ tr, KeyV K H t.1 t.2.1) ∧ homK k tr ∧ KeyV K H k y ∧ tr.length < sizeLine ∧
  (∀ v, val3 tr k = some v → Q v H) ∧ (val3 tr k = none → Q z (upd H a (dcO (put3 tr k y z))))
theorem IsDc.typeIs {X : Cx} {pins : List (Addr × Obj)} {σ : St} {H : Hp} {s : Shared} {a : Addr} {tr : List T3} (I : Inv X pins σ H s) (h : IsDc X.K H a tr) : s.TypeIs (.ref a) "dict" := by
  obtain ⟨_, _, _, o, _, _, e, c, _⟩ := h.1.ok I.hok
  exact ⟨o, e, c.1⟩
section
variable {X : Cx}
theorem ix_dct (hu : X.A.units + 64 < cLine) : IxR X (rIxDc X.K) := by
  intro value slice pins s σ H x y v u Q I rx ry h hs
  obtain ⟨a, tr, k, z, rfl, hd, hk, ky, hv, q⟩ := h
  cases rx
  have hT := hd.typeIs I
  unfold subscriptTail
  refine wpAny_bind ?_
  rw [getitemInPython_of_ne hT.not_modules]
  refine wpAny_bind (wpAny_specialOf hT PySem.F.slot_dict_getitem.lookup ?_)
  have fin : wpAny (model X.prog X.w) X.A (subscripted slice false (.ref a) u) (fun r s₃ => wpAny (model X.prog X.w) X.A (letTemporaryGo value (.ref a) r >>= fun _ => pure r) (EP X pins σ Q) X.xe s₃) X.xe s := by
    rw [hs]
    exact wpAny_operating (dc_getItem (by omega) I hd hk ky ry hv fun w' s' I' rw' => wpAny_bind (wpAny_letTemporaryGo (wpAny_pure ⟨z, H, I', rw', q⟩)))
  first
    | exact wpAny_pure (wpAny_bind fin)
    | exact wpAny_bind (wpAny_pure (wpAny_bind fin))
    | exact wpAny_bind fin
theorem op_inDc (hu : X.A.units + 64 < cLine) : OpR X (compareOp .In) (rInDc X.K false) := by
  intro pins s σ H x y v u Q I rx ry h
  obtain ⟨a, tr, k, rfl, hd, hk, ky, q⟩ := h
  cases ry
  exact dc_in (by omega) I hd hk ky rx fun s' I' => ⟨.bl (val3 tr k).isSome, H, I', rfl, by simpa using q⟩
theorem op_ninDc (hu : X.A.units + 64 < cLine) : OpR X (compareOp .NotIn) (rInDc X.K true) := by
  intro pins s σ H x y v u Q I rx ry h
  obtain ⟨a, tr, k, rfl, hd, hk, ky, q⟩ := h
  cases ry
  exact dc_notIn (by omega) I hd hk ky rx fun s' I' => ⟨.bl (!(val3 tr k).isSome), H, I', rfl, by simpa using q⟩
theorem set_dct (hu : X.A.units + 64 < cLine) : PSet X (rSetDc X.K) := by
  intro pins s σ H o i v ov iv u Q I ro ri rv h
  obtain ⟨a, tr, k, rfl, e, hks, hk, ky, hl, q⟩ := h
  cases ro
  exact dc_setItem (by omega) I e hks hk ky ri rv hl fun s' I' => ⟨_, I', q⟩
theorem call_lenDc : CallR X (.builtin "len") (fun xs H Q => ∃ a tr, xs = [.ref a] ∧ IsDc X.K H a tr ∧ (∀ t ∈ tr, ∃ b, t.1 = KT.at b) ∧ Q (.int tr.length) H) := by
  intro pins s σ H xs us Q I r h
  obtain ⟨a, tr, rfl, hd, hk, q⟩ := h
  obtain ⟨u, rfl, rx⟩ := vals1 r
  cases rx
  obtain ⟨z, hs, nd, us, rel, dd⟩ := dct_at I hd hk
  have hn := line63
  refine call_len_dict (knd := atomKind X.prog X.w) hs dd (by rw [← Paired.length rel]; rw [sizeLine_eq] at z; omega) ?_
  rw [← Paired.length rel]
  exact ⟨.int _, H, I.tok _, ⟨_, rfl⟩, q⟩
theorem mt_setdefault (hu : X.A.units + 64 < cLine) : MtR X "dict.setdefault" (rDef X.K) := by
  intro pins s σ H x xs v us Q I rx rs h
  obtain ⟨a, tr, k, y, z, rfl, rfl, e, hks, hk, ky, hl, q1, q2⟩ := h
  cases rx
  obtain ⟨u1, u2, rfl, ry, rz⟩ := rs.two
  have hd : IsDc X.K H a tr := ⟨.inl e, hks⟩
  have hl' : (put3 tr k y z).length ≤ sizeLine := by have := put3_len tr k y z; omega
  cases k with
  | «at» b =>
    cases ky
    obtain ⟨zz, hs, nd, us, rel, dd⟩ := dct_at I hd hk
    have hz : us.length ≤ sizeLine := by rw [← Paired.length rel]; exact zz
    have h1 := rel.val b
    refine call_meetsIn PySem.F.slot_dict_setdefault dd.typeIs PySem.F.entry_dict_setdefault (PySem.F.args_dict_setdefault_3 _ _ _) (kt_meets_setdefault (atomKind X.prog X.w) a (atV_is ry) hs u2)
      ⟨us, dd, hz, fun v' hv' => ?_, fun hn h' dd' hs' => ?_⟩
    · rw [hv'] at h1
      cases hv : val3 tr (.at b) with
      | none => rw [hv] at h1; exact h1.elim
      | some w => rw [hv] at h1; exact ⟨w, H, I.tok _, h1, q1 w hv⟩
    · rw [hn] at h1
      cases hv : val3 tr (.at b) with
      | some w => rw [hv] at h1; exact h1.elim
      | none =>
        have he : ∃ q, h'.get? a = some q := let ⟨q, _, _, hq, _⟩ := dd'; ⟨q, hq⟩
        exact ⟨z, _, dc_write I (by rw [e]; exact True.intro) hs' he (obj_at hl' hs (put3_nodup nd) (rel.put rz) dd'), rz, q2 hv⟩
  | tup l =>
    obtain ⟨p, ep, sq⟩ := ky
    subst ep
    cases (show u1 = Value.ref p from ry)
    obtain ⟨zz, hs, nd, us, rel, dd⟩ := dct_tup I hd hk
    have hz : us.length ≤ sizeLine := by rw [← Paired.length rel]; exact zz
    have h1 := rel.val l
    refine call_meetsIn PySem.F.slot_dict_setdefault dd.typeIs PySem.F.entry_dict_setdefault (PySem.F.args_dict_setdefault_3 _ _ _) (cb_meets_setdefault (knd := tupleKind (atomKind X.prog X.w)) (k := l) a hs u2)
      ⟨tupleKind_room_in1 (by omega), us, key_tup I sq, dd, hz, fun p' hp' => ?_, fun hn h' dd' hs' => ?_⟩
    · rw [hp'] at h1
      cases hv : val3 tr (.tup l) with
      | none => rw [hv] at h1; exact h1.elim
      | some w => rw [hv] at h1; exact ⟨w, H, I.tok _, h1, q1 w hv⟩
    · rw [hn] at h1
      cases hv : val3 tr (.tup l) with
      | some w => rw [hv] at h1; exact h1.elim
      | none =>
        have he : ∃ q, h'.get? a = some q := let ⟨q, _, _, hq, _⟩ := dd'; ⟨q, hq⟩
        exact ⟨z, _, dc_write I (by rw [e]; exact True.intro) hs' he (obj_tup hl' hs (put3_nodup nd) (rel.put rz) dd'), rz, q2 hv⟩
theorem Inv.big (I : Inv X pins σ H s) : sysModules < s.heap.objs.size := by
  have h : mainGlobals < s.heap.objs.size := (I.mod.glob.keeps I.bk).lt
  exact Nat.lt_trans (by decide) h
theorem pe_dnew {pos : Pos} : PE X (.Dict [] [] pos) (fun _ H Q => ∀ p, H p = none → Q (.ref p) (upd H p (dcO []))) := fun pins s σ H Q I h =>
  wpAny_Dict_empty ⟨.ref s.heap.objs.size, _, I.laid (a := s.heap.objs.size) (o := dcO []) (t' := s.toks) (fun _ _ q => Heap.get?_push_of_some _ q) (Nat.le_refl _)
    ⟨Nat.zero_le _, beq_eq_false_iff_ne.mpr (Ne.symm (Nat.ne_of_lt I.big)), List.nodup_nil, _, #[], 0, Heap.get?_push_size _ rfl, ⟨rfl, rfl, rfl⟩, rfl, rfl, rfl⟩, rfl, h _ (I.hok.fresh (Nat.le_refl _))⟩
end
def okA : D → Option At
  | .non => some .non
  | .int i => some (.int i)
  | .str x => some (.str x)
  | _ => none
def okAs : List D → Option (List At)
  | [] => some []
  | d :: r => (okA d).bind fun a => (okAs r).map (a :: ·)
def okK : D → Option KT
  | .tup l => (okAs l).map KT.tup
  | d => (okA d).map KT.at
def aD : At → D
  | .non => .non
  | .int i => .int i
  | .str x => .str x
def kD : KT → D
  | .at a => aD a
  | .tup l => .tup (l.map aD)
theorem okA_inv {d : D} {a : At} (h : okA d = some a) : d = aD a := by
  unfold okA at h
  split at h <;> cases h <;> rfl
theorem okAs_inv : ∀ {l : List D} {as : List At}, okAs l = some as → l = as.map aD
  | [], _, h => by cases h; rfl
  | d :: r, as, h => by
    unfold okAs at h
    cases h1 : okA d with
    | none => rw [h1] at h; cases h
    | some a =>
      rw [h1] at h
      cases h2 : okAs r with
      | none => rw [h2] at h; cases h
      | some bs => rw [h2] at h; cases h; rw [List.map_cons, ← okA_inv h1, ← okAs_inv h2]
theorem okK_inv {d : D} {k : KT} (h : okK d = some k) : d = kD k := by
  unfold okK at h
  split at h
  · next l =>
    cases h1 : okAs l with
    | none => rw [h1] at h; cases h
    | some as => rw [h1] at h; cases h; rw [okAs_inv h1]; rfl
  · cases h1 : okA d with
    | none => rw [h1] at h; cases h
    | some a => rw [h1] at h; cases h; rw [okA_inv h1]; rfl
theorem okA_aD (a : At) : okA (aD a) = some a := by cases a <;> rfl
theorem okAs_map : ∀ (l : List At), okAs (l.map aD) = some l
  | [] => rfl
  | a :: l => by rw [List.map_cons]; unfold okAs; rw [okA_aD, okAs_map l]; rfl
@[simp] theorem okK_kD (k : KT) : okK (kD k) = some k := by
  cases k with
  | «at» a => cases a <;> rfl
  | tup l => show (okAs (l.map aD)).map KT.tup = _; rw [okAs_map]; rfl
@[simp] theorem okK_non : okK .non = some (.at .non) := rfl
@[simp] theorem okK_int (i : Int) : okK (.int i) = some (.at (.int i)) := rfl
@[simp] theorem okK_str (x : Str) : okK (.str x) = some (.at (.str x)) := rfl
theorem atOf_aD (a : At) : atOf (aD a) = a := by cases a <;> rfl
theorem ktOf_kD (k : KT) : ktOf (kD k) = k := by
  cases k with
  | «at» a => cases a <;> rfl
  | tup l =>
    unfold kD ktOf
    simp only [List.map_map, KT.tup.injEq]
    induction l with
    | nil => rfl
    | cons a l ih => rw [List.map_cons, ih]; simp [atOf_aD]
abbrev KDs := List (KT × D)
def flatD : KDs → List D
  | [] => []
  | p :: r => kD p.1 :: p.2 :: flatD r
def unf : List D → Option KDs
  | [] => some []
  | k :: v :: r => (okK k).bind fun kt => (unf r).map ((kt, v) :: ·)
  | _ => none
@[simp] theorem unf_flat : ∀ kvs : KDs, unf (flatD kvs) = some kvs
  | [] => rfl
  | p :: r => by unfold flatD unf; rw [okK_kD, unf_flat r]; rfl
@[simp] theorem unf_nil : unf [] = some [] := rfl
theorem unf_inv : ∀ {xs : List D} {kvs : KDs}, unf xs = some kvs → xs = flatD kvs
  | [], _, h => by cases h; rfl
  | [_], _, h => by cases h
  | k :: v :: r, kvs, h => by
    unfold unf at h
    cases h1 : okK k with
    | none => rw [h1] at h; cases h
    | some kt =>
      rw [h1] at h
      cases h2 : unf r with
      | none => rw [h2] at h; cases h
      | some q => rw [h2] at h; cases h; unfold flatD; rw [← okK_inv h1, ← unf_inv h2]
theorem kts_flat : ∀ kvs : KDs, ktsOf (flatD kvs) = kvs.map (·.1)
  | [] => rfl
  | p :: r => by unfold flatD ktsOf; rw [ktOf_kD, kts_flat r]; rfl
def valL : KDs → KT → Option D
  | [], _ => none
  | t :: r, k => if t.1 = k then some t.2 else valL r k
def repL : KDs → KT → D → KDs
  | [], _, _ => []
  | t :: r, k, v => (if t.1 = k then (t.1, v) else t) :: repL r k v
def putL (kvs : KDs) (k : KT) (v : D) : KDs := if (valL kvs k).isSome = true then repL kvs k v else kvs ++ [(k, v)]
def isAt : KT → Bool
  | .at _ => true
  | _ => false
def homL (k : KT) (kvs : KDs) : Bool := kvs.all fun p => isAt p.1 == isAt k
section
variable {K : PySem.W.Frag} {N : Fb} {H : Hp}
abbrev PD (K : PySem.W.Frag) (N : Fb) (H : Hp) : KDs → List T3 → Prop := Paired fun p t => p.1 = t.1 ∧ Den K N H (kD p.1) t.2.1 ∧ Den K N H p.2 t.2.2
theorem den_at {a : At} {v : V} (h : Den K N H (aD a) v) : v = atV a := by cases a <;> simpa only [aD, Den, atV] using h
theorem denL_at : ∀ {l : List At} {vs : List V}, DenL K N H (l.map aD) vs → vs = l.map atV
  | [], _, h => by simpa only [List.map_nil, DenL] using h
  | a :: l, vs, h => by
    simp only [List.map_cons, DenL] at h
    obtain ⟨v, r, e, h1, h2⟩ := h
    rw [e, den_at h1, denL_at h2]; rfl
theorem den_key {k : KT} {v : V} (h : Den K N H (kD k) v) : KeyV K H k v := by
  cases k with
  | «at» a => exact den_at h
  | tup l =>
    simp only [kD, Den] at h
    obtain ⟨p, vs, e, sq, hl⟩ := h
    rw [denL_at hl] at sq
    exact ⟨p, e, sq⟩
theorem denP_key {k : KT} {v : V} (h : DenP K N H (kD k) v) : Den K N H (kD k) v := by
  cases k with
  | «at» a => cases a <;> exact h
  | tup l => exact h
theorem pd_of : ∀ {kvs : KDs} {vs : List V}, DenL K N H (flatD kvs) vs → ∃ tr, vs = flat3 tr ∧ PD K N H kvs tr
  | [], vs, h => ⟨[], by simpa only [flatD, DenL, flat3] using h, .nil⟩
  | p :: r, vs, h => by
    simp only [flatD, DenL] at h
    obtain ⟨v, t, e, h1, v', t', e', h2, h3⟩ := h
    obtain ⟨tr, e2, q⟩ := pd_of h3
    exact ⟨(p.1, v, v') :: tr, by rw [e, e', e2]; rfl, .cons ⟨rfl, h1, h2⟩ q⟩
theorem PD.flat : ∀ {kvs : KDs} {tr : List T3}, PD K N H kvs tr → DenL K N H (flatD kvs) (flat3 tr)
  | _, _, .nil => DenL.nil
  | _, _, .cons ⟨_, h1, h2⟩ t => DenL.cons h1 (DenL.cons h2 (PD.flat t))
theorem PD.fst : ∀ {kvs : KDs} {tr : List T3}, PD K N H kvs tr → kvs.map (·.1) = tr.map (·.1)
  | _, _, .nil => rfl
  | _, _, .cons ⟨h1, _, _⟩ t => by rw [List.map_cons, List.map_cons, h1, PD.fst t]
theorem PD.keys : ∀ {kvs : KDs} {tr : List T3}, PD K N H kvs tr → ∀ t ∈ tr, KeyV K H t.1 t.2.1
  | _, _, .nil, _, h => nomatch h
  | _, _, .cons ⟨h1, h2, _⟩ t, x, hx => by
    rcases List.mem_cons.mp hx with rfl | hx
    · rw [← h1]; exact den_key h2
    · exact PD.keys t x hx
def RelD (K : PySem.W.Frag) (N : Fb) (H : Hp) : Option D → Option V → Prop
  | some d, some v => Den K N H d v
  | none, none => True
  | _, _ => False
theorem PD.val : ∀ {kvs : KDs} {tr : List T3}, PD K N H kvs tr → ∀ k, RelD K N H (valL kvs k) (val3 tr k)
  | _, _, .nil, _ => True.intro
  | p :: kvs, t :: tr, .cons ⟨h1, _, h2⟩ r, k => by
    have ih := PD.val r k
    unfold valL val3
    rw [h1]
    split
    · exact h2
    · exact ih
theorem RelD.isS : ∀ {o : Option D} {u : Option V}, RelD K N H o u → o.isSome = u.isSome
  | some _, some _, _ => rfl
  | none, none, _ => rfl
  | some _, none, h => h.elim
  | none, some _, h => h.elim
theorem PD.rep {k : KT} {d : D} {v : V} (hd : Den K N H d v) : ∀ {kvs : KDs} {tr : List T3}, PD K N H kvs tr → PD K N H (repL kvs k d) (rep3 tr k v)
  | _, _, .nil => .nil
  | p :: kvs, t :: tr, .cons ⟨h1, h2, h3⟩ r => by
    have ih := PD.rep (k := k) hd r
    unfold repL rep3
    rw [h1]
    refine .cons ?_ ih
    split
    · exact ⟨rfl, h1 ▸ h2, hd⟩
    · exact ⟨h1, h2, h3⟩
theorem PD.put {kvs : KDs} {tr : List T3} {k : KT} {d : D} {kv v : V} (h : PD K N H kvs tr) (hk : Den K N H (kD k) kv) (hd : Den K N H d v) : PD K N H (putL kvs k d) (put3 tr k kv v) := by
  unfold putL put3
  rw [(h.val k).isS]
  split
  · exact h.rep hd
  · exact Paired.snoc' ⟨rfl, hk, hd⟩ h
theorem PD.hom {k : KT} : ∀ {kvs : KDs} {tr : List T3}, PD K N H kvs tr → homL k kvs = true → homK k tr
  | _, _, .nil, _ => by cases k <;> exact fun _ h => nomatch h
  | p :: kvs, t :: tr, .cons ⟨h1, _, _⟩ r, e => by
    simp only [homL, List.all_cons, Bool.and_eq_true] at e
    have ih := PD.hom (k := k) r e.2
    have e1 := e.1
    rw [h1] at e1
    cases k with
    | «at» a =>
      intro x hx
      rcases List.mem_cons.mp hx with rfl | hx
      · cases hx : x.1 with
        | «at» b => exact ⟨b, rfl⟩
        | tup l => rw [hx] at e1; cases e1
      · exact ih x hx
    | tup l =>
      intro x hx
      rcases List.mem_cons.mp hx with rfl | hx
      · cases hx : x.1 with
        | «at» b => rw [hx] at e1; cases e1
        | tup l => exact ⟨l, rfl⟩
      · exact ih x hx
theorem dc_of {a : Addr} {kvs : KDs} {vs : List V} (h : Rd H a (.dct (ktsOf (flatD kvs)) vs)) (hd : DenL K N H (flatD kvs) vs) : ∃ tr, IsDc K H a tr ∧ PD K N H kvs tr := by
  obtain ⟨tr, e, p⟩ := pd_of hd
  subst e
  rw [kts_flat, p.fst] at h
  exact ⟨tr, ⟨h, p.keys⟩, p⟩
theorem co_flat {kvs : KDs} {tr : List T3} (p : PD K N H kvs tr) : CO true (flatD kvs) (flat3 tr) = dcO tr := by
  unfold CO dcO
  dsimp only
  rw [kts_flat, p.fst]
end
def dgetD : D → D → Option D
  | .lst xs true, y => (unf xs).bind fun kvs => (okK y).bind fun k => if homL k kvs then valL kvs k else none
  | _, _ => none
@[simp] theorem dgetD_flat (kvs : KDs) (y : D) : dgetD (.lst (flatD kvs) true) y = (okK y).bind fun k => if homL k kvs then valL kvs k else none := by simp [dgetD]
@[simp] theorem dgetD_nil (y : D) : dgetD (.lst [] true) y = (okK y).bind fun k => none := by simp [dgetD, valL]
def dinD (neg : Bool) : D → D → Option D
  | y, .lst xs true => (unf xs).bind fun kvs => (okK y).bind fun k => if homL k kvs then some (.bl (neg != (valL kvs k).isSome)) else none
  | _, _ => none
@[simp] theorem dinD_flat (neg : Bool) (kvs : KDs) (y : D) : dinD neg y (.lst (flatD kvs) true) = (okK y).bind fun k => if homL k kvs then some (.bl (neg != (valL kvs k).isSome)) else none := by simp [dinD]
@[simp] theorem dinD_nil (neg : Bool) (y : D) : dinD neg y (.lst [] true) = (okK y).bind fun k => some (.bl neg) := by simp [dinD, valL, homL]
section
variable {X : Cx} {K : PySem.W.Frag} {M : Fb} {H0 : Hp} {e a b : Expr} {f g : VE → Option D} {pos : Pos}
theorem r2_dix : R2D K (rIxDc K) dgetD := by
  intro N H x y d1 d2 d Q nh h1 h2 e q
  unfold dgetD at e
  split at e
  · next xs =>
    cases hu : unf xs with
    | none => rw [hu] at e; cases e
    | some kvs =>
      rw [hu] at e
      cases hk : okK d2 with
      | none => rw [hk] at e; cases e
      | some k =>
        rw [hk] at e
        have e : (if homL k kvs then valL kvs k else none) = some d := e
        split at e
        · next hh =>
          rw [unf_inv hu] at h1
          obtain ⟨p, vs, ep, r, hd⟩ := h1
          obtain ⟨tr, dc, pd⟩ := dc_of r hd
          rw [okK_inv hk] at h2
          have hv := pd.val k
          rw [e] at hv
          cases hw : val3 tr k with
          | none => rw [hw] at hv; exact hv.elim
          | some w => rw [hw] at hv; exact ⟨p, tr, k, w, ep, dc, pd.hom hh, den_key (denP_key h2), hw, q w H (Same.refl H) hv⟩
        · cases e
  · cases e
theorem r2_din {neg : Bool} : R2D K (rInDc K neg) (dinD neg) := by
  intro N H x y d1 d2 d Q nh h1 h2 e q
  unfold dinD at e
  split at e
  · next xs =>
    cases hu : unf xs with
    | none => rw [hu] at e; cases e
    | some kvs =>
      rw [hu] at e
      cases hk : okK d1 with
      | none => rw [hk] at e; cases e
      | some k =>
        rw [hk] at e
        have e : (if homL k kvs then some (D.bl (neg != (valL kvs k).isSome)) else none) = some d := e
        split at e
        · next hh =>
          cases e
          rw [unf_inv hu] at h2
          obtain ⟨p, vs, ep, r, hd⟩ := h2
          obtain ⟨tr, dc, pd⟩ := dc_of r hd
          rw [okK_inv hk] at h1
          refine ⟨p, tr, k, ep, dc, pd.hom hh, den_key (denP_key h1), ?_⟩
          rw [← (pd.val k).isS]
          exact q _ H (Same.refl H) den_bl
        · cases e
  · cases e
theorem ve_dix (hu : X.A.units + 64 < cLine) (ha : PE X a (tP X.K M H0 f)) (hb : PE X b (tP X.K M H0 g)) (hs : PlainIx b) : PE X (.Subscript a b pos) (tD X.K M H0 (bin2 dgetD f g)) := ve_ix (ix_dct hu) r2_dix ha hb hs
theorem j_ve_dix (hu : X.A.units + 64 < cLine) (ha : JE X a (tP X.K M H0 f)) (hb : JE X b (tP X.K M H0 g)) (hs : PlainIx b) : JE X (.Subscript a b pos) (tD X.K M H0 (bin2 dgetD f g)) := ⟨ve_dix hu ha.h hb.h hs⟩
theorem vtc_din (hu : X.A.units + 64 < cLine) (ha : PE X a (tP X.K M H0 f)) (hb : PE X b (tP X.K M H0 g)) (hm : behindInMarks .In b = false := by with_unfolding_all rfl) : PT X (.Compare a [.In] [b] pos) (tB' X.K M H0 fun ρ => asB (bin2 (dinD false) f g ρ)) := vt_cmp (op_inDc hu) r2_din ha hb hm
theorem j_vtc_din (hu : X.A.units + 64 < cLine) (ha : JE X a (tP X.K M H0 f)) (hb : JE X b (tP X.K M H0 g)) (hm : behindInMarks .In b = false := by with_unfolding_all rfl) : JT X (.Compare a [.In] [b] pos) (tB' X.K M H0 fun ρ => asB (bin2 (dinD false) f g ρ)) := ⟨vtc_din hu ha.h hb.h hm⟩
theorem vtc_dnin (hu : X.A.units + 64 < cLine) (ha : PE X a (tP X.K M H0 f)) (hb : PE X b (tP X.K M H0 g)) (hm : behindInMarks .NotIn b = false := by with_unfolding_all rfl) : PT X (.Compare a [.NotIn] [b] pos) (tB' X.K M H0 fun ρ => asB (bin2 (dinD true) f g ρ)) := vt_cmp (op_ninDc hu) r2_din ha hb hm
theorem j_vtc_dnin (hu : X.A.units + 64 < cLine) (ha : JE X a (tP X.K M H0 f)) (hb : JE X b (tP X.K M H0 g)) (hm : behindInMarks .NotIn b = false := by with_unfolding_all rfl) : JT X (.Compare a [.NotIn] [b] pos) (tB' X.K M H0 fun ρ => asB (bin2 (dinD true) f g ρ)) := ⟨vtc_dnin hu ha.h hb.h hm⟩
def dlenD : List D → Option D
  | [.lst xs true] => (unf xs).bind fun kvs => if kvs.all (fun p => isAt p.1) then some (.int kvs.length) else none
  | _ => none
@[simp] theorem dlenD_flat (kvs : KDs) : dlenD [.lst (flatD kvs) true] = if kvs.all (fun p => isAt p.1) then some (.int kvs.length) else none := by simp [dlenD]
theorem rc_dlen : RcD K (fun xs H Q => ∃ a tr, xs = [.ref a] ∧ IsDc K H a tr ∧ (∀ t ∈ tr, ∃ b, t.1 = KT.at b) ∧ Q (.int tr.length) H) dlenD := by
  intro N H vs ds d Q nh h e q
  unfold dlenD at e
  split at e
  · next xs =>
    cases hu : unf xs with
    | none => rw [hu] at e; cases e
    | some kvs =>
      rw [hu] at e
      have e : (if kvs.all (fun p => isAt p.1) then some (D.int kvs.length) else none) = some d := e
      split at e
      · next hh =>
        cases e
        obtain ⟨v, rfl, hv⟩ := Paired.one' h
        rw [unf_inv hu] at hv
        obtain ⟨p, ws, ep, r, hd⟩ := hv
        subst ep
        obtain ⟨tr, dc, pd⟩ := dc_of r hd
        refine ⟨p, tr, rfl, dc, pd.hom (k := .at .non) (by simpa [homL, isAt] using hh), ?_⟩
        rw [← Paired.length pd]
        exact q _ H (Same.refl H) den_int
      · cases e
  · cases e
theorem vd_new {pos : Pos} : PE X (.Dict [] [] pos) (tFb true K M H0 fun _ => some []) := pe_dnew.mono fun σ H Q ⟨ρ, xs, R, e, q⟩ p hp => by
  cases e
  exact tF_new (xs := []) (vs := []) (fl := true) (Same.refl H) hp DenL.nil q
theorem j_vd_new {pos : Pos} : JE X (.Dict [] [] pos) (tFb true K M H0 fun _ => some []) := ⟨vd_new⟩
def dputR (i : Nat) (ok ov : Option D) (ρ : VE) : Res := match rdG ρ i, ok, ov with
  | some xs, some y, some d => match unf xs, okK y with
    | some kvs, some k => if homL k kvs && decide (kvs.length < sizeLine) then .next (ρ.set i (.own (flatD (putL kvs k d)) true)) else .fail
    | _, _ => .fail
  | _, _, _ => .fail
theorem vs_dput {i : Nat} {x : Str} {vpos tpos pos : Pos} {ei e : Expr} {fi f : VE → Option D} (hu : X.A.units + 64 < cLine) (hi : PE X ei (tP X.K M H0 fi)) (he : PE X e (tD X.K M H0 f)) (hN : X.N[i]? = some x := by rfl)
    (hv : Vis X.env.scope x := by first | exact Or.inl rfl | exact Or.inr (Or.inl rfl) | exact Or.inr (Or.inr rfl)) (hd : (x == ("__debug__" : Str)) = false := by decide) (hcd : (x == ("__classdict__" : Str)) = false := by decide)
    (ha : ∀ v, assign (.Subscript (.Name x vpos) ei tpos) X.env v = (do
      let ov ← holding [v] (eval (.Name x vpos) X.env)
      let iv ← holding [v, ov] (eval ei X.env)
      standAt tpos
      holding [v, ov, iv] (setItem ov iv v)
      release [v, ov, iv] []) := by intro _; rfl)
    (hs : swapsWithSole [.Subscript (.Name x vpos) ei tpos] e pos.line X.env = pure false := by rfl) (hw : swappedStores [.Subscript (.Name x vpos) ei tpos] e X.env = pure none := by rfl)
    (h1 : (assignEach [.Subscript (.Name x vpos) ei tpos] X.env).map (·.2) = [assign (.Subscript (.Name x vpos) ei tpos) X.env] := by rfl) :
    PS X (.Assign [.Subscript (.Name x vpos) ei tpos] e pos) (tS X.K M H0 fun ρ => dputR i (fi ρ) (f ρ) ρ) := (ps_asg he (pg_sub (pe_var hN hv hd hcd) hi (set_dct hu) ha) hs hw h1).mono fun D' σ H ⟨ρ, R, q⟩ => by
  try dsimp only at q
  unfold dputR at q
  split at q
  · next xs y d hr hfi hf =>
    split at q
    · next kvs k hun hk =>
      split at q
      · next hh =>
        rw [Bool.and_eq_true, decide_eq_true_eq] at hh
        refine ⟨ρ, d, R, hf, fun v H1 s1 hv => ?_⟩
        have hi' := rdG_slot hr
        have R1 := R.st s1
        have ex := unf_inv hun
        subst ex
        obtain ⟨a, vs, e1, z1, z2, z3, z4⟩ := R1.slot i _ hi'
        have ha := join_some e1
        refine ⟨.ref a, ha, ρ, y, R1, hfi, fun w H2 s2 hw => ?_⟩
        have R2 := R1.st s2
        obtain ⟨tr, dc, pd⟩ := dc_of (K := X.K) (.inl (s2 _ _ z3)) (z4.same s2)
        obtain ⟨tr', e', pd'⟩ := pd_of (z4.same s2)
        subst e'
        rw [okK_inv hk] at hw
        have pp := pd'.put (k := k) (denP_key hw) (hv.same s2)
        obtain ⟨R3, S3⟩ := R2.chg (fl2 := true) (ys := flatD (putL kvs k d)) (ws := flat3 (put3 tr' k w v)) hi' ha pp.flat
        rw [co_flat pp] at R3 S3
        refine ⟨a, tr', k, rfl, ?_, pd'.keys, pd'.hom hh.1, den_key (denP_key hw), by rw [← Paired.length pd']; exact hh.2, q _ _ R3 ((Step.of_same (s1.trans s2)).trans S3)⟩
        rw [← co_flat pd']
        exact s2 _ _ z3
      · exact False.elim q
    · exact False.elim q
  · exact False.elim q
theorem j_vs_dput {i : Nat} {x : Str} {vpos tpos pos : Pos} {ei e : Expr} {fi f : VE → Option D} (hu : X.A.units + 64 < cLine) (hi : JE X ei (tP X.K M H0 fi)) (he : JE X e (tD X.K M H0 f)) (hN : X.N[i]? = some x := by rfl)
    (hv : Vis X.env.scope x := by first | exact Or.inl rfl | exact Or.inr (Or.inl rfl) | exact Or.inr (Or.inr rfl)) (hd : (x == ("__debug__" : Str)) = false := by decide) (hcd : (x == ("__classdict__" : Str)) = false := by decide)
    (ha : ∀ v, assign (.Subscript (.Name x vpos) ei tpos) X.env v = (do
      let ov ← holding [v] (eval (.Name x vpos) X.env)
      let iv ← holding [v, ov] (eval ei X.env)
      standAt tpos
      holding [v, ov, iv] (setItem ov iv v)
      release [v, ov, iv] []) := by intro _; rfl)
    (hs : swapsWithSole [.Subscript (.Name x vpos) ei tpos] e pos.line X.env = pure false := by rfl) (hw : swappedStores [.Subscript (.Name x vpos) ei tpos] e X.env = pure none := by rfl)
    (h1 : (assignEach [.Subscript (.Name x vpos) ei tpos] X.env).map (·.2) = [assign (.Subscript (.Name x vpos) ei tpos) X.env] := by rfl) :
    JS X (.Assign [.Subscript (.Name x vpos) ei tpos] e pos) (tS X.K M H0 fun ρ => dputR i (fi ρ) (f ρ) ρ) := ⟨vs_dput hu hi.h he.h hN hv hd hcd ha hs hw h1⟩
end
end L2
set_option Elab.async false
set_option linter.all false
set_option maxRecDepth 100000
namespace L2
open PySem PySem.Spec PyProof.Rows
theorem valL_rep (k : KT) (v : D) (k' : KT) : ∀ kvs : KDs, valL (repL kvs k v) k' = if k = k' then (valL kvs k').map (fun _ => v) else valL kvs k'
  | [] => by simp [repL, valL]
  | t :: r => by
    have ih := valL_rep k v k' r
    unfold repL valL
    by_cases h1 : t.1 = k
    · subst h1
      rw [if_pos rfl]
      by_cases h2 : t.1 = k'
      · subst h2; simp
      · simp only [if_neg h2, ih]
    · rw [if_neg h1]
      by_cases h2 : t.1 = k'
      · subst h2
        rw [if_pos rfl, if_neg (fun z => h1 z.symm), if_pos rfl]
      · rw [if_neg h2, ih, if_neg h2]
theorem valL_app (k : KT) : ∀ (a b : KDs), valL (a ++ b) k = match valL a k with | some v => some v | none => valL b k
  | [], b => by simp [valL]
  | t :: r, b => by
    have ih := valL_app k r b
    rw [List.cons_append]
    have e1 : valL (t :: (r ++ b)) k = if t.1 = k then some t.2 else valL (r ++ b) k := rfl
    have e2 : valL (t :: r) k = if t.1 = k then some t.2 else valL r k := rfl
    rw [e1, e2]
    by_cases h : t.1 = k
    · rw [if_pos h, if_pos h]
    · rw [if_neg h, if_neg h]; exact ih
theorem valL_put (kvs : KDs) (k : KT) (v : D) (k' : KT) : valL (putL kvs k v) k' = if k = k' then some v else valL kvs k' := by
  unfold putL
  by_cases h : (valL kvs k).isSome = true
  · rw [if_pos h, valL_rep]
    by_cases e : k = k'
    · subst e
      rw [if_pos rfl, if_pos rfl]
      cases hv : valL kvs k with
      | none => rw [hv] at h; cases h
      | some w => rfl
    · rw [if_neg e, if_neg e]
  · rw [if_neg h, valL_app]
    have hn : valL kvs k = none := by
      cases hv : valL kvs k with
      | none => rfl
      | some w => rw [hv] at h; exact absurd rfl h
    by_cases e : k = k'
    · subst e; rw [hn]; simp [valL]
    · rw [if_neg e]
      cases valL kvs k' with
      | none => simp [valL, e]
      | some w => rfl
theorem valL_mem {k : KT} {v : D} : ∀ {kvs : KDs}, valL kvs k = some v → (k, v) ∈ kvs
  | [], h => by cases h
  | t :: r, h => by
    unfold valL at h
    by_cases e : t.1 = k
    · rw [if_pos e] at h
      cases h
      subst e
      exact List.mem_cons_self
    · rw [if_neg e] at h
      exact List.mem_cons_of_mem _ (valL_mem h)
theorem repL_mem {k : KT} {v : D} {p : KT × D} : ∀ {kvs : KDs}, p ∈ repL kvs k v → p ∈ kvs ∨ p = (k, v)
  | [], h => nomatch h
  | t :: r, h => by
    unfold repL at h
    rcases List.mem_cons.mp h with hp | h
    · by_cases e : t.1 = k
      · rw [if_pos e, e] at hp; exact .inr hp
      · rw [if_neg e] at hp; subst hp; exact .inl List.mem_cons_self
    · rcases repL_mem h with h | h
      · exact .inl (List.mem_cons_of_mem _ h)
      · exact .inr h
theorem putL_mem {k : KT} {v : D} {p : KT × D} {kvs : KDs} (h : p ∈ putL kvs k v) : p ∈ kvs ∨ p = (k, v) := by
  unfold putL at h
  split at h
  · exact repL_mem h
  · rcases List.mem_append.mp h with h | h
    · exact .inl h
    · exact .inr (by simpa using h)
theorem repL_len (k : KT) (v : D) : ∀ kvs : KDs, (repL kvs k v).length = kvs.length
  | [] => rfl
  | t :: r => by simp [repL, repL_len k v r]
theorem putL_len (kvs : KDs) (k : KT) (v : D) : (putL kvs k v).length ≤ kvs.length + 1 := by
  unfold putL
  split
  · rw [repL_len]; omega
  · simp
theorem homL_at {kvs : KDs} (a : At) (h : ∀ p ∈ kvs, isAt p.1 = true) : homL (.at a) kvs = true := by
  unfold homL
  rw [List.all_eq_true]
  intro p hp
  rw [h p hp]; rfl
theorem allAt {kvs : KDs} (h : ∀ p ∈ kvs, isAt p.1 = true) : kvs.all (fun p => isAt p.1) = true := by
  rw [List.all_eq_true]; exact h
end L2
set_option Elab.async false
set_option linter.all false
set_option maxRecDepth 100000
namespace L2
open PySem PySem.Spec PyProof.Rows
def tX (K : PySem.W.Frag) (M : Fb) (H0 : Hp) (f : VE → Option (D × VE)) : TE := fun σ H Q => ∃ ρ d ρ', Rel K M H0 ρ σ H ∧ f ρ = some (d, ρ') ∧
  ∀ v H', Rel K M H0 ρ' σ H' → Step M (Nf M ρ σ) (Nf M ρ' σ) H H' → Den K (Nf M ρ' σ) H' d v → Q v H'
def sdX (i : Nat) (fk fv : VE → Option D) : VE → Option (D × VE) := fun ρ => match rdG ρ i, fk ρ, fv ρ with
  | some xs, some y, some d => match unf xs, okK y with
    | some kvs, some k => if homL k kvs && decide (kvs.length < sizeLine) then
        (match valL kvs k with
        | some v => some (v, ρ)
        | none => some (d, ρ.set i (.own (flatD (putL kvs k d)) true)))
      else none
    | _, _ => none
  | _, _, _ => none
section
variable {X : Cx} {K : PySem.W.Frag} {M : Fb} {H0 : Hp} {e a b ek ev : Expr} {f g fk fv : VE → Option D} {fx : VE → Option (D × VE)} {pos : Pos}
theorem vx_sd {i : Nat} {x : Str} {vpos apos cpos : Pos} (hu : X.A.units + 64 < cLine) (hk : PE X ek (tP X.K M H0 fk)) (hv' : PE X ev (tD X.K M H0 fv)) (hN : X.N[i]? = some x := by rfl) (hv : Vis X.env.scope x := by first | exact Or.inl rfl | exact Or.inr (Or.inl rfl) | exact Or.inr (Or.inr rfl)) (hd : (x == ("__debug__" : Str)) = false := by decide) (hcd : (x == ("__classdict__" : Str)) = false := by decide)
    (hbase : attributeBase (.Name x vpos) "setdefault" X.env (eval (.Name x vpos) X.env) = eval (.Name x vpos) X.env := by rfl)
    (hfew : ((backTo cpos (starEach [ek, ev] X.env)).all (fun x => !x.1) && (backToKw cpos (keywordEach [] X.env)).all (fun x => x.1.isSome)
      && decide ([ek, ev].length + ([] : List Keyword).length + (if ([] : List Keyword).isEmpty then 0 else 1) < 30)) = true := by rfl)
    (hline : (apos.endLine == cpos.line) = true := by rfl) (hst : starEach [ek, ev] X.env = (false, eval ek X.env) :: starEach [ev] X.env := by exact star_c (fun _ _ z => nomatch z)) (hst2 : starEach [ev] X.env = (false, eval ev X.env) :: starEach [] X.env := by exact star_c (fun _ _ z => nomatch z)) (hpl : (backTo cpos (starEach [ev] X.env)).any (·.1) = false := by rfl) :
    PE X (.Call (.Attribute (.Name x vpos) "setdefault" apos) [ek, ev] [] cpos) (tX X.K M H0 (sdX i fk fv)) :=
  (pe_bm PySem.F.plainAttrs_dict PySem.F.slot_dict_setdefault PySem.F.type_dict_setdefault (mt_setdefault hu) (pe_var hN hv hd hcd) (pa_cons hk (pa_cons hv' pa_nil hst2) hst) hbase hfew hline hst hpl).mono fun σ H Q ⟨ρ, d, ρ', R, ex, q⟩ => by
    unfold sdX at ex
    split at ex
    · next xs y dv hr hfk hfv =>
      split at ex
      · next kvs k hun hkk =>
        split at ex
        · next hh =>
          rw [Bool.and_eq_true, decide_eq_true_eq] at hh
          have hi' := rdG_slot hr
          have exs := unf_inv hun
          subst exs
          obtain ⟨a, vs, e1, z1, z2, z3, z4⟩ := R.slot i _ hi'
          have ha := join_some e1
          have tv : tyV X.K "dict" (.ref a) H := .inr (.inr (.inl ⟨rfl, .inr (.inr ⟨_, _, .inl z3⟩)⟩))
          refine ⟨.ref a, ha, tv, ρ, y, R, hfk, fun w H1 s1 hw => ⟨ρ, dv, R.st s1, hfv, fun v H2 s2 hv => ?_⟩⟩
          have s := s1.trans s2
          have R2 := R.st s
          obtain ⟨tr, e', pd⟩ := pd_of (z4.same s)
          subst e'
          rw [okK_inv hkk] at hw
          have hw2 := denP_key (hw.same s2)
          have hval := pd.val k
          refine ⟨a, tr, k, w, v, rfl, rfl, ?_, pd.keys, pd.hom hh.1, den_key hw2, by rw [← Paired.length pd]; exact hh.2, fun u hu' => ?_, fun hn => ?_⟩
          · rw [← co_flat pd]; exact s _ _ z3
          · rw [hu'] at hval
            cases hvl : valL kvs k with
            | none => rw [hvl] at hval; exact hval.elim
            | some d0 =>
              rw [hvl] at hval ex
              cases ex
              exact q u H2 R2 (Step.of_same s) hval
          · rw [hn] at hval
            cases hvl : valL kvs k with
            | some d0 => rw [hvl] at hval; exact hval.elim
            | none =>
              rw [hvl] at ex
              cases ex
              have pp := pd.put (k := k) hw2 hv
              obtain ⟨R3, S3⟩ := R2.chg (fl2 := true) (ys := flatD (putL kvs k d)) (ws := flat3 (put3 tr k w v)) hi' ha pp.flat
              rw [co_flat pp] at R3 S3
              exact q v _ R3 ((Step.of_same s).trans S3) (Den.step S3 d v hv)
        · cases ex
      · cases ex
    · cases ex
theorem j_vx_sd {i : Nat} {x : Str} {vpos apos cpos : Pos} (hu : X.A.units + 64 < cLine) (hk : JE X ek (tP X.K M H0 fk)) (hv' : JE X ev (tD X.K M H0 fv)) (hN : X.N[i]? = some x := by rfl) (hv : Vis X.env.scope x := by first | exact Or.inl rfl | exact Or.inr (Or.inl rfl) | exact Or.inr (Or.inr rfl)) (hd : (x == ("__debug__" : Str)) = false := by decide) (hcd : (x == ("__classdict__" : Str)) = false := by decide)
    (hbase : attributeBase (.Name x vpos) "setdefault" X.env (eval (.Name x vpos) X.env) = eval (.Name x vpos) X.env := by rfl)
    (hfew : ((backTo cpos (starEach [ek, ev] X.env)).all (fun x => !x.1) && (backToKw cpos (keywordEach [] X.env)).all (fun x => x.1.isSome)
      && decide ([ek, ev].length + ([] : List Keyword).length + (if ([] : List Keyword).isEmpty then 0 else 1) < 30)) = true := by rfl)
    (hline : (apos.endLine == cpos.line) = true := by rfl) (hst : starEach [ek, ev] X.env = (false, eval ek X.env) :: starEach [ev] X.env := by exact star_c (fun _ _ z => nomatch z)) (hst2 : starEach [ev] X.env = (false, eval ev X.env) :: starEach [] X.env := by exact star_c (fun _ _ z => nomatch z)) (hpl : (backTo cpos (starEach [ev] X.env)).any (·.1) = false := by rfl) :
    JE X (.Call (.Attribute (.Name x vpos) "setdefault" apos) [ek, ev] [] cpos) (tX X.K M H0 (sdX i fk fv)) := ⟨vx_sd hu hk.h hv'.h hN hv hd hcd hbase hfew hline hst hst2 hpl⟩
def dropX (o : Option (D × VE)) : Res := match o with
  | some (_, ρ') => .next ρ'
  | none => .fail
theorem vs_exprX (he : PE X e (tX K M H0 fx)) (hs : swapsWith e none pos.line X.env = pure false := by rfl) : PS X (.Expr e pos) (tS K M H0 fun ρ => dropX (fx ρ)) := (ps_expr he hs).mono fun D' σ H ⟨ρ, R, q⟩ => by
  try dsimp only at q
  cases hf : fx ρ with
  | none => rw [hf] at q; exact False.elim q
  | some p =>
    obtain ⟨d, ρ'⟩ := p
    rw [hf] at q
    exact ⟨ρ, d, ρ', R, hf, fun v H' R' S _ => q σ H' R' S⟩
theorem j_vs_exprX (he : JE X e (tX K M H0 fx)) (hs : swapsWith e none pos.line X.env = pure false := by rfl) : JS X (.Expr e pos) (tS K M H0 fun ρ => dropX (fx ρ)) := ⟨vs_exprX he.h hs⟩
def isBD : D → D → Option D
  | .bl i, .bl j => some (.bl (decide (i = j)))
  | _, _ => none
@[simp] theorem isBD_b (i j : Bool) : isBD (.bl i) (.bl j) = some (.bl (decide (i = j))) := rfl
def rInsert : V → List V → Hp → VK → Prop := fun x vs H Q => ∃ l xs k y, x = .ref l ∧ vs = [.int (k : Nat), y] ∧ H l = some (.lst xs) ∧ xs.length < sizeLine ∧ k ≤ xs.length ∧ Q .non (upd H l (.lst (xs.take k ++ y :: xs.drop k)))
theorem fits_idx (k : Nat) (h : k < 16777217) : ¬ (!Builtin.List.listFitsIndex (k : Int)) = true := by
  have e1 : Builtin.List.listFitsIndex (k : Int) = true := by
    unfold Builtin.List.listFitsIndex
    rw [Bool.and_eq_true, decide_eq_true_eq, decide_eq_true_eq]
    constructor <;> omega
  rw [e1]; decide
theorem mt_insert : MtR X "list.insert" rInsert := by
  intro pins s σ H x vs v us Q I rx rv h
  obtain ⟨l, xs, k, y, rfl, rfl, hH, hz, hk, q⟩ := h
  cases rx
  obtain ⟨u1, u2, rfl, r1, r2⟩ := rv.two
  obtain ⟨t, rfl⟩ := r1
  obtain ⟨z, its, n, r, hl, e⟩ := I.lstM hH
  have hsl : sizeLine = 16777216 := sizeLine_eq
  have hsz : its.toArray.size ≤ sizeLine := by rw [List.size_toArray]; omega
  have h1 : ¬ ((k : Int) < 0) := by omega
  have h2 : min k its.length = k := by omega
  have h3 : (xs.take k ++ y :: xs.drop k).length ≤ sizeLine := by simp; omega
  have hc := fits_idx k (by omega)
  have hms := @AutoListH.list_insert_list_int_val_1 l its.toArray n (k : Int) t u2 hc hsz
  generalize hk' : ((k : Nat) : Int) = kk at hms hc h1 ⊢
  refine call_meets F.slot_list_insert ⟨_, e, rfl⟩ F.entry_list_insert (F.args_list_insert_3 _ _ _) hms ⟨e, ?_⟩
  subst hk'
  refine ⟨.non, _, I.lset (its' := its.take k ++ u2 :: its.drop k) hH e ?_ ((r.take k).append (.cons r2 (r.drop k))) ?_, rfl, q⟩
  · simp only [if_neg h1, Int.toNat_natCast, List.size_toArray]
    rw [h2]
    apply Array.ext'
    simp
    exact List.take_of_length_le (by simp)
  · exact h3
def insR (i : Nat) (oi ov : Option D) (ρ : VE) : Res := match rdO ρ i, oi, ov with
  | some xs, some (.int k), some d => if 0 ≤ k ∧ k ≤ xs.length ∧ xs.length < sizeLine then .next (ρ.set i (.own (xs.take k.toNat ++ d :: xs.drop k.toNat))) else .fail
  | _, _, _ => .fail
theorem vs_insert {i : Nat} {x : Str} {vpos apos cpos : Pos} (hk : PE X ek (tP X.K M H0 fk)) (hv' : PE X ev (tD X.K M H0 fv)) (hN : X.N[i]? = some x := by rfl) (hv : Vis X.env.scope x := by first | exact Or.inl rfl | exact Or.inr (Or.inl rfl) | exact Or.inr (Or.inr rfl)) (hd : (x == ("__debug__" : Str)) = false := by decide) (hcd : (x == ("__classdict__" : Str)) = false := by decide)
    (hs : swapsWith (.Call (.Attribute (.Name x vpos) "insert" apos) [ek, ev] [] cpos) none pos.line X.env = pure false := by rfl)
    (hbase : attributeBase (.Name x vpos) "insert" X.env (eval (.Name x vpos) X.env) = eval (.Name x vpos) X.env := by rfl)
    (hfew : ((backTo cpos (starEach [ek, ev] X.env)).all (fun x => !x.1) && (backToKw cpos (keywordEach [] X.env)).all (fun x => x.1.isSome)
      && decide ([ek, ev].length + ([] : List Keyword).length + (if ([] : List Keyword).isEmpty then 0 else 1) < 30)) = true := by rfl)
    (hline : (apos.endLine == cpos.line) = true := by rfl) (hst : starEach [ek, ev] X.env = (false, eval ek X.env) :: starEach [ev] X.env := by exact star_c (fun _ _ z => nomatch z)) (hst2 : starEach [ev] X.env = (false, eval ev X.env) :: starEach [] X.env := by exact star_c (fun _ _ z => nomatch z)) (hpl : (backTo cpos (starEach [ev] X.env)).any (·.1) = false := by rfl) :
    PS X (.Expr (.Call (.Attribute (.Name x vpos) "insert" apos) [ek, ev] [] cpos) pos) (tS X.K M H0 fun ρ => insR i (fk ρ) (fv ρ) ρ) :=
  (ps_expr (pe_bm PySem.F.plainAttrs_list PySem.F.slot_list_insert PySem.F.type_list_insert mt_insert (pe_var hN hv hd hcd) (pa_cons hk (pa_cons hv' pa_nil hst2) hst) hbase hfew hline hst hpl) hs).mono fun D' σ H ⟨ρ, R, q⟩ => by
    try dsimp only at q
    unfold insR at q
    split at q
    · next xs k d hr hfk hfv =>
      split at q
      · next hh =>
        have hi := rdO_slot hr
        obtain ⟨a, vs, e1, z1, z2, z3, z4⟩ := R.slot i _ hi
        have ha := join_some e1
        refine ⟨.ref a, ha, .inl ⟨rfl, vs, .inl (.inl z3)⟩, ρ, .int k, R, hfk, fun w H1 s1 hw => ⟨ρ, d, R.st s1, hfv, fun v H2 s2 hv => ?_⟩⟩
        have s := s1.trans s2
        have R2 := R.st s
        have z4' := z4.same s
        obtain ⟨R3, S3⟩ := R2.chg (fl2 := false) (ys := xs.take k.toNat ++ d :: xs.drop k.toNat) (ws := vs.take k.toNat ++ v :: vs.drop k.toNat) hi ha ((z4'.take _).append (DenL.cons hv (z4'.drop _)))
        have hl := z4.length
        refine ⟨a, vs, k.toNat, v, rfl, by rw [hw.int, Int.toNat_of_nonneg hh.1], s _ _ z3, by omega, by omega, q _ _ R3 ((Step.of_same s).trans S3)⟩
      · exact False.elim q
    · exact False.elim q
theorem j_vs_insert {i : Nat} {x : Str} {vpos apos cpos : Pos} (hk : JE X ek (tP X.K M H0 fk)) (hv' : JE X ev (tD X.K M H0 fv)) (hN : X.N[i]? = some x := by rfl) (hv : Vis X.env.scope x := by first | exact Or.inl rfl | exact Or.inr (Or.inl rfl) | exact Or.inr (Or.inr rfl)) (hd : (x == ("__debug__" : Str)) = false := by decide) (hcd : (x == ("__classdict__" : Str)) = false := by decide)
    (hs : swapsWith (.Call (.Attribute (.Name x vpos) "insert" apos) [ek, ev] [] cpos) none pos.line X.env = pure false := by rfl)
    (hbase : attributeBase (.Name x vpos) "insert" X.env (eval (.Name x vpos) X.env) = eval (.Name x vpos) X.env := by rfl)
    (hfew : ((backTo cpos (starEach [ek, ev] X.env)).all (fun x => !x.1) && (backToKw cpos (keywordEach [] X.env)).all (fun x => x.1.isSome)
      && decide ([ek, ev].length + ([] : List Keyword).length + (if ([] : List Keyword).isEmpty then 0 else 1) < 30)) = true := by rfl)
    (hline : (apos.endLine == cpos.line) = true := by rfl) (hst : starEach [ek, ev] X.env = (false, eval ek X.env) :: starEach [ev] X.env := by exact star_c (fun _ _ z => nomatch z)) (hst2 : starEach [ev] X.env = (false, eval ev X.env) :: starEach [] X.env := by exact star_c (fun _ _ z => nomatch z)) (hpl : (backTo cpos (starEach [ev] X.env)).any (·.1) = false := by rfl) :
    JS X (.Expr (.Call (.Attribute (.Name x vpos) "insert" apos) [ek, ev] [] cpos) pos) (tS X.K M H0 fun ρ => insR i (fk ρ) (fv ρ) ρ) := ⟨vs_insert hk.h hv'.h hN hv hd hcd hs hbase hfew hline hst hst2 hpl⟩
end
end L2
set_option Elab.async false
set_option linter.all false
set_option maxRecDepth 100000
namespace L2
open PySem PySem.Spec PyProof.Rows
section
variable {X : Cx} {K : PySem.W.Frag}
noncomputable def zfillD (z : Str) : List D → Option D
  | [.int i] => gd (0 ≤ i ∧ i < 1000000) (some (.str (Txt.zfill z i)))
  | _ => none
@[simp] theorem zfillD_eq (z : Str) (i : Int) (h0 : 0 ≤ i) (h1 : i < 1000000) : zfillD z [.int i] = some (.str (Txt.zfill z i)) := by
  unfold zfillD
  exact gd_pos ⟨h0, h1⟩
@[simp] def startswithD (z : Str) : List D → Option D
  | [.str y] => some (.bl (Txt.startswith z y))
  | _ => none
end
end L2
set_option Elab.async false
set_option linter.all false
set_option maxRecDepth 100000
namespace L2
open PySem PySem.Spec PyProof.Rows PySem.W
section
variable (lt : Nat → Nat → Bool)
structure WO (n : Nat) : Prop where
  asym : ∀ a b, a < n → b < n → lt a b = true → lt b a = false
  neg : ∀ a b c, a < n → b < n → c < n → lt a c = true → lt a b = true ∨ lt b c = true
def le' (a b : Nat) : Prop := lt b a = false
end
section
variable {lt : Nat → Nat → Bool} {n : Nat} (W : WO lt n)
include W
theorem WO.refl {a : Nat} (ha : a < n) : le' lt a a := by
  unfold le'
  cases h : lt a a with
  | false => rfl
  | true => have := W.asym a a ha ha h; rw [h] at this; cases this
theorem WO.trans {a b c : Nat} (ha : a < n) (hb : b < n) (hc : c < n) (h1 : le' lt a b) (h2 : le' lt b c) : le' lt a c := by
  unfold le' at *
  cases h : lt c a with
  | false => rfl
  | true =>
    rcases W.neg c b a hc hb ha h with z | z
    · rw [z] at h2; cases h2
    · rw [z] at h1; cases h1
theorem WO.of_lt {a b : Nat} (ha : a < n) (hb : b < n) (h : lt a b = true) : le' lt a b := W.asym a b ha hb h
end
abbrev pvA (p : Array Nat) (i : Nat) : Nat := p.getD i 0
def SoTo (lt : Nat → Nat → Bool) (p : Array Nat) (k : Nat) : Prop := ∀ i j, i ≤ j → j < k → le' lt (pvA p i) (pvA p j)
def NoInc (lt : Nat → Nat → Bool) (p : Array Nat) (k : Nat) : Prop := ∀ i j, i ≤ j → j < k → le' lt (pvA p j) (pvA p i)
def Eqv (lt : Nat → Nat → Bool) (a b : Nat) : Prop := le' lt a b ∧ le' lt b a
def Bs (n : Nat) (p : Array Nat) : Prop := p.Perm (List.range n).toArray
theorem Bs.size {n : Nat} {p : Array Nat} (h : Bs n p) : p.size = n := by have := h.size_eq; simpa using this
theorem Bs.lt {n : Nat} {p : Array Nat} (h : Bs n p) {i : Nat} (hi : i < n) : pvA p i < n := by
  have hs := h.size
  have hi' : i < p.size := by omega
  have hm : p[i] ∈ p := Array.getElem_mem hi'
  have := (h.mem_iff (a := p[i])).mp hm
  simp at this
  unfold pvA
  rw [Array.getD_eq_getD_getElem?, Array.getElem?_eq_getElem hi']
  exact this
theorem pvA_of {p q : Array Nat} {i j : Nat} (h : p[i]? = q[j]?) : pvA p i = pvA q j := by
  unfold pvA
  rw [Array.getD_eq_getD_getElem?, Array.getD_eq_getD_getElem?, h]
theorem pvA_rev {p : Array Nat} {i j : Nat} (hj : j ≤ p.size) (k : Nat) : pvA (kas_rev p i j) k = if i ≤ k ∧ k < j then pvA p (i + j - 1 - k) else pvA p k := by
  have := getElem?_mirror_all (xs := p) (i := i) (j := j) hj k
  by_cases h : i ≤ k ∧ k < j
  · rw [if_pos h] at this ⊢; exact pvA_of this
  · rw [if_neg h] at this ⊢; exact pvA_of this
theorem pvA_bub {p : Array Nat} {k d : Nat} (hk : k < p.size) (hd : d ≤ k) (i : Nat) : pvA (bubble p k d) i = if i = k - d then pvA p k else if k - d < i ∧ i ≤ k then pvA p (i - 1) else pvA p i := by
  have := getElem?_bubble (xs := p) (src := k) hk d hd i
  by_cases h : i = k - d
  · rw [if_pos h] at this ⊢; exact pvA_of this
  · rw [if_neg h] at this ⊢
    by_cases h2 : k - d < i ∧ i ≤ k
    · rw [if_pos h2] at this ⊢; exact pvA_of this
    · rw [if_neg h2] at this ⊢; exact pvA_of this
theorem Bs.rev {n : Nat} {p : Array Nat} (h : Bs n p) (i j : Nat) : Bs n (kas_rev p i j) := (mirror_perm p i j _).trans h
theorem Bs.bub {n : Nat} {p : Array Nat} (h : Bs n p) (k d : Nat) : Bs n (bubble p k d) := (bubble_perm p k d).trans h
section
variable {lt : Nat → Nat → Bool} {n : Nat} (W : WO lt n) {cmp : Nat → Nat → (Bool → Shared → Prop) → Shared → Prop} {s : Shared} (hc : ∀ i j C, i < n → j < n → C (lt i j) s → cmp i j C s)
include W hc
theorem asc_ok {p : Array Nat} (hp : Bs n p) : ∀ (f m : Nat) {Q : Nat → Shared → Prop}, 1 ≤ m → m + f ≤ n → SoTo lt p m → (∀ m', m ≤ m' → m' ≤ m + f → SoTo lt p m' → (m' = m + f ∨ lt (pvA p m') (pvA p (m' - 1)) = true) → Q m' s) → KasT.kasWp cmp (kas_asc p f m) Q s
  | 0, m, Q, h1, h2, h3, q => by
    rw [kas_asc, KasT.kasWp]
    exact q m (Nat.le_refl _) (by omega) h3 (.inl rfl)
  | f + 1, m, Q, h1, h2, h3, q => by
    rw [kas_asc, KasT.kasWp]
    refine hc _ _ _ (hp.lt (by omega)) (hp.lt (by omega)) ?_
    cases hb : lt (pvA p m) (pvA p (m - 1)) with
    | true =>
      simp only [if_true, KasT.kasWp]
      exact q m (Nat.le_refl _) (by omega) h3 (.inr hb)
    | false =>
      simp only [Bool.false_eq_true, if_false]
      refine asc_ok hp f (m + 1) (by omega) (by omega) (fun i j hij hj => ?_) fun m' a b c d => q m' (by omega) (by omega) c (by rcases d with d | d; exact .inl (by omega); exact .inr d)
      rcases Nat.lt_or_ge j m with z | z
      · exact h3 i j hij z
      · have e : j = m := by omega
        subst e
        rcases Nat.lt_or_ge i j with y | y
        · exact W.trans (hp.lt (by omega)) (hp.lt (i := j - 1) (by omega)) (hp.lt (by omega)) (h3 i (j - 1) (by omega) (by omega)) hb
        · have e : i = j := by omega
          subst e
          exact W.refl (hp.lt (by omega))
theorem rev_eqv {p : Array Nat} (hp : Bs n p) {i j : Nat} (hij : i < j) (hj : j ≤ n) (he : ∀ k, i ≤ k → k < j → Eqv lt (pvA p k) (pvA p (j - 1))) (k : Nat) (hk : k < n) : Eqv lt (pvA (kas_rev p i j) k) (pvA p k) := by
  rw [pvA_rev (by rw [hp.size]; exact hj)]
  by_cases h : i ≤ k ∧ k < j
  · rw [if_pos h]
    have a := he (i + j - 1 - k) (by omega) (by omega)
    have b := he k h.1 h.2
    exact ⟨W.trans (hp.lt (by omega)) (hp.lt (by omega)) (hp.lt (by omega)) a.1 b.2, W.trans (hp.lt (by omega)) (hp.lt (by omega)) (hp.lt (by omega)) b.1 a.2⟩
  · rw [if_neg h]
    exact ⟨W.refl (hp.lt hk), W.refl (hp.lt hk)⟩
theorem noInc_eqv {p q : Array Nat} (hp : Bs n p) (hq : Bs n q) {k : Nat} (hk : k ≤ n) (he : ∀ i, i < n → Eqv lt (pvA q i) (pvA p i)) (h : NoInc lt p k) : NoInc lt q k := fun i j hij hj =>
  W.trans (hq.lt (by omega)) (hp.lt (i := j) (by omega)) (hq.lt (by omega)) (he j (by omega)).1 (W.trans (hp.lt (by omega)) (hp.lt (i := i) (by omega)) (hq.lt (by omega)) (h i j hij hj) (he i (by omega)).2)
theorem desc_ok : ∀ (f : Nat) (p : Array Nat) (m q : Nat) {Q : Array Nat × Nat × Nat → Shared → Prop}, Bs n p → 1 ≤ m → m + f ≤ n → q + 1 ≤ m → NoInc lt p m → (∀ i, m - (q + 1) ≤ i → i < m → Eqv lt (pvA p i) (pvA p (m - 1))) →
    (∀ p' m' q', Bs n p' → m ≤ m' → m' ≤ m + f → q' + 1 ≤ m' → NoInc lt p' m' → (∀ i, m' - (q' + 1) ≤ i → i < m' → Eqv lt (pvA p' i) (pvA p' (m' - 1))) → Q (p', m', q') s) → KasT.kasWp cmp (kas_desc f p m q) Q s
  | 0, p, m, q, Q, hp, h1, h2, h3, h4, h5, hq => by
    rw [kas_desc, KasT.kasWp]
    exact hq p m q hp (Nat.le_refl _) (by omega) h3 h4 h5
  | f + 1, p, m, q, Q, hp, h1, h2, h3, h4, h5, hq => by
    rw [kas_desc, KasT.kasWp]
    refine hc _ _ _ (hp.lt (by omega)) (hp.lt (by omega)) ?_
    have step : ∀ (p' : Array Nat), Bs n p' → NoInc lt p' m → le' lt (pvA p' m) (pvA p' (m - 1)) → NoInc lt p' (m + 1) := fun p' hp' h hb i j hij hj => by
      rcases Nat.lt_or_ge j m with z | z
      · exact h i j hij z
      · have e : j = m := by omega
        subst e
        rcases Nat.lt_or_ge i j with y | y
        · exact W.trans (hp'.lt (by omega)) (hp'.lt (i := j - 1) (by omega)) (hp'.lt (by omega)) hb (h i (j - 1) (by omega) (by omega))
        · have e : i = j := by omega
          subst e
          exact W.refl (hp'.lt (by omega))
    cases hb : lt (pvA p m) (pvA p (m - 1)) with
    | true =>
      have hle := W.of_lt (hp.lt (by omega)) (hp.lt (by omega)) hb
      simp only [if_true]
      have one : ∀ (p' : Array Nat), Bs n p' → ∀ i, m + 1 - (0 + 1) ≤ i → i < m + 1 → Eqv lt (pvA p' i) (pvA p' (m + 1 - 1)) := fun p' hp' i a b => by
        have e : i = m := by omega
        subst e
        exact ⟨W.refl (hp'.lt (by omega)), W.refl (hp'.lt (by omega))⟩
      by_cases h0 : q > 0
      · simp only [h0, if_true]
        have hp' := hp.rev (m - (q + 1)) m
        have hev := rev_eqv W hc hp (i := m - (q + 1)) (j := m) (by omega) (by omega) h5
        have hni := noInc_eqv W hc hp hp' (k := m) (by omega) (fun i hi => hev i hi) h4
        have em : pvA (kas_rev p (m - (q + 1)) m) m = pvA p m := by rw [pvA_rev (by rw [hp.size]; omega), if_neg (by omega)]
        have hle' : le' lt (pvA (kas_rev p (m - (q + 1)) m) m) (pvA (kas_rev p (m - (q + 1)) m) (m - 1)) := by
          rw [em]
          exact W.trans (hp.lt (by omega)) (hp.lt (by omega)) (hp'.lt (by omega)) hle (hev (m - 1) (by omega)).2
        exact desc_ok f _ (m + 1) 0 hp' (by omega) (by omega) (by omega) (step _ hp' hni hle') (one _ hp') fun p2 m2 q2 a b c d e g => hq p2 m2 q2 a (by omega) (by omega) d e g
      · simp only [h0, if_false]
        exact desc_ok f _ (m + 1) 0 hp (by omega) (by omega) (by omega) (step _ hp h4 hle) (one _ hp) fun p2 m2 q2 a b c d e g => hq p2 m2 q2 a (by omega) (by omega) d e g
    | false =>
      simp only [Bool.false_eq_true, if_false, KasT.kasWp]
      refine hc _ _ _ (hp.lt (by omega)) (hp.lt (by omega)) ?_
      cases hd : lt (pvA p (m - 1)) (pvA p m) with
      | true =>
        simp only [if_true, KasT.kasWp]
        exact hq p m q hp (Nat.le_refl _) (by omega) h3 h4 h5
      | false =>
        simp only [Bool.false_eq_true, if_false]
        refine desc_ok f _ (m + 1) (q + 1) hp (by omega) (by omega) (by omega) (step _ hp h4 hd) (fun i a b => ?_) fun p2 m2 q2 a b c d e g => hq p2 m2 q2 a (by omega) (by omega) d e g
        show Eqv lt (pvA p i) (pvA p m)
        rcases Nat.lt_or_ge i m with z | z
        · have := h5 i (by omega) z
          exact ⟨W.trans (hp.lt (by omega)) (hp.lt (i := m - 1) (by omega)) (hp.lt (by omega)) this.1 hb, W.trans (hp.lt (by omega)) (hp.lt (i := m - 1) (by omega)) (hp.lt (by omega)) hd this.2⟩
        · have e : i = m := by omega
          subst e
          exact ⟨W.refl (hp.lt (by omega)), W.refl (hp.lt (by omega))⟩
theorem tail3_ok {p : Array Nat} {m nr : Nat} {Q : Nat × Array Nat → Shared → Prop} (hp : Bs n p) (h1 : 1 ≤ m) (h2 : m ≤ nr) (h3 : nr ≤ n) (h4 : NoInc lt p m)
    (q : ∀ m' p', Bs n p' → 1 ≤ m' → m' ≤ nr → SoTo lt p' m' → Q (m', p') s) : KasT.kasWp cmp (kas_tail3 m nr p) Q s := by
  unfold kas_tail3
  rw [KasT.kasWp_bind]
  have hp' := hp.rev 0 m
  refine asc_ok W hc hp' (nr - m) m h1 (by omega) (fun i j hij hj => ?_) fun m' a b c _ => ?_
  · rw [pvA_rev (by rw [hp.size]; omega), pvA_rev (by rw [hp.size]; omega), if_pos (by omega), if_pos (by omega)]
    exact h4 (0 + m - 1 - j) (0 + m - 1 - i) (by omega) (by omega)
  · rw [KasT.kasWp]
    exact q m' _ hp' (by omega) (by omega) c
theorem descPart_ok {p : Array Nat} {m nr : Nat} {Q : Nat × Array Nat → Shared → Prop} (hp : Bs n p) (h2 : m + 1 ≤ nr) (h3 : nr ≤ n) (h4 : NoInc lt p (m + 1))
    (q : ∀ m' p', Bs n p' → 1 ≤ m' → m' ≤ nr → SoTo lt p' m' → Q (m', p') s) : KasT.kasWp cmp (kas_descPart m nr p) Q s := by
  unfold kas_descPart
  rw [KasT.kasWp_bind]
  refine desc_ok W hc (nr - (m + 1)) p (m + 1) 0 hp (by omega) (by omega) (by omega) h4 (fun i a b => ?_) fun p' m' q' a b c d e g => ?_
  · have e : i = m := by omega
    subst e
    exact ⟨W.refl (hp.lt (by omega)), W.refl (hp.lt (by omega))⟩
  · by_cases h0 : q' > 0
    · simp only [h0, if_true]
      exact tail3_ok W hc (a.rev _ _) (by omega) (by omega) h3 (noInc_eqv W hc a (a.rev _ _) (by omega) (fun i hi => rev_eqv W hc a (by omega) (by omega) g i hi) e) q
    · simp only [h0, if_false]
      exact tail3_ok W hc a (by omega) (by omega) h3 e q
theorem count_ok {p : Array Nat} {Q : Nat × Array Nat → Shared → Prop} (hp : Bs n p) (h1 : 1 ≤ n) (q : ∀ m' p', Bs n p' → 1 ≤ m' → m' ≤ n → SoTo lt p' m' → Q (m', p') s) : KasT.kasWp cmp (kas_count n p) Q s := by
  unfold kas_count
  rw [KasT.kasWp_bind]
  refine asc_ok W hc hp (n - 1) 1 (by omega) (by omega) (fun i j hij hj => ?_) fun m a b c d => ?_
  · have e : i = 0 := by omega
    have e2 : j = 0 := by omega
    subst e e2
    exact W.refl (hp.lt (by omega))
  · by_cases hm : m = n
    · subst hm
      simp only [beq_self_eq_true, if_true, KasT.kasWp]
      exact q m p hp a (by omega) c
    · have hb : (m == n) = false := by simpa using hm
      have hlt : lt (pvA p m) (pvA p (m - 1)) = true := by
        rcases d with d | d
        · exact absurd (by omega) hm
        · exact d
      simp only [hb, Bool.false_eq_true, if_false]
      have desc : ∀ (p' : Array Nat), Bs n p' → (∀ i, i < m → Eqv lt (pvA p' i) (pvA p' (m - 1))) → lt (pvA p' m) (pvA p' (m - 1)) = true → KasT.kasWp cmp (kas_descPart m n p') Q s := fun p' hp' he hl =>
        descPart_ok W hc hp' (by omega) (by omega) (fun i j hij hj => by
          rcases Nat.lt_or_ge j m with z | z
          · exact W.trans (hp'.lt (by omega)) (hp'.lt (i := m - 1) (by omega)) (hp'.lt (by omega)) (he j z).1 (he i (by omega)).2
          · have e : j = m := by omega
            subst e
            rcases Nat.lt_or_ge i j with y | y
            · exact W.trans (hp'.lt (by omega)) (hp'.lt (i := j - 1) (by omega)) (hp'.lt (by omega)) (W.of_lt (hp'.lt (by omega)) (hp'.lt (by omega)) hl) (he i y).2
            · have e : i = j := by omega
              subst e
              exact W.refl (hp'.lt (by omega))) q
      by_cases h1m : m > 1
      · simp only [h1m, if_true, KasT.kasWp]
        refine hc _ _ _ (hp.lt (by omega)) (hp.lt (by omega)) ?_
        cases hx : lt (pvA p 0) (pvA p (m - 1)) with
        | true =>
          simp only [if_true, KasT.kasWp]
          exact q m p hp a (by omega) c
        | false =>
          simp only [Bool.false_eq_true, if_false]
          have hp' := hp.rev 0 m
          have he : ∀ i, i < m → Eqv lt (pvA p i) (pvA p (m - 1)) := fun i hi => ⟨c i (m - 1) (by omega) (by omega), W.trans (hp.lt (by omega)) (hp.lt (i := 0) (by omega)) (hp.lt (by omega)) hx (c 0 i (by omega) hi)⟩
          have hev := fun k hk => rev_eqv W hc hp (i := 0) (j := m) (by omega) (by omega) (fun k _ hk => he k hk) k hk
          have em : pvA (kas_rev p 0 m) m = pvA p m := by rw [pvA_rev (by rw [hp.size]; omega), if_neg (by omega)]
          refine desc _ hp' (fun i hi => ?_) ?_
          · have x1 := hev i (by omega)
            have x2 := hev (m - 1) (by omega)
            have x3 := he i hi
            exact ⟨W.trans (hp'.lt (by omega)) (hp.lt (i := i) (by omega)) (hp'.lt (by omega)) x1.1 (W.trans (hp.lt (by omega)) (hp.lt (i := m - 1) (by omega)) (hp'.lt (by omega)) x3.1 x2.2),
              W.trans (hp'.lt (by omega)) (hp.lt (i := m - 1) (by omega)) (hp'.lt (by omega)) x2.1 (W.trans (hp.lt (by omega)) (hp.lt (i := i) (by omega)) (hp'.lt (by omega)) x3.2 x1.2)⟩
          · rw [em]
            have x2 := hev (m - 1) (by omega)
            rcases W.neg (pvA p m) (pvA (kas_rev p 0 m) (m - 1)) (pvA p (m - 1)) (hp.lt (by omega)) (hp'.lt (by omega)) (hp.lt (by omega)) hlt with z | z
            · exact z
            · have := x2.2; unfold le' at this; rw [z] at this; cases this
      · have e : m = 1 := by omega
        subst e
        simp only [h1m, if_false]
        refine desc p hp (fun i hi => ?_) hlt
        have e : i = 0 := by omega
        subst e
        exact ⟨W.refl (hp.lt (by omega)), W.refl (hp.lt (by omega))⟩
theorem place_ok {p : Array Nat} (hp : Bs n p) {k : Nat} (hk : k < n) (hs : SoTo lt p k) : ∀ (f l r : Nat) {Q : Nat → Shared → Prop}, l ≤ r → r ≤ k → r ≤ l + f → (∀ i, i < l → le' lt (pvA p i) (pvA p k)) → (∀ i, r ≤ i → i < k → lt (pvA p k) (pvA p i) = true) →
    (∀ l', l' ≤ k → (∀ i, i < l' → le' lt (pvA p i) (pvA p k)) → (∀ i, l' ≤ i → i < k → lt (pvA p k) (pvA p i) = true) → Q l' s) → KasT.kasWp cmp (kas_place p k f l r) Q s
  | 0, l, r, Q, h1, h2, h3, h4, h5, q => by
    rw [kas_place, KasT.kasWp]
    have e : l = r := by omega
    subst e
    exact q l h2 h4 h5
  | f + 1, l, r, Q, h1, h2, h3, h4, h5, q => by
    rw [kas_place]
    by_cases hlr : l ≥ r
    · have e : l = r := by omega
      subst e
      rw [if_pos hlr, KasT.kasWp]
      exact q l h2 h4 h5
    · rw [if_neg hlr, KasT.kasWp]
      refine hc _ _ _ (hp.lt hk) (hp.lt (by omega)) ?_
      cases hb : lt (pvA p k) (pvA p ((l + r) / 2)) with
      | true =>
        simp only [if_true]
        refine place_ok hp hk hs f l ((l + r) / 2) (by omega) (by omega) (by omega) h4 (fun i a b => ?_) q
        have hle := hs ((l + r) / 2) i a b
        rcases W.neg (pvA p k) (pvA p i) (pvA p ((l + r) / 2)) (hp.lt hk) (hp.lt (by omega)) (hp.lt (by omega)) hb with z | z
        · exact z
        · unfold le' at hle; rw [z] at hle; cases hle
      | false =>
        simp only [Bool.false_eq_true, if_false]
        refine place_ok hp hk hs f ((l + r) / 2 + 1) r (by omega) h2 (by omega) (fun i a => ?_) h5 q
        exact W.trans (hp.lt (by omega)) (hp.lt (i := (l + r) / 2) (by omega)) (hp.lt hk) (hs i ((l + r) / 2) (by omega) (by omega)) hb
theorem bin_ok : ∀ (f : Nat) (p : Array Nat) (k : Nat) {Q : Array Nat → Shared → Prop}, Bs n p → k + f = n → SoTo lt p k → (∀ p', Bs n p' → SoTo lt p' n → Q p' s) → KasT.kasWp cmp (kas_bin f p k) Q s
  | 0, p, k, Q, hp, h1, h2, q => by
    rw [kas_bin, KasT.kasWp]
    have e : k = n := by omega
    subst e
    exact q p hp h2
  | f + 1, p, k, Q, hp, h1, h2, q => by
    rw [kas_bin, KasT.kasWp_bind]
    refine place_ok W hc hp (k := k) (by omega) h2 k 0 k (by omega) (Nat.le_refl _) (by omega) (fun i z => by omega) (fun i a b => by omega) fun l a b c => ?_
    refine bin_ok f _ (k + 1) (hp.bub _ _) (by omega) (fun i j hij hj => ?_) q
    have hkp : k < p.size := by rw [hp.size]; omega
    have hkl : k - (k - l) = l := by omega
    rw [pvA_bub hkp (by omega), pvA_bub hkp (by omega), hkl]
    by_cases hi : i = l
    · rw [if_pos hi]
      by_cases hj' : j = l
      · rw [if_pos hj']; exact W.refl (hp.lt (by omega))
      · rw [if_neg hj', if_pos (by omega)]
        exact W.of_lt (hp.lt (by omega)) (hp.lt (by omega)) (c (j - 1) (by omega) (by omega))
    · rw [if_neg hi]
      by_cases hi2 : l < i ∧ i ≤ k
      · rw [if_pos hi2, if_neg (by omega), if_pos (by omega)]
        exact h2 (i - 1) (j - 1) (by omega) (by omega)
      · rw [if_neg hi2]
        by_cases hj' : j = l
        · rw [if_pos hj']; exact b i (by omega)
        · rw [if_neg hj']
          by_cases hj2 : l < j ∧ j ≤ k
          · rw [if_pos hj2]; exact h2 i (j - 1) (by omega) (by omega)
          · rw [if_neg hj2]; exact h2 i j hij (by omega)
theorem sort_ok {Q : Array Nat → Shared → Prop} (h1 : 1 ≤ n) (q : ∀ p', Bs n p' → SoTo lt p' n → Q p' s) : KasT.kasWp cmp (kas_sort n) Q s := by
  unfold kas_sort
  rw [KasT.kasWp_bind]
  refine count_ok W hc (p := (List.range n).toArray) (Array.Perm.refl _) h1 fun m p' a b c d => ?_
  by_cases hm : m < n
  · simp only [hm, if_true]
    have e : max m 1 = m := by omega
    rw [e]
    exact bin_ok W hc (n - m) p' m a (by omega) d q
  · have e : m = n := by omega
    subst e
    simp only [Nat.lt_irrefl, if_false, KasT.kasWp]
    exact q p' a d
end
end L2
set_option Elab.async false
set_option linter.all false
set_option maxRecDepth 100000
namespace L2
open PySem PySem.Spec PyProof.Rows PySem.W
section
variable {X : Cx} {pins : List (Addr × Obj)} {σ : St} {H : Hp} {s : Shared} {N : Fb}
theorem lex_D (I : Inv X pins σ H s) {prog : Program} {w : World} (A : Around) (hu : A.units + 40 < cLine) (b fin : Bool) {Q : Bool → Shared → Prop} : ∀ (xs ys : List D) (vs1 vs2 : List V) (us1 us2 : List Value) (i : Nat) (r : Bool), ltDs (ltN 5) xs ys = some r →
    DenL X.K N H xs vs1 → DenL X.K N H ys vs2 → Vals vs1 us1 → Vals vs2 us2 → fin = decide (xs.length < ys.length) →
    (b = false ∨ i ≠ 0 ∨ ((∀ x, xs.head? = some x → ∃ n, x = .int n) ∧ ∀ y, ys.head? = some y → ∃ n, y = .int n)) → Q r s → KatLex prog w A b fin Q (us1.zip us2) i s := by
  intro xs
  induction xs with
  | nil =>
    intro ys vs1 vs2 us1 us2 i r h d1 d2 r1 r2 hf hb q
    simp only [DenL] at d1; subst d1; cases r1
    rw [List.zip_nil_left]
    refine kat_nil ?_
    cases ys with
    | nil => simp only [ltDs] at h; cases h; rw [hf]; exact q
    | cons y ys => simp only [ltDs] at h; cases h; rw [hf]; simpa using q
  | cons x xs ih =>
    intro ys vs1 vs2 us1 us2 i r h d1 d2 r1 r2 hf hb q
    simp only [DenL] at d1; obtain ⟨w1, t1, e1, dw1, dt1⟩ := d1; subst e1
    cases r1 with
    | cons rw1 rt1 =>
      cases ys with
      | nil =>
        simp only [DenL] at d2; subst d2; cases r2
        rw [List.zip_nil_right]
        simp only [ltDs] at h; cases h
        refine kat_nil ?_
        rw [hf]; simpa using q
      | cons y ys =>
        simp only [DenL] at d2; obtain ⟨w2, t2, e2, dw2, dt2⟩ := d2; subst e2
        cases r2 with
        | cons rw2 rt2 =>
          rw [List.zip_cons_cons]
          simp only [ltDs] at h
          split at h
          · next ho =>
            rw [Bool.and_eq_true] at ho
            have he := (bothAt_D I deep A x y _ _ _ _ (by unfold deep; omega) ho.1 ho.2 dw1.p dw2.p rw1 rw2).2.1
            refine kat_cons ?_
            split at h
            · next e =>
              rw [e] at he
              refine he prog w _ _ ?_
              show KatGo prog w A b fin Q _ _ _ i true s
              unfold KatGo
              rw [if_pos rfl]
              exact ih ys _ _ _ _ (i + 1) r h dt1 dt2 rt1 rt2 (by rw [hf]; simp) (.inr (.inl (by omega))) q
            · next e =>
              rw [Bool.not_eq_true] at e
              rw [e] at he
              refine he prog w _ _ ?_
              refine kat_no ?_
              by_cases hm : (b && i == 0) = true
              · rw [hm]
                have hm' : b = true ∧ i = 0 := by simpa using hm
                rcases hb with z | z | ⟨z1, z2⟩
                · rw [hm'.1] at z; cases z
                · exact absurd hm'.2 z
                · obtain ⟨n1, rfl⟩ := z1 x rfl
                  obtain ⟨n2, rfl⟩ := z2 y rfl
                  have g1 := dw1.p.int
                  have g2 := dw2.p.int
                  subst g1 g2
                  obtain ⟨k1, rfl⟩ := rw1
                  obtain ⟨k2, rfl⟩ := rw2
                  simp only [ltN] at h
                  cases h
                  exact oneLt_int q
              · rw [Bool.not_eq_true] at hm
                rw [hm]
                refine kat_one _ _ ?_
                exact ltAt_D I 5 A x y _ _ _ _ r (by unfold deep; omega) h dw1.p dw2.p rw1 rw2 prog w _ (PySem.W.BoolBack Q) q
          · cases h
def KMode (b : Bool) (k : D) : Prop := match b with
  | true => ∃ i r, k = .tup (.int i :: r)
  | false => ∃ f r, k = .tup (.tup f :: r)
theorem KMode.tup {b : Bool} {k : D} (h : KMode b k) : ∃ f r, k = .tup (f :: r) := by
  cases b with
  | true => obtain ⟨i, r, e⟩ := h; exact ⟨_, _, e⟩
  | false => obtain ⟨i, r, e⟩ := h; exact ⟨_, _, e⟩
theorem key_lt (I : Inv X pins σ H s) {prog : Program} {w : World} (A : Around) (hu : A.units + 40 < cLine) (b r : Bool) {k1 k2 : D} {v1 v2 : V} {u1 u2 : Value} {Q : Bool → Shared → Prop} {E : Value → Shared → Prop} (h : ltN 6 k1 k2 = some r) (m1 : KMode b k1) (m2 : KMode b k2)
    (d1 : Den X.K N H k1 v1) (d2 : Den X.K N H k2 v2) (r1 : RelV v1 u1) (r2 : RelV v2 u2) (q : Q r s) : wpAny (model prog w) A (keyLt' (tuples' b) u1 u2) Q E s := by
  obtain ⟨f1, g1, e1⟩ := m1.tup
  obtain ⟨f2, g2, e2⟩ := m2.tup
  subst e1 e2
  simp only [Den] at d1 d2
  obtain ⟨a1, vs1, e1, q1, dl1⟩ := d1
  obtain ⟨a2, vs2, e2, q2, dl2⟩ := d2
  subst e1 e2
  cases r1
  cases r2
  obtain ⟨its1, rv1, p1, _⟩ := I.tuple q1
  obtain ⟨its2, rv2, p2, _⟩ := I.tuple q2
  obtain ⟨o1, ho1, _, n1, hd1⟩ := p1
  obtain ⟨o2, ho2, _, n2, hd2⟩ := p2
  refine kat_lt ho1 hd1 ho2 hd2 ?_
  have l1 := dl1.length
  have l2 := dl2.length
  have l3 := rv1.length
  have l4 := rv2.length
  have := lex_D I (prog := prog) (w := w) (N := N) A hu b (decide (its1.toArray.size < its2.toArray.size)) (Q := Q) (f1 :: g1) (f2 :: g2) vs1 vs2 its1 its2 0 r h dl1 dl2 rv1 rv2 (by rw [List.size_toArray, List.size_toArray, ← l3, ← l4, ← l1, ← l2]) (by
    cases b with
    | false => exact .inl rfl
    | true =>
      obtain ⟨i1, _, e1⟩ := m1
      obtain ⟨i2, _, e2⟩ := m2
      cases e1
      cases e2
      exact .inr (.inr ⟨fun x hx => by cases hx; exact ⟨_, rfl⟩, fun x hx => by cases hx; exact ⟨_, rfl⟩⟩)) q
  simpa using this
theorem key_kind (I : Inv X pins σ H s) {M : Model} (b : Bool) : ∀ (ks : List D) (kvs : List V) (us : List Value), DenL X.K N H ks kvs → Vals kvs us → (∀ k ∈ ks, KMode b k) →
    ∃ fs, KatTups s.heap us fs ∧ fs.length = us.length ∧ ∀ v ∈ fs, Looks M s.heap (typeOf v) (.type (if b then "int" else "tuple")) := by
  intro ks
  induction ks with
  | nil =>
    intro kvs us d r _
    simp only [DenL] at d; subst d; cases r
    exact ⟨[], KatTups.nil, rfl, fun _ h => nomatch h⟩
  | cons k ks ih =>
    intro kvs us d r hm
    simp only [DenL] at d; obtain ⟨v, t, e, dv, dt⟩ := d; subst e
    cases r with
    | cons rv rt =>
      obtain ⟨fs, h1, h2, h3⟩ := ih t _ dt rt fun k hk => hm k (List.mem_cons_of_mem _ hk)
      have m := hm k List.mem_cons_self
      obtain ⟨f, g, e⟩ := m.tup
      subst e
      simp only [Den] at dv
      obtain ⟨a, vs, e, q, dl⟩ := dv
      subst e
      cases rv
      obtain ⟨its, rv1, ⟨o, ho, hc, n, hd⟩, _⟩ := I.tuple q
      obtain ⟨w, vs', e, dw, _⟩ := dl
      subst e
      cases rv1 with
      | cons rw1 rt1 =>
        rename_i u us'
        refine ⟨u :: fs, KatTups.cons ho hc hd (by simp) h1, by simp [h2], fun v hv => ?_⟩
        rcases List.mem_cons.mp hv with e | hv
        · subst e
          intro A Q E s' hk hq
          cases b with
          | true =>
            obtain ⟨i, _, e⟩ := m
            cases e
            have g := dw.p.int
            subst g
            obtain ⟨t, rfl⟩ := rw1
            exact wpAny_typeOf (T := "int") rfl hq
          | false =>
            obtain ⟨i, _, e⟩ := m
            cases e
            simp only [Den] at dw
            obtain ⟨a2, vs2, e, q2, _⟩ := dw
            subst e
            cases rw1
            obtain ⟨_, _, ⟨o2, ho2, hc2, _⟩, _⟩ := I.tuple q2
            exact wpAny_typeOf (T := "tuple") ⟨o2, hk _ _ ho2, hc2⟩ hq
        · exact h3 v hv
structure Off (X : Cx) (pins : List (Addr × Obj)) (a : Addr) : Prop where
  nL : a ≠ X.env.locals
  s0 : X.s₀.heap.objs.size ≤ a
  cl : ∀ x c, X.env.cells.lookup x = some c → c ≠ a
  pn : ∀ p ∈ X.pn ++ pins, p.1 ≠ a
  nf : a ∉ X.fs
theorem Inv.off (I : Inv X pins σ H s) {a : Addr} (h : s.heap.objs.size ≤ a) : Off X pins a where
  nL := fun e => by have h2 := I.lt; rw [← e] at h2; exact absurd (Nat.lt_of_lt_of_le h2 h) (Nat.lt_irrefl _)
  s0 := Nat.le_trans I.sz h
  cl := fun x c e z => by
    obtain ⟨v, o, ho, _⟩ := I.cell x c e
    have h2 := Heap.lt_size ho
    rw [z] at h2
    exact absurd (Nat.lt_of_lt_of_le h2 h) (Nat.lt_irrefl _)
  pn := fun p hp z => by
    have h2 := Heap.lt_size (I.pin p hp).1
    rw [z] at h2
    exact absurd (Nat.lt_of_lt_of_le h2 h) (Nat.lt_irrefl _)
  nf := I.nofs h
theorem Inv.pin1 {a : Addr} {o : Obj} (I : Inv X pins σ H s) (hH : H a = none) (f : Off X pins a) (e : s.heap.get? a = some o) (hc : ∀ v, o.data ≠ .cell v) : Inv X (pins ++ [(a, o)]) σ H s :=
  I.pins_of fun p hp => by
    rcases List.mem_append.mp hp with hp | hp
    · exact I.pin p (List.mem_append_right _ hp)
    · simp only [List.mem_singleton] at hp; subst hp; exact ⟨e, hH, f.nL, f.nf, hc⟩
theorem Inv.catch {a : Addr} {its : List Value} {n : Nat} {vs : List V} (I : Inv X pins σ H s) (hH : H a = none) (f : Off X pins a) (e : s.heap.get? a = some { cls := .type "list", data := .seq its.toArray n }) (hv : Vals vs its) (hz : vs.length ≤ sizeLine) : Inv X pins σ (upd H a (.lst vs)) s := by
  have ne : ∀ b u, H b = some u → b ≠ a := fun b u q z => by rw [z, hH] at q; cases q
  have := I.step (h' := s.heap) (g' := s.gens) (d' := s.drawn) (t' := s.toks) (ch := [a]) (H' := upd H a (.lst vs)) (fun b hb => by
      have e : b = a := by simpa using hb
      subst e
      exact ⟨.inr f.s0, f.nL, f.cl, f.pn⟩) (fun b o _ _ _ q _ => q) (fun b o _ _ _ q _ => ⟨o.slots, q⟩) (fun b o hb _ n => by rw [upd_ne (fun z => hb (by simp [z]))]; exact n) (fun b o _ q => ⟨o, q⟩)
    (fun b xs q => by rw [upd_ne (ne _ _ q)]; exact q) (fun b o u q => by rw [upd_ne (ne _ _ q)]; exact q) (fun b ps q => ⟨#[], by rw [upd_ne (ne _ _ q), q]; simp⟩) (fun m hm => hm) (fun b u q => by
      by_cases hb : b = a
      · subst hb
        rw [upd_same] at q
        cases q
        exact ⟨hz, its, n, hv, e⟩
      · rw [upd_ne hb] at q
        exact (I.hok b u q).stay (fun c v _ r => r) (fun c r => by rw [upd_ne (ne _ _ r)]; exact r) fun c xs r => by rw [upd_ne (ne _ _ r)]; exact r) I.bare
  exact this
end
end L2
set_option Elab.async false
set_option linter.all false
set_option maxRecDepth 100000
namespace L2
open PySem PySem.Spec PyProof.Rows PySem.W
def kfOf (F : List Sl → Option Rv) (x : D) : D := ((F [.val x]).map rvD).getD .non
def ltF (F : List Sl → Option Rv) (x y : D) : Bool := match ltN 6 (kfOf F x) (kfOf F y) with
  | some true => true
  | _ => false
theorem ltF_some {F : List Sl → Option Rv} {x y : D} {r : Bool} (h : ltN 6 (kfOf F x) (kfOf F y) = some r) : ltF F x y = r := by
  unfold ltF; rw [h]; cases r <;> rfl
structure SortOk (F : List Sl → Option Rv) (xs : List D) : Prop where
  few : xs.length < 64
  tells : ∀ x ∈ xs, ∃ r, F [.val x] = some r
  mode : ∃ b, ∀ x ∈ xs, KMode b (kfOf F x)
  cmp : ∀ x ∈ xs, ∀ y ∈ xs, ∃ r, ltN 6 (kfOf F x) (kfOf F y) = some r
  asym : ∀ x ∈ xs, ∀ y ∈ xs, ltF F x y = true → ltF F y x = false
  neg : ∀ x ∈ xs, ∀ y ∈ xs, ∀ z ∈ xs, ltF F x z = true → ltF F x y = true ∨ ltF F y z = true
  anti : ∀ x ∈ xs, ∀ y ∈ xs, ltF F x y = false → ltF F y x = false → x = y
def insK (lt : D → D → Bool) (x : D) : List D → List D
  | [] => [x]
  | y :: r => if lt x y then x :: y :: r else y :: insK lt x r
def srtK (lt : D → D → Bool) : List D → List D
  | [] => []
  | x :: r => insK lt x (srtK lt r)
theorem insK_perm (lt : D → D → Bool) (x : D) : ∀ l, (insK lt x l).Perm (x :: l)
  | [] => .refl _
  | y :: r => by
    unfold insK
    split
    · exact .refl _
    · exact ((insK_perm lt x r).cons y).trans (.swap x y r)
theorem srtK_perm (lt : D → D → Bool) : ∀ l, (srtK lt l).Perm l
  | [] => .refl _
  | x :: r => (insK_perm lt x _).trans ((srtK_perm lt r).cons x)
theorem insK_pair {F : List Sl → Option Rv} {xs : List D} (h : SortOk F xs) {x : D} (hx : x ∈ xs) : ∀ l : List D, (∀ y ∈ l, y ∈ xs) → l.Pairwise (fun a b => ltF F b a = false) → (insK (ltF F) x l).Pairwise fun a b => ltF F b a = false
  | [], _, _ => by simp [insK]
  | y :: r, hm, hp => by
    obtain ⟨h1, h2⟩ := List.pairwise_cons.mp hp
    have hy := hm y List.mem_cons_self
    unfold insK
    split
    · next hl =>
      refine List.pairwise_cons.mpr ⟨fun z hz => ?_, hp⟩
      rcases List.mem_cons.mp hz with e | hz
      · subst e; exact h.asym x hx z hy hl
      · cases hc : ltF F z x with
        | false => rfl
        | true =>
          rcases h.neg z (hm z (List.mem_cons_of_mem _ hz)) y hy x hx hc with q | q
          · rw [h1 z hz] at q; cases q
          · rw [h.asym x hx y hy hl] at q; cases q
    · next hl =>
      rw [Bool.not_eq_true] at hl
      refine List.pairwise_cons.mpr ⟨fun z hz => ?_, insK_pair h hx r (fun z hz => hm z (List.mem_cons_of_mem _ hz)) h2⟩
      rcases List.mem_cons.mp ((insK_perm (ltF F) x r).subset hz) with e | hz
      · subst e; exact hl
      · exact h1 z hz
theorem srtK_pair {F : List Sl → Option Rv} {xs : List D} (h : SortOk F xs) : ∀ l : List D, (∀ y ∈ l, y ∈ xs) → (srtK (ltF F) l).Pairwise fun a b => ltF F b a = false
  | [], _ => .nil
  | x :: r, hm => insK_pair h (hm x List.mem_cons_self) _ (fun y hy => hm y (List.mem_cons_of_mem _ ((srtK_perm _ r).subset hy))) (srtK_pair h r fun y hy => hm y (List.mem_cons_of_mem _ hy))
noncomputable def sortK (F : List Sl → Option Rv) (xs : List D) : Option (List D) := gd (SortOk F xs) (some (srtK (ltF F) xs))
theorem SortOk.same {F : List Sl → Option Rv} {xs ys : List D} (h : SortOk F xs) (hp : ys.Perm xs) (hs : ys.Pairwise fun a b => ltF F b a = false) : ys = srtK (ltF F) xs :=
  List.Perm.eq_of_pairwise (le := fun a b => ltF F b a = false) (fun a b ha hb h1 h2 => h.anti a (hp.subset ha) b ((srtK_perm _ xs).subset hb) h2 h1) hs (srtK_pair h xs fun _ hy => hy) (hp.trans (srtK_perm _ xs).symm)
theorem sortK_eq {F : List Sl → Option Rv} {xs : List D} (h : SortOk F xs) : sortK F xs = some (srtK (ltF F) xs) := gd_pos h
theorem sortK_of {F : List Sl → Option Rv} {xs ys : List D} (h : sortK F xs = some ys) : SortOk F xs ∧ ys = srtK (ltF F) xs := by
  unfold sortK gd at h
  split at h
  · next hh => cases h; exact ⟨hh, rfl⟩
  · cases h
section
variable {X : Cx} {pins : List (Addr × Obj)} {σ : St} {H : Hp} {s : Shared} {N : Fb}
theorem den_pick {K : PySem.W.Frag} {ds : List D} {vs : List V} (h : DenL K N H ds vs) : ∀ (js : List Nat), (∀ j ∈ js, j < ds.length) → DenL K N H (js.map fun j => ds.getD j .non) (js.map fun j => vs.getD j .non)
  | [], _ => DenL.nil
  | j :: js, hj => by
    have hl := hj j List.mem_cons_self
    obtain ⟨v, e, d⟩ := h.get (List.getElem?_eq_getElem hl)
    refine DenL.cons ?_ (den_pick h js fun k hk => hj k (List.mem_cons_of_mem _ hk))
    have e1 : ds.getD j .non = ds[j] := by simp [List.getD, hl]
    have e2 : vs.getD j .non = v := by simp [List.getD, e]
    show Den K N H (ds.getD j .non) (vs.getD j .non)
    rw [e1, e2]; exact d
theorem vals_pick {vs : List V} {us : List Value} (h : Vals vs us) : ∀ (js : List Nat), Vals (js.map fun j => vs.getD j .non) (js.map fun j => us.getD j .none)
  | [] => .nil
  | j :: js => by
    refine .cons ?_ (vals_pick h js)
    induction h generalizing j with
    | nil => simp; rfl
    | cons a _ ih =>
      cases j with
      | zero => simpa using a
      | succ j => simpa using ih j
theorem sort_run (I : Inv X pins σ H s) {prog : Program} {w : World} (A : Around) (hu : A.units + 40 < cLine) {E : Value → Shared → Prop} {F : List Sl → Option Rv} {ds : List D} (h : SortOk F ds) {kvs : List V} {us items : List Value}
    (d : DenL X.K N H (ds.map (kfOf F)) kvs) (r : Vals kvs us) (hi : items.length = ds.length) {a : Addr} {e1 : Nat} {kS : Value} {P : PySem.Fin → Shared → Prop}
    (q : ∀ (p : List Nat) (st : SortSt), p.Perm (List.range ds.length) → (p.map fun j => ds.getD j .non) = srtK (ltF F) ds → Array.map (fun x => x.2) (arrOf st) = (p.map fun j => items.getD j .none).toArray → failedOf st = none → wpAny (model prog w) A (ksk_tail a false e1 kS st) P E s) :
    wpAny (model prog w) A (ksk_end a false items.toArray e1 kS us.toArray) P E s := by
  unfold ksk_end
  simp only [Bool.false_eq_true, if_false]
  have l1 := d.length
  have l2 := r.length
  rw [List.length_map] at l1
  by_cases h2 : items.toArray.size < 2
  · rw [if_pos h2]
    simp only [h2, if_true]
    have hz : us.length = items.length := by omega
    rw [List.size_toArray] at h2
    refine wpAny_bind (wpAny_pure ?_)
    refine wpAny_bind ?_
    show wpAny _ _ (pure ((), SortSt.mk' general' (us.toArray.zip items.toArray) #[] 7 none)) _ _ _
    refine wpAny_pure ?_
    refine q (List.range ds.length) (SortSt.mk' general' (us.toArray.zip items.toArray) #[] 7 none) (.refl _) ?_ ?_ rfl
    · have e : (List.range ds.length).map (fun j => ds.getD j .non) = ds := by
        apply List.ext_getElem?
        intro i
        by_cases hi : i < ds.length
        · simp [hi]
        · simp [hi]
      rw [e]
      refine h.same (.refl _) ?_
      match ds, hi with
      | [], _ => exact .nil
      | [a], _ => exact List.pairwise_singleton _ _
      | a :: b :: c, hi => simp at hi; omega
    · show Array.map (fun x => x.2) (us.toArray.zip items.toArray) = _
      have e : (List.range ds.length).map (fun j => items.getD j .none) = items := by
        rw [← hi]
        apply List.ext_getElem?
        intro i
        by_cases hi : i < items.length
        · simp [hi]
        · simp [hi]
      rw [e]
      rw [List.zip_toArray, List.map_toArray]
      congr 1
      exact List.map_snd_zip (by omega)
  · rw [if_neg h2]
    simp only [h2, if_false]
    rw [List.size_toArray] at h2
    obtain ⟨b, hb⟩ := h.mode
    obtain ⟨fs, k1, k2, k3⟩ := key_kind I (M := model prog w) b (ds.map (kfOf F)) kvs us d r fun k hk => by
      obtain ⟨x, hx, rfl⟩ := List.mem_map.mp hk
      exact hb x hx
    refine wpAny_bind (kat_kind k1 (by omega) k3 (by cases b <;> rfl) ?_)
    have em : (Value.type (if b = true then "int" else "tuple") != Value.type "tuple") = b := by cases b <;> rfl
    rw [em]
    have hz : us.length = items.length := by omega
    have hsz : (us.toArray.zip items.toArray).size = ds.length := by simp; omega
    have hr := kas_range (us.toArray.zip items.toArray)
    rw [hsz] at hr
    have hst : SortSt.mk' (tuples' b) (us.toArray.zip items.toArray) #[] 7 none = kas_st (tuples' b) (us.toArray.zip items.toArray) (List.range ds.length).toArray := by
      unfold kas_st; rw [hr]
    refine wpAny_bind ?_
    rw [hst]
    have W : WO (fun i j => ltF F (ds.getD i .non) (ds.getD j .non)) ds.length := by
      have mem : ∀ i, i < ds.length → ds.getD i .non ∈ ds := fun i hi => by
        have e1 : ds.getD i .non = ds[i] := by simp [List.getD, hi]
        rw [e1]; exact List.getElem_mem hi
      exact ⟨fun a b ha hb hl => h.asym _ (mem a ha) _ (mem b hb) hl, fun a b c ha hb hc hl => h.neg _ (mem a ha) _ (mem b hb) _ (mem c hc) hl⟩
    have hc : ∀ i j (C : Bool → Shared → Prop), i < ds.length → j < ds.length → C (ltF F (ds.getD i .non) (ds.getD j .non)) s → kas_cmp prog w A (tuples' b) (us.toArray.zip items.toArray) i j C s := fun i j C hi' hj' hq => by
      unfold kas_cmp
      rw [kat_item hz, kat_item hz]
      have mem : ∀ i, i < ds.length → ds.getD i .non ∈ ds := fun i hi => by
        have e1 : ds.getD i .non = ds[i] := by simp [List.getD, hi]
        rw [e1]; exact List.getElem_mem hi
      obtain ⟨rr, hrr⟩ := h.cmp _ (mem i hi') _ (mem j hj')
      rw [ltF_some hrr] at hq
      have den : ∀ i, i < ds.length → ∃ v, Den X.K N H (kfOf F (ds.getD i .non)) v ∧ RelV v (us.getD i .none) := fun i hi => by
        have e1 : ds.getD i .non = ds[i] := by simp [List.getD, hi]
        obtain ⟨v, ev, dv⟩ := d.get (i := i) (d := kfOf F ds[i]) (by simp [hi])
        refine ⟨v, by rw [e1]; exact dv, ?_⟩
        have := vals_pick r [i]
        cases this with
        | cons a _ =>
          have e2 : kvs.getD i .non = v := by simp [List.getD, ev]
          rw [← e2]
          exact a
      obtain ⟨v1, dv1, rv1⟩ := den i hi'
      obtain ⟨v2, dv2, rv2⟩ := den j hj'
      exact key_lt I A hu b rr hrr (hb _ (mem i hi')) (hb _ (mem j hj')) dv1 dv2 rv1 rv2 hq
    refine kas_runs (Q := fun _ st s' => wpAny (model prog w) A (ksk_tail a false e1 kS st) P E s') (G := fun p s' => s' = s ∧ Bs ds.length p ∧ SoTo (fun i j => ltF F (ds.getD i .non) (ds.getD j .non)) p ds.length) (by omega) h.few (fun p st s' hp ha hf hg => ?_) (sort_ok W hc (by omega) fun p a b => ⟨rfl, a, b⟩)
    obtain ⟨rfl, hB, hS⟩ := hg
    have hperm : p.toList.Perm (List.range ds.length) := by
      have := hB.toList
      simpa using this
    refine q p.toList st hperm ?_ (kat_snds hz ha) hf
    refine h.same ?_ ?_
    · have e : (List.range ds.length).map (fun j => ds.getD j .non) = ds := by
        apply List.ext_getElem?
        intro i
        by_cases hi : i < ds.length
        · simp [hi]
        · simp [hi]
      have := hperm.map fun j => ds.getD j .non
      rw [e] at this
      exact this
    · rw [List.pairwise_map]
      rw [List.pairwise_iff_getElem]
      intro i j hi hj hij
      have hsz' := hB.size
      have := hS i j (by omega) (by simp at hj; omega)
      unfold le' pvA at this
      simp at hi hj
      simpa [Array.getD, hi, hj] using this
end
end L2
set_option Elab.async false
set_option linter.all false
set_option maxRecDepth 100000
namespace L2
open PySem PySem.Spec PyProof.Rows PySem.W
section
variable {X : Cx} {pins : List (Addr × Obj)} {σ : St} {H : Hp} {s : Shared} {N : Fb}
abbrev lob (its : List Value) (n : Nat) : Obj := { cls := .type "list", data := .seq its.toArray n }
theorem Inv.rawset {a : Addr} {its its' : List Value} {n : Nat} {f : Array Value → Array Value} (I : Inv X pins σ H s) (hH : H a = none) (o : Off X pins a) (e : s.heap.get? a = some (lob its n)) (hf : f its.toArray = its'.toArray) :
    ∃ n', (s.heap.update a (Obj.mapSeq f)).get? a = some (lob its' n') ∧ Inv X pins σ H { s with heap := s.heap.update a (Obj.mapSeq f) } := by
  have q := PySem.IsL.update e f
  rw [hf] at q
  exact ⟨_, q, I.turned (t' := s.toks) (fun b u hb hu => (Heap.get?_update_other s.heap (Obj.mapSeq f) (Ne.symm hb)).trans hu) hH o.nL (.inr o.s0) o.cl o.pn⟩
theorem lob_cell (its : List Value) (n : Nat) (v : Option Value) : (lob its n).data ≠ .cell v := nofun
theorem Off.more {a b : Addr} {o : Obj} (f : Off X pins a) (h : b ≠ a) : Off X (pins ++ [(b, o)]) a :=
  ⟨f.nL, f.s0, f.cl, fun p hp => by
    rw [← List.append_assoc] at hp
    rcases List.mem_append.mp hp with hp | hp
    · exact f.pn p hp
    · simp only [List.mem_singleton] at hp; subst hp; exact h, f.nf⟩
theorem Inv.pinGet {a : Addr} {o : Obj} (I : Inv X pins σ H s) (h : (a, o) ∈ pins) : s.heap.get? a = some o ∧ H a = none := ⟨(I.pin _ (List.mem_append_right _ h)).1, (I.pin _ (List.mem_append_right _ h)).2.1⟩
theorem tail_run {prog : Program} {w : World} (A : Around) {D kS : Addr} {e1 e2 : Nat} {us out : List Value} {vs : List V} {E : Value → Shared → Prop} {P : PySem.Fin → Shared → Prop} {st : SortSt} (I : Inv X (pins ++ [(D, lob [] e1)] ++ [(kS, lob us e2)]) σ H s)
    (fD : Off X pins D) (fK : Off X pins kS) (ne : D ≠ kS) (hus : us.length ≤ sizeLine) (hst : Array.map (fun x => x.2) (arrOf st) = out.toArray) (hf : failedOf st = none) (hv : Vals vs out) (hz : vs.length ≤ sizeLine)
    (q : ∀ s', Inv X pins σ (upd H D (.lst vs)) s' → P (.done (.ret .none)) s') : wpAny (model prog w) A (ksk_tail D false e1 (.ref kS) st) P E s := by
  obtain ⟨gk, hk⟩ := I.pinGet (a := kS) (List.mem_append_right _ List.mem_cons_self)
  obtain ⟨gd', hd⟩ := I.pinGet (a := D) (List.mem_append_left _ (List.mem_append_right _ List.mem_cons_self))
  have I1 : Inv X (pins ++ [(D, lob [] e1)]) σ H s := I.unpinned
  obtain ⟨n2, g2, I2⟩ := I1.rawset (f := fun _ => #[]) (its' := []) hk (fK.more ne) gk rfl
  unfold ksk_tail
  refine wpAny_bind (listUpdate_at gk rfl ?_ (by simpa using hus) (by simp))
  refine wpAny_bind (wpAny_letGo ?_)
  obtain ⟨gd2, _⟩ := I2.pinGet (a := D) (List.mem_append_right _ List.mem_cons_self)
  refine wpAny_bind (seqEpoch_at gd2 rfl ?_)
  have I3 : Inv X pins σ H _ := I2.unpinned
  have hol : out.length ≤ sizeLine := by rw [← hv.length]; exact hz
  obtain ⟨n3, g3, I4⟩ := I3.rawset (f := fun _ => out.toArray) (its' := out) hd fD gd2 rfl
  simp only [Bool.false_eq_true, if_false, hst]
  refine wpAny_bind (listUpdate_at gd2 rfl ?_ (by simp) (by simp; omega))
  have hb : (e1 != e1) = false := by simp
  rw [hf]
  simp only [hb, Bool.false_eq_true, if_false]
  exact wpAny_pure (q _ (I4.catch hd fD g3 hv hz))
variable {k : Nat} {fn : Addr} {fd : FuncData} {ps : List Str} {F : List Sl → Option Rv}
theorem key_run (Fo : FnOk X.prog X.w X.K X.mg X.base CX0 k fn fd ps (spD X.K F)) (hb : Binds X.K fd ps []) (I : Inv X pins σ H s) (A : Around) (hr : Room k A) (e0 : Env0 X.prog X.w X.K X.mg X.base A X.stack s H) (nh : ∀ a, N a → H a ≠ none) {x : D} {v : V} {u : Value} (d : Den X.K N H x v) (rv : RelV v u) {r : Rv} (hF : F [.val x] = some r)
    {E : Value → Shared → Prop} {Q : Value → Shared → Prop} (q : ∀ u' s' v' H', Inv X pins σ H' s' → Same H H' → Den X.K N H' (kfOf F x) v' → RelV v' u' → Q u' s') : wpAny (model X.prog X.w) A (call (.ref fn) [u]) Q E s := by
  have hsp : spD X.K F [v] H (fun v' H' => Same H H' ∧ Den X.K N H' (kfOf F x) v') E0 := by
    refine ⟨N, [.val x], r, nh, ?_, hF, fun v' H' hs ho => ⟨hs, ?_⟩⟩
    · exact ⟨v, [], rfl, d, rfl⟩
    · have e : kfOf F x = rvD r := by unfold kfOf; rw [hF]; rfl
      rw [e]
      cases r with
      | val y => exact ho
      | own ys fl =>
        obtain ⟨a, ws, e1, z1, z2, z3⟩ := ho
        simp only [rvD, Den]
        exact ⟨a, ws, e1, .of (fun z => nh a z z1) z2, z3.nw fun b hb => .inl (.inl hb)⟩
  have hl : ([u] : List Value).length = ps.length := by
    have := Fo.len _ _ _ _ hsp
    simpa using this
  refine wpAny_call (codeAny_mono (Fo.run A X.stack s H ⟨[u], []⟩ [u] [v] _ E0 hr e0 (by simpa using hb s [u] I.kIn (by simpa using hl)) (.cons rv .nil) hsp) fun r s' hq => ?_)
  cases r with
  | error e => exact False.elim hq
  | ok fl =>
    cases fl with
    | ret u' =>
      obtain ⟨v', H', I', rv', hs, hd⟩ := I.after hq
      exact q u' s' v' H' I' hs hd rv'
    | next => exact False.elim hq
    | brk => exact False.elim hq
    | cont => exact False.elim hq
theorem Same.none {H H' : Hp} (h : Same H H') {a : Addr} (e : H' a = none) : H a = none := by
  cases q : H a with
  | none => rfl
  | some o => rw [h a o q] at e; cases e
theorem rest_run (Fo : FnOk X.prog X.w X.K X.mg X.base CX0 k fn fd ps (spD X.K F)) (hb : Binds X.K fd ps []) (A : Around) (hr : Room k A) (hu : A.units + 40 < cLine) (hA : ∀ s H, Env0 X.prog X.w X.K X.mg X.base X.A X.stack s H → Env0 X.prog X.w X.K X.mg X.base A X.stack s H)
    {da kS : Addr} {e1 e0 : Nat} (I : Inv X (pins ++ [(da, lob [] e1)] ++ [(kS, lob [] e0)]) σ H s) (nh : ∀ a, N a → H a ≠ none) {items : List Value} {xs : List V} {ds : List D} (fD : Off X pins da) (fK : Off X pins kS) (ne : da ≠ kS) (rv : Vals xs items) (dn : DenL X.K N H ds xs) (ok : SortOk F ds)
    {E : Value → Shared → Prop} {P : PySem.Fin → Shared → Prop} (q : ∀ s' H' vs, Inv X pins σ (upd H' da (.lst vs)) s' → Same H H' → H' da = none → DenL X.K N H' (srtK (ltF F) ds) vs → P (.done (.ret .none)) s') :
    wpAny (model X.prog X.w) A (ksk_rest da (.ref fn) false items.toArray e1 (.ref kS)) P E s := by
  have l1 := dn.length
  have l2 := rv.length
  have few := ok.few
  have hsl : sizeLine = 16777216 := sizeLine_eq
  unfold ksk_rest
  refine wpAny_bind (wpAny_rule ?_)
  refine wpAny_bind (wpAny_forIn_array' _ (fun rest _ s' => ∃ (done : List Value) (H' : Hp) (us : List Value) (kvs : List V) (e2 : Nat), items = done ++ rest ∧ us.length = done.length ∧ Inv X (pins ++ [(da, lob [] e1)] ++ [(kS, lob us e2)]) σ H' s' ∧ Same H H' ∧ Vals kvs us ∧ DenL X.K N H' ((ds.take done.length).map (kfOf F)) kvs) _ ?_ ?_ items.toArray PUnit.unit ?_)
  · rintro u rest b s1 ⟨done, H1, us, kvs, e2, hi, hl, I1, sm, rk, dk⟩
    have hdl : done.length < ds.length := by
      have := congrArg List.length hi
      simp at this
      omega
    have hx : ds[done.length]? = some ds[done.length] := List.getElem?_eq_getElem hdl
    generalize ds[done.length] = x at hx
    obtain ⟨v, hv, dv⟩ := dn.get hx
    have ru : RelV v u := by
      have := vals_pick rv [done.length]
      cases this with
      | cons a _ =>
        have e1 : xs.getD done.length .non = v := by simp [List.getD, hv]
        have e2 : items.getD done.length .none = u := by rw [hi]; simp [List.getD]
        rw [← e1, ← e2]; exact a
    obtain ⟨r, hF⟩ := ok.tells x (List.mem_of_getElem? hx)
    refine wpAny_bind (wpAny_attempt ?_)
    refine key_run (N := N) Fo hb I1 A hr (hA _ _ I1.env0) (fun a ha z => nh a ha (sm.none z)) (dv.same sm) ru hF fun u' s2 v' H2 I2 sm2 dv2 rv2 => ?_
    obtain ⟨gk, hk⟩ := I2.pinGet (a := kS) (List.mem_append_right _ List.mem_cons_self)
    have I3 : Inv X (pins ++ [(da, lob [] e1)]) σ H2 s2 := I2.unpinned
    obtain ⟨n3, g3, I4⟩ := I3.rawset (f := fun x => x.push u') (its' := us ++ [u']) hk (fK.more ne) gk (by simp)
    refine wpAny_bind (listUpdate_at gk rfl ?_ (by simp; omega) (by simp; omega))
    refine wpAny_pure ?_
    refine ⟨done ++ [u], H2, us ++ [u'], kvs ++ [v'], n3, by rw [hi]; simp, by simp [hl], I4.pin1 hk (fK.more ne) g3 (lob_cell _ _), sm.trans sm2, rk.append (.cons rv2 .nil), ?_⟩
    have e : (ds.take (done ++ [u]).length).map (kfOf F) = (ds.take done.length).map (kfOf F) ++ [kfOf F x] := by
      rw [List.length_append, List.length_singleton, List.take_succ, hx]
      simp
    rw [e]
    exact (dk.same sm2).append (DenL.cons dv2 DenL.nil)
  · rintro b s1 ⟨done, H1, us, kvs, e2, hi, hl, I1, sm, rk, dk⟩
    rw [List.append_nil] at hi
    subst hi
    obtain ⟨gk, hk⟩ := I1.pinGet (a := kS) (List.mem_append_right _ List.mem_cons_self)
    obtain ⟨gd', hd⟩ := I1.pinGet (a := da) (List.mem_append_left _ (List.mem_append_right _ List.mem_cons_self))
    refine wpAny_bind (listItems_at gk rfl ?_)
    have ht : ds.take items.length = ds := List.take_of_length_le (by omega)
    rw [ht] at dk
    refine sort_run (N := N) I1 A hu ok dk rk (by omega) fun p st hp hs ha hf => ?_
    have hpl : p.length = ds.length := by have := hp.length_eq; simpa using this
    refine tail_run A I1 fD fK ne (by omega) ha hf (vals_pick rv p) (by rw [List.length_map]; omega) fun s' J => ?_
    refine q s' H1 _ J sm hd ?_
    rw [← hs]
    exact den_pick (dn.same sm) p fun j hj => by have := hp.subset hj; simpa using this
  · exact ⟨[], H, [], [], e0, by simp, rfl, I, Same.refl H, .nil, DenL.nil⟩
theorem tree_run (Fo : FnOk X.prog X.w X.K X.mg X.base CX0 k fn fd ps (spD X.K F)) (hb : Binds X.K fd ps []) (A : Around) (hr : Room k A) (hu : A.units + 40 < cLine) (hA : ∀ s H, Env0 X.prog X.w X.K X.mg X.base X.A X.stack s H → Env0 X.prog X.w X.K X.mg X.base A X.stack s H)
    (I : Inv X pins σ H s) (nh : ∀ a, N a → H a ≠ none) {da : Addr} {items : List Value} {n0 : Nat} {xs : List V} {ds : List D} (g : s.heap.get? da = some (lob items n0)) (hD : H da = none) (fD : Off X pins da) (rv : Vals xs items) (dn : DenL X.K N H ds xs) (ok : SortOk F ds)
    {E : Value → Shared → Prop} {P : PySem.Fin → Shared → Prop} (q : ∀ s' H' vs, Inv X pins σ (upd H' da (.lst vs)) s' → Same H H' → H' da = none → DenL X.K N H' (srtK (ltF F) ds) vs → P (.done (.ret .none)) s') :
    wpAny (model X.prog X.w) A (ksk_tree da (.ref fn) false) P E s := by
  have l1 := dn.length
  have l2 := rv.length
  have few := ok.few
  have hsl : sizeLine = 16777216 := sizeLine_eq
  unfold ksk_tree
  refine wpAny_bind (listItems_at g rfl ?_)
  obtain ⟨n1, g1, I1⟩ := I.rawset (f := fun _ => #[]) (its' := []) hD fD g rfl
  refine wpAny_bind (listUpdate_at g rfl ?_ (by simp; omega) (by simp))
  refine wpAny_bind (seqEpoch_at g1 rfl ?_)
  refine wpAny_bind (wpAny_newTuple ?_ (by simp; omega))
  generalize hs1 : ({ heap := s.heap.update da (Obj.mapSeq fun x => #[]), gens := s.gens, drawn := s.drawn, toks := s.toks, os := s.os } : Shared) = s1 at *
  have g1' : s1.heap.get? da = some (lob [] n1) := by rw [← hs1]; exact g1
  have I2 := I1.kept (t' := s1.toks) (fun b u e => Heap.get?_push_of_some { cls := .type "tuple", data := .seq items.toArray } e)
  have g2 := Heap.get?_push_of_some { cls := .type "tuple", data := .seq items.toArray } g1'
  generalize hs2 : ({ heap := s1.heap.push { cls := .type "tuple", data := .seq items.toArray }, gens := s1.gens, drawn := s1.drawn, toks := s1.toks, os := s1.os } : Shared) = s2 at *
  have g2' : s2.heap.get? da = some (lob [] n1) := by rw [← hs2]; exact g2
  refine wpAny_bind (wpAny_newList ?_ (by simp))
  have I3 := I2.kept (t' := s2.toks) (fun b u e => Heap.get?_push_of_some (lob [] 0) e)
  have g3 := Heap.get?_push_of_some (lob [] 0) g2'
  have gk := Heap.get?_push_size s2.heap (o := lob [] 0) rfl
  have fK := I2.off (Nat.le_refl s2.heap.objs.size)
  have hK : H s2.heap.objs.size = none := I2.fresh
  have ne : da ≠ s2.heap.objs.size := Nat.ne_of_lt (Heap.lt_size g2')
  refine wpAny_holding ?_
  exact rest_run (N := N) Fo hb A hr hu hA ((I3.pin1 hD fD g3 (lob_cell _ _)).pin1 hK (fK.more ne) gk (lob_cell _ _)) nh fD fK ne rv dn ok q
theorem sorted_run (Fo : FnOk X.prog X.w X.K X.mg X.base CX0 k fn fd ps (spD X.K F)) (hb : Binds X.K fd ps []) (hr : Room (k + 2) X.A)
    (I : Inv X pins σ H s) (nh : ∀ a, N a → H a ≠ none) {a : Addr} {xs : List V} {ds : List D} (hs : SqL X.K H a xs) (dn : DenL X.K N H ds xs) (ok : SortOk F ds) {Q : VK}
    (q : ∀ da vs H', Same H H' → H da = none → H' da = some (.lst vs) → DenL X.K (fun b => N b ∨ b = da) H' (srtK (ltF F) ds) vs → Q (.ref da) H') :
    wpAny (model X.prog X.w) X.A (call (.builtin "sorted") [.ref a] [("key", .ref fn)]) (EP X pins σ Q) X.xe s := by
  have l1 := dn.length
  have few := ok.few
  have hsl : sizeLine = 16777216 := sizeLine_eq
  obtain ⟨its, rv, ⟨o, n, ho, hc, hdd, hd⟩, hz⟩ := I.list hs
  have l2 := rv.length
  refine wpAny_call (codeAny_call_builtin plain_sorted entry_sorted ?_)
  have hck : checkBuiltinCall "sorted" ⟨[.ref a], [("key", .ref fn)]⟩ = pure () := by rfl
  rw [hck]
  refine wpAny_pure ?_
  unfold PySem.Builtin.sorted
  have hcc : checkCount "sorted" 1 1 1 = pure () := rfl
  show wpAny _ _ (do checkCount "sorted" 1 1 1; let y ← collect (.ref a); let l ← newList y; let _ ← holding [l] (call (.builtin "list.sort") [l] [("key", .ref fn)]); ret l) _ _ _
  rw [hcc]
  refine wpAny_bind (wpAny_pure ?_)
  refine wpAny_bind (wpAny_collect_seq a (T := "list") (.inl rfl) ho hc hd (fun h1 k1 => ?_) (by simp; omega))
  have I1 := I.kept (t' := s.toks) k1
  refine wpAny_bind (wpAny_newList ?_ (by simp; omega))
  generalize hs1 : ({ heap := h1, gens := s.gens, drawn := s.drawn, toks := s.toks, os := s.os } : Shared) = s1 at *
  have I2 := I1.kept (t' := s1.toks) (fun b u e => Heap.get?_push_of_some (lob its 0) e)
  have g := Heap.get?_push_size s1.heap (o := lob its 0) rfl
  have fD := I1.off (Nat.le_refl s1.heap.objs.size)
  have hD : H s1.heap.objs.size = none := I1.fresh
  refine wpAny_bind (wpAny_holding ?_)
  refine wpAny_call (codeAny_call_builtin PySem.F.slot_list_sort.plain PySem.F.entry_list_sort ?_)
  refine PySem.F.slot_list_sort.check _ _ _ _ _ _ _ _ ⟨_, g, rfl⟩ rfl ?_
  rw [ksk_t1]
  refine tree_run (N := N) Fo hb X.A.in1.in1 hr.in1.in1 ?_ (fun s H e => e.in1.in1) I2 nh g hD fD rv dn ok fun s' H' vs J sm hn dv => ?_
  · have := hr.un; show X.A.units + 1 + 1 + 40 < _; omega
  · refine wpAny_pure ?_
    refine ⟨.ref _, _, J, rfl, q _ vs _ (fun b u e => ?_) hD upd_same ?_⟩
    · rw [upd_ne (fun z => by rw [z, hD] at e; cases e)]; exact sm b u e
    · exact DenL.step (M := fun _ => False) ⟨fun b u e z => by
        rw [upd_ne (fun z => by rw [z, hn] at e; cases e)]; exact e, fun b hb => by
        rcases hb with hb | hb
        · exact .inl hb
        · subst hb; exact .inr hn⟩ _ _ dv
end
end L2
set_option Elab.async false
set_option linter.all false
set_option maxRecDepth 100000
namespace L2
open PySem PySem.Spec PyProof.Rows PySem.W
section
variable {X : Cx} {M : Fb} {H0 : Hp} {k : Nat} {fn : Addr} {fd : FuncData} {ps : List Str} {F : List Sl → Option Rv} {e : Expr} {f : VE → Option D} {x y : Str} {p p2 kpos pos : Pos}
noncomputable def sortKF (F : List Sl → Option Rv) (f : VE → Option D) : VE → Option (List D) := fun ρ => match f ρ with
  | some (.lst xs) => sortK F xs
  | _ => none
theorem vf_sortK (Fo : FnOk X.prog X.w X.K X.mg X.base CX0 k fn fd ps (spD X.K F)) (hr : Room (k + 2) X.A) (hg : Gl X x) (hm : X.mg x = none) (hv : bootBuiltins x = some (.builtin "sorted")) (hgf : Gl X y) (hmf : X.mg y = some (.ref fn)) (hb : Binds X.K fd ps []) (he : PE X e (tP X.K M H0 f))
    (hn : x ≠ "__name__" := by decide) (hdb : (x == ("__debug__" : Str)) = false := by decide) (hdb2 : (y == ("__debug__" : Str)) = false := by decide) (hs : starEach [e] X.env = (false, eval e X.env) :: starEach [] X.env := by exact star_c (fun _ _ z => nomatch z)) :
    PE X (.Call (.Name x p) [e] [⟨some "key", .Name y p2, kpos⟩] pos) (tF X.K M H0 (sortKF F f)) := by
  intro pins s σ H Q I h
  obtain ⟨ρ, ys, R, ev, q⟩ := h
  refine wpAny_Call_Name_kw (ld_blt I hg hm hv ?_ hn hdb)
  unfold sortKF at ev
  split at ev
  · next xs hf =>
    obtain ⟨ok, rfl⟩ := sortK_of ev
    have ha := (pa_cons he (pa_nil (X := X)) hs) pos pins s σ H (fun vs H1 => ∃ v, vs = [v] ∧ Same H H1 ∧ DenP X.K (Nf M ρ σ) H1 (.lst xs) v) I ⟨ρ, .lst xs, R, hf, fun v H1 s1 d1 => ⟨v, rfl, s1, d1⟩⟩
    have hkw := pk_cons (nm := some "key") (kpos := kpos) (pe_glob (v := .ref fn) (pos := p2) hgf hmf rfl hdb2) (pk_nil (X := X))
    rw [hs] at ha ⊢
    refine callWith_builtin_kwB rfl rfl ?_
    unfold evalArgs
    refine wpAny_bind (thn ha fun us s1 hh => ?_)
    obtain ⟨vs, H1, I1, r1, v, rfl, sm, d1⟩ := hh
    refine wpAny_bind (wpAny_pure ?_)
    refine wpAny_holding ?_
    refine wpAny_bind (thn (hkw pos pins s1 σ H1 (fun zs H2 => zs = [.ref fn] ∧ H2 = H1) I1 ⟨rfl, rfl⟩) fun ks s2 hh => ?_)
    obtain ⟨zs, H2, I2, r2, rfl, rfl⟩ := hh
    refine wpAny_bind (wpAny_pure ?_)
    refine wpAny_pure ?_
    obtain ⟨u, rfl, ru⟩ := vals1 r1
    obtain ⟨u2, rfl, ru2⟩ := vals1 r2
    cases ru2
    obtain ⟨a, ws, rfl, sq, dl⟩ := d1
    cases ru
    have R1 := R.st sm
    exact sorted_run (N := Nf M ρ σ) Fo hb hr I2 R1.nh sq dl ok fun da vs H' s' hn' hd' dv => q da vs H' (sm.trans s') (sm.none hn') hd' dv
  · cases ev
theorem j_vf_sortK (Fo : FnOk X.prog X.w X.K X.mg X.base CX0 k fn fd ps (spD X.K F)) (hr : Room (k + 2) X.A) (hg : Gl X x) (hm : X.mg x = none) (hv : bootBuiltins x = some (.builtin "sorted")) (hgf : Gl X y) (hmf : X.mg y = some (.ref fn)) (hb : Binds X.K fd ps []) (he : JE X e (tP X.K M H0 f))
    (hn : x ≠ "__name__" := by decide) (hdb : (x == ("__debug__" : Str)) = false := by decide) (hdb2 : (y == ("__debug__" : Str)) = false := by decide) (hs : starEach [e] X.env = (false, eval e X.env) :: starEach [] X.env := by exact star_c (fun _ _ z => nomatch z)) :
    JE X (.Call (.Name x p) [e] [⟨some "key", .Name y p2, kpos⟩] pos) (tF X.K M H0 (sortKF F f)) := ⟨vf_sortK Fo hr hg hm hv hgf hmf hb he.h hn hdb hdb2 hs⟩
end
end L2
set_option Elab.async false
set_option linter.all false
set_option maxRecDepth 100000
namespace L2
open PySem PySem.Spec PyProof.Rows
section
variable {X : Cx} {K : PySem.W.Frag} {M : Fb} {H0 : Hp} {pos : Pos} {tg elt iter : Expr} {ifs : List Expr} {scope : Scope} {ws : List Nat} {f : VE → Option (List D)} {b : D → VE → Option VE} {t : VE → Option Bool} {e : VE → Option D} {k : Nat} {oix : List Nat}
@[simp] theorem lstItems_lst (xs : List D) : lstItems (.lst xs) = some xs := rfl
end
end L2
set_option Elab.async false
set_option linter.all false
set_option maxRecDepth 100000
namespace L2
open PySem PySem.Spec PyProof.Rows PySem.W
theorem keys_miss : typeLookup (.type "list") ("keys" : Str) = pure none := am_miss_of_fast (by kernel_rfl)
theorem no_keys {prog : Program} {w : World} {A : Around} {E : Value → Shared → Prop} {s : Shared} {a : Addr} {its : Array Value} {Q : Option Value → Shared → Prop} (p : PlainL s.heap a its) (hA : A.handled = none)
    (q : ∀ h' tk, (∀ b o, s.heap.get? b = some o → h'.get? b = some o) → Q none { s with heap := h', toks := tk }) : wpAny (model prog w) A (getAttr? (.ref a) "keys") Q E s := by
  obtain ⟨o, n, e, hc, hd, hs⟩ := p
  obtain ⟨c, dc, dt, sl⟩ := o
  dsimp only at hc hd hs
  subst hc hd hs
  obtain ⟨hp, g, d, tk, os⟩ := s
  have ty : ∀ t, (⟨hp, g, d, t, os⟩ : Shared).TypeIs (.ref a) "list" := fun _ => ⟨_, e, rfl⟩
  have l1 := sub_AttributeError
  have l2 := F.slot_list_getattribute.lookup
  have l3 := F.slot_list_getattribute.bind (.ref a)
  have l4 := am_list_getattr_none
  unfold getAttr? getAttrBy? getAttrBy
  repeat (any_goals (first
    | assumption
    | exact ty _
    | ((with_reducible show wpAny _ _ (call (Value.builtin "list.__getattribute__") _ _) _ _ _)
       refine call_meets F.slot_list_getattribute (ty _) am_entry_list_getattribute (F.args_list_getattribute_2 _ _) (meets_getattribute_miss_list a its n sl "keys" _ keys_miss (by decide +kernel) (by decide +kernel)) ⟨e, hA, fun h1 t1 x1 new => ?_⟩)
    | wp_step))
  obtain ⟨x2, x3, ex⟩ := new.there
  show wpAny _ _ (getattributeRaised _ _ _ _ _ _ _) _ _ _
  unfold getattributeRaised
  repeat (any_goals (first | assumption | wp_step))
  exact q h1 _ new.keeps
theorem upd_loop_entry : entryFor table "dict.update.loop" = some Builtin.«dict.update.loop» := entryFor_of_tree (by kernel_rfl)
theorem upd_loop_plain : plainId "dict.update.loop" = true := by decide +kernel
section
variable {X : Cx} {pins : List (Addr × Obj)} {σ : St} {H : Hp} {s : Shared} {A : Around} {E : Value → Shared → Prop} {tr : List T3} {a : Addr} {k : KT} {y v : V} {u r : Value}
theorem dc_dictSet {Q : Unit → Shared → Prop} (hu : A.units + 1 < cLine) (I : Inv X pins σ H s) (e : H a = some (dcO tr)) (hkeys : ∀ t ∈ tr, KeyV X.K H t.1 t.2.1) (hk : homK k tr) (ky : KeyV X.K H k y) (ry : RelV y u) (rv : RelV v r) (hl : tr.length < sizeLine)
    (q : ∀ h' t', Inv X pins σ (upd H a (dcO (put3 tr k y v))) { s with heap := h', toks := t' } → Heap.SameBut a s.heap h' → Q () { s with heap := h', toks := t' }) : wpAny (model X.prog X.w) A.in1 (dictSet a u r) Q E s := by
  have h : IsDc X.K H a tr := ⟨.inl e, hkeys⟩
  have hl' : (put3 tr k y v).length ≤ sizeLine := by have := put3_len tr k y v; omega
  cases k with
  | «at» b =>
    cases ky
    obtain ⟨z, hd, nd, us, rel, dd⟩ := dct_at I h hk
    have hz : us.length ≤ sizeLine := by rw [← Paired.length rel]; exact z
    refine wpAny_dictSet_pairs (knd := atomKind X.prog X.w) (hsz := hz) (atV_is ry) dd fun h' dd' hs => q _ _ ?_ hs
    have he : ∃ q, h'.get? a = some q := let ⟨q, _, _, hq, _⟩ := dd'; ⟨q, hq⟩
    exact dc_write I (by rw [e]; exact True.intro) hs he (obj_at hl' hd (put3_nodup nd) (rel.put rv) dd')
  | tup l =>
    obtain ⟨p, ep, sq⟩ := ky
    subst ep
    cases (show u = Value.ref p from ry)
    obtain ⟨z, hd, nd, us, rel, dd⟩ := dct_tup I h hk
    have hz : us.length ≤ sizeLine := by rw [← Paired.length rel]; exact z
    refine wpAny_dictSet_heap (hsz := hz) (tupleKind_room_in1 hu) (key_tup I sq) dd fun h' dd' hs => q _ _ ?_ hs
    have he : ∃ q, h'.get? a = some q := let ⟨q, _, _, hq, _⟩ := dd'; ⟨q, hq⟩
    exact dc_write I (by rw [e]; exact True.intro) hs he (obj_tup hl' hd (put3_nodup nd) (rel.put rv) dd')
end
theorem keyV_same {K : PySem.W.Frag} {H H' : Hp} {k : KT} {v : V} (h : KeyV K H k v) (s : Same H H') : KeyV K H' k v := by
  cases k with
  | «at» a => exact h
  | tup l => obtain ⟨p, e, sq⟩ := h; exact ⟨p, e, sq.same s⟩
def foldPut : KDs → List D → Option KDs
  | kvs, [] => some kvs
  | kvs, .tup [y, d] :: r => match okK y with
    | some k => if homL k kvs && decide (kvs.length < sizeLine) then foldPut (putL kvs k d) r else none
    | none => none
  | _, _ => none
theorem pair_tup {M : Model} {A : Around} {E : Value → Shared → Prop} {s : Shared} {p : Addr} {its : Array Value} {Q : List Value → Shared → Prop} (h : IsTup s.heap p its) (q : Q its.toList s) : wpAny M A (Builtin.Dict.pairItems (.ref p)) Q E s := by
  obtain ⟨o, e, hc, n, hd⟩ := h
  unfold Builtin.Dict.pairItems
  refine wpAny_bind (wpAny_typeOf (T := "tuple") ⟨o, e, hc⟩ ?_)
  rw [if_pos (by decide)]
  unfold seqItems?
  refine wpAny_bind (wpAny_bind (wpAny_load e ?_))
  rw [hd]
  exact wpAny_pure (wpAny_pure q)
section
variable {X : Cx} {pins : List (Addr × Obj)} {σ : St} {H : Hp} {A : Around} {a it l : Addr} {N : Fb} {us : List Value} {R : Result → Shared → Prop}
theorem pairs_loop (hu : A.units + 1 < cLine) (hA : A.in1.handled = none) (hH : H a = none) (fp : FpOk X pins H it) (hia : it ≠ a) (hil : l ≠ it) (hla : l ≠ a) : ∀ (ds : List D) (vs : List V) (ws : List Value) (i : Nat) (s : Shared) (kvs : KDs) (tr : List T3) (kvs' : KDs),
    us.drop i = ws → Vals vs ws → DenL X.K N H ds vs → PD X.K N H kvs tr → Inv X pins σ (upd H a (dcO tr)) s → s.heap.IsListIter it l i → s.heap.IsList l us.toArray → foldPut kvs ds = some kvs' →
    (∀ s' tr', Inv X pins σ (upd H a (dcO tr')) s' → PD X.K N H kvs' tr' → R (.ok (.ret .none)) s') →
    codeAny (model X.prog X.w) A (.builtin "dict.update.loop" ⟨[.ref a, .ref it, rawInt (i : Int), .none], []⟩) R s
  | [], vs, ws, i, s, kvs, tr, kvs', hd, hv, dn, pd, I, hit, hl, hf, q => by
    cases dn
    cases hv
    cases hf
    refine codeAny_builtin upd_loop_entry ?_
    rw [Around.under_plainId upd_loop_plain _]
    show wpAny _ A.in1 (pyNext (.ref it) >>= _) _ _ s
    have hno : us.toArray[i]? = none := by
      have := List.drop_eq_nil_iff.mp hd
      simp [this]
    refine wpAny_bind (wpAny_pyNext_list_end hA hit hl hno fun h' ke => ?_)
    have I' := I.turned (t' := s.toks) (fun b o hb e => ke b o hb e) (by rw [upd_ne hia]; exact fp.1) fp.2.1 fp.2.2.2.1 fp.2.2.2.2.1 fp.2.2.2.2.2
    exact wpAny_bind (wpAny_pure (wpAny_pure (q _ tr I' pd)))
  | d :: ds, vs, ws, i, s, kvs, tr, kvs', hd, hv, dn, pd, I, hit, hl, hf, q => by
    simp only [DenL] at dn
    obtain ⟨v, vs', rfl, d1, dn'⟩ := dn
    cases hv with
    | @cons _ u _ ws' rv hv' =>
    unfold foldPut at hf
    split at hf
    · cases ‹_ :: _ = []›
    · next y dd r e1 =>
      cases e1
      cases hk : okK y with
      | none => rw [hk] at hf; cases hf
      | some k =>
        rw [hk] at hf
        dsimp only at hf
        split at hf
        · next hc =>
          rw [Bool.and_eq_true, decide_eq_true_eq] at hc
          have ey := okK_inv hk
          subst ey
          simp only [Den] at d1
          obtain ⟨p, vs2, rfl, sq, dl⟩ := d1
          simp only [DenL] at dl
          obtain ⟨kv, r2, rfl, dk, vv, r3, rfl, dv, rfl⟩ := dl
          cases rv
          have hat : us.toArray[i]? = some (.ref p) := by
            have h0 : (us.drop i)[0]? = some (Value.ref p) := by rw [hd]; rfl
            rw [List.getElem?_drop] at h0
            simpa using h0
          have hd' : us.drop (i + 1) = ws' := by
            rw [← List.tail_drop, hd]; rfl
          refine codeAny_builtin upd_loop_entry ?_
          rw [Around.under_plainId upd_loop_plain _]
          show wpAny _ A.in1 (pyNext (.ref it) >>= _) _ _ s
          refine wpAny_bind (wpAny_pyNext_list_item hit hl hat fun h' hit' sb => ?_)
          have I' := I.turned (t' := s.toks) (fun b o hb e => (sb.2 b hb).trans e) (by rw [upd_ne hia]; exact fp.1) fp.2.1 fp.2.2.2.1 fp.2.2.2.2.1 fp.2.2.2.2.2
          have sm : Same H (upd H a (dcO tr)) := same_new hH
          obtain ⟨its, rv2, ht, _⟩ := I'.tuple (sq.same sm)
          obtain ⟨u1, u2, rfl, r1, r2⟩ := vals2 rv2
          have hl' : h'.IsList l us.toArray := hl.at fun o e => (sb.2 l hil).trans e
          refine wpAny_bind (wpAny_holding ?_)
          refine wpAny_bind (wpAny_tryCatch (pair_tup ht ?_))
          dsimp only
          refine wpAny_holding ?_
          refine dc_dictSet hu I' upd_same (fun t ht => keyV_same (pd.keys t ht) sm) (pd.hom hc.1) (keyV_same (den_key dk) sm) r1 r2 (by have := Paired.length pd; omega) fun h2 t2 I2 sb2 => ?_
          rw [upd_upd] at I2
          refine wpAny_pure ⟨plainId_quiet upd_loop_plain _, ?_⟩
          have e2 : rawInt ((i : Int) + 1) = rawInt ((i + 1 : Nat) : Int) := by simp
          rw [e2]
          refine pairs_loop hu hA hH fp hia hil hla ds vs' ws' (i + 1) _ (putL _ k dd) (put3 tr k kv vv) kvs' hd' hv' dn' (pd.put dk dv) I2 ?_ ?_ hf q
          · obtain ⟨o, e, hh⟩ := hit'
            exact ⟨o, (sb2.2 it hia).trans e, hh⟩
          · exact hl'.at fun o e => (sb2.2 l hla).trans e
        · cases hf
    · cases hf
theorem call_pairs (hc : X.calm = true) (hu : X.A.units + 64 < cLine) {s : Shared} {E : Value → Shared → Prop} {Q : VK} (I : Inv X pins σ H s) {ds : List D} {vs : List V} {kvs : KDs} (sq : SqL X.K H l vs) (dn : DenL X.K N H ds vs) (hf : foldPut [] ds = some kvs)
    (q : ∀ tr p, H p = none → PD X.K N H kvs tr → Q (.ref p) (upd H p (dcO tr))) : wpAny (model X.prog X.w) X.A (call (.type "dict") [.ref l]) (EP X pins σ Q) E s := by
  obtain ⟨us, rv, pl, hz⟩ := I.list sq
  have hlt : l < s.heap.objs.size := by obtain ⟨o, n, e, _⟩ := pl; exact Heap.lt_size e
  have hA : X.A.handled = none := I.ok.hd hc
  refine callType_codes (Q₁ := fun x s1 => x = .ref s.heap.objs.size ∧ s1 = { s with heap := s.heap.push { cls := .type "dict", data := .dict #[] } }) F.kt_called_dict (F.kt_typeCall_dict_1 (.ref l)) F.entry_dict_init (kt_code_dict_new (.ref l) ⟨rfl, rfl⟩) ?_
  rintro x s1 ⟨rfl, rfl⟩
  have hfr : H s.heap.objs.size = none := I.hok.fresh (Nat.le_refl _)
  have I1 : Inv X pins σ (upd H s.heap.objs.size (dcO [])) { s with heap := s.heap.push { cls := .type "dict", data := .dict #[] } } :=
    I.laid (a := s.heap.objs.size) (o := dcO []) (t' := s.toks) (fun _ _ z => Heap.get?_push_of_some _ z) (Nat.le_refl _) ⟨Nat.zero_le _, beq_eq_false_iff_ne.mpr (Ne.symm (Nat.ne_of_lt I.big)), List.nodup_nil, _, #[], 0, Heap.get?_push_size _ rfl, ⟨rfl, rfl, rfl⟩, rfl, rfl, rfl⟩
  have pl1 : PlainL (s.heap.push { cls := .type "dict", data := .dict #[] }) l us.toArray := by
    obtain ⟨o, n, e, hh⟩ := pl
    exact ⟨o, n, Heap.get?_push_of_some _ e, hh⟩
  have ty1 : Shared.TypeIs { s with heap := s.heap.push { cls := .type "dict", data := .dict #[] } } (.ref s.heap.objs.size) "dict" := ⟨_, Heap.get?_push_size _ rfl, rfl⟩
  refine ⟨ty1, F.args_dict_init_2 _ _, ?_⟩
  unfold Builtin.«dict.__init__» Builtin.Dict.selfAndRest
  refine wpAny_bind (wpAny_bind (wpAny_notOrdered_dict ty1 ?_))
  show wpAny _ _ (pure (s.heap.objs.size, [Value.ref l])) _ _ _
  refine wpAny_pure ?_
  show wpAny _ _ (Builtin.Dict.updateFrom "dict.__init__" s.heap.objs.size (.ref l) [] .none) _ _ _
  unfold Builtin.Dict.updateFrom
  refine wpAny_bind (wpAny_typeOf (T := "list") (by obtain ⟨o, n, e, hh, _⟩ := pl1; exact ⟨o, e, hh⟩) ?_)
  rw [if_pos (by decide)]
  refine wpAny_bind (no_keys pl1 hA fun h2 t2 k2 => ?_)
  rw [if_pos (show (none : Option Value).isNone = true from rfl)]
  have I2 := I1.kept (h' := h2) (t' := t2) k2
  have pl2 : PlainL h2 l us.toArray := by
    obtain ⟨o, n, e, hh⟩ := pl1
    exact ⟨o, n, k2 _ _ e, hh⟩
  refine wpAny_bind (wpAny_rule ?_)
  refine wpAny_bind (wpAny_pyIter_list pl2.isList ?_)
  have I3 := I2.kept (h' := h2.push { cls := .type "list_iterator", data := .fields #[.ref l, .int 0 0] }) (t' := t2) fun b o e => Heap.get?_push_of_some _ e
  have hsz : s.heap.objs.size < h2.objs.size := Heap.lt_size (k2 _ _ (Heap.get?_push_size _ rfl))
  have fp : FpOk X pins H h2.objs.size := I2.fpOk (Nat.le_refl _) (by
    have := I2.hok.fresh (a := h2.objs.size) (Nat.le_refl _)
    rw [upd_ne (Nat.ne_of_gt hsz)] at this
    exact this)
  refine wpAny_pure ⟨plainId_quiet upd_loop_plain _, ?_⟩
  refine pairs_loop (A := X.A.in1) (N := N) (us := us) (by show X.A.units + 1 + 1 < cLine; omega) hA hfr fp (Nat.ne_of_gt hsz) (Nat.ne_of_lt (Nat.lt_trans hlt hsz)) (Nat.ne_of_lt hlt) ds vs us 0 _ [] [] kvs rfl rv dn .nil I3 ⟨_, Heap.get?_push_size _ rfl, rfl, rfl⟩ ?_ hf fun s' tr' I' pd => ?_
  · exact pl2.isList.push _
  · exact ⟨rfl, .ref s.heap.objs.size, _, I', rfl, q tr' _ hfr pd⟩
end
theorem boot_dict : bootBuiltins "dict" = some (.type "dict") := by kernel_rfl
def dictF (f : VE → Option D) : VE → Option (List D) := fun ρ => match f ρ with
  | some (.lst xs) => (foldPut [] xs).map flatD
  | _ => none
section
variable {X : Cx} {M : Fb} {H0 : Hp} {e : Expr} {f : VE → Option D} {p pos : Pos}
theorem vd_of (hc : X.calm = true) (hu : X.A.units + 64 < cLine) (hg : Gl X "dict") (hm : X.mg "dict" = none) (he : PE X e (tP X.K M H0 f)) (hs : starEach [e] X.env = (false, eval e X.env) :: starEach [] X.env := by exact star_c (fun _ _ z => nomatch z)) :
    PE X (.Call (.Name "dict" p) [e] [] pos) (tFb true X.K M H0 (dictF f)) := by
  intro pins s σ H Q I h
  obtain ⟨ρ, ys, R, ev, q⟩ := h
  unfold dictF at ev
  split at ev
  · next xs hf =>
    cases hp : foldPut [] xs with
    | none => rw [hp] at ev; cases ev
    | some kvs =>
      rw [hp] at ev
      cases ev
      have ha := (pa_cons he (pa_nil (X := X)) hs) pos pins s σ H (fun vs H1 => ∃ v, vs = [v] ∧ Same H H1 ∧ DenP X.K (Nf M ρ σ) H1 (.lst xs) v) I ⟨ρ, .lst xs, R, hf, fun v H1 s1 d1 => ⟨v, rfl, s1, d1⟩⟩
      refine Call_ (ld_blt I hg hm boot_dict (PyProof.Rows.callWith_type1 (thn ha fun us s1 hh => ?_) (by rw [hs]) rfl))
      obtain ⟨vs, H1, I1, r1, v, rfl, sm, d1⟩ := hh
      obtain ⟨u, rfl, ru⟩ := vals1 r1
      obtain ⟨a, ws, rfl, sq, dl⟩ := d1
      cases ru
      refine call_pairs hc hu I1 sq dl hp fun tr b hb pd => ?_
      have := tF_new (K := X.K) (M := M) (ρ := ρ) (σ := σ) (fl := true) (Q := Q) (xs := flatD kvs) (vs := flat3 tr) (p := b) sm hb pd.flat q
      rw [co_flat pd] at this
      exact this
  · cases ev
theorem j_vd_of (hc : X.calm = true) (hu : X.A.units + 64 < cLine) (hg : Gl X "dict") (hm : X.mg "dict" = none) (he : JE X e (tP X.K M H0 f)) (hs : starEach [e] X.env = (false, eval e X.env) :: starEach [] X.env := by exact star_c (fun _ _ z => nomatch z)) :
    JE X (.Call (.Name "dict" p) [e] [] pos) (tFb true X.K M H0 (dictF f)) := ⟨vd_of hc hu hg hm he.h hs⟩
end
end L2
set_option Elab.async false
set_option linter.all false
set_option maxRecDepth 100000
namespace L2
open PySem PySem.Spec PyProof.Rows
@[simp] theorem eqD_ii (a b : Int) : eqD (.int a) (.int b) = decide (a = b) := by simp only [eqD]; by_cases h : a = b <;> simp [h]
@[simp] theorem eqD_ss (a b : Str) : eqD (.str a) (.str b) = decide (a = b) := by simp only [eqD]; by_cases h : a = b <;> simp [h]
@[simp] theorem eqD_bb (a b : Bool) : eqD (.bl a) (.bl b) = decide (a = b) := by simp only [eqD]; by_cases h : a = b <;> simp [h]
@[simp] theorem eqD_nn : eqD .non .non = true := by simp only [eqD]
@[simp] theorem eqD_bi (a : Bool) (b : Int) : eqD (.bl a) (.int b) = decide ((if a then 1 else 0) = b) := by simp only [eqD]; by_cases h : (if a then 1 else 0) = b <;> simp [h]
@[simp] theorem eqD_ib (a : Int) (b : Bool) : eqD (.int a) (.bl b) = decide (a = (if b then 1 else 0)) := by simp only [eqD]; by_cases h : a = (if b then 1 else 0) <;> simp [h]
@[simp] theorem eqD_is (a : Int) (b : Str) : eqD (.int a) (.str b) = false := by simp only [eqD]
@[simp] theorem eqD_si (a : Str) (b : Int) : eqD (.str a) (.int b) = false := by simp only [eqD]
@[simp] theorem eqD_bs (a : Bool) (b : Str) : eqD (.bl a) (.str b) = false := by simp only [eqD]
@[simp] theorem eqD_sb (a : Str) (b : Bool) : eqD (.str a) (.bl b) = false := by simp only [eqD]
@[simp] theorem eqD_ni (b : Int) : eqD .non (.int b) = false := by simp only [eqD]
@[simp] theorem eqD_ns (b : Str) : eqD .non (.str b) = false := by simp only [eqD]
@[simp] theorem eqD_nb (b : Bool) : eqD .non (.bl b) = false := by simp only [eqD]
@[simp] theorem eqD_in (b : Int) : eqD (.int b) .non = false := by simp only [eqD]
@[simp] theorem eqD_sn (b : Str) : eqD (.str b) .non = false := by simp only [eqD]
@[simp] theorem eqD_bn (b : Bool) : eqD (.bl b) .non = false := by simp only [eqD]
@[simp] theorem eqD_tt (a b : List D) : eqD (.tup a) (.tup b) = eqDs a b := by simp only [eqD]
@[simp] theorem eqD_ll (a b : List D) : eqD (.lst a) (.lst b) = eqDs a b := by simp only [eqD]
@[simp] theorem eqD_tl (a b : List D) : eqD (.tup a) (.lst b) = false := by simp only [eqD]
@[simp] theorem eqD_lt (a b : List D) : eqD (.lst a) (.tup b) = false := by simp only [eqD]
@[simp] theorem eqD_ti (a : List D) (b : Int) : eqD (.tup a) (.int b) = false := by simp only [eqD]
@[simp] theorem eqD_ts (a : List D) (b : Str) : eqD (.tup a) (.str b) = false := by simp only [eqD]
@[simp] theorem eqD_tn (a : List D) : eqD (.tup a) .non = false := by simp only [eqD]
@[simp] theorem eqD_tb (a : List D) (b : Bool) : eqD (.tup a) (.bl b) = false := by simp only [eqD]
@[simp] theorem eqD_it (a : List D) (b : Int) : eqD (.int b) (.tup a) = false := by simp only [eqD]
@[simp] theorem eqD_st (a : List D) (b : Str) : eqD (.str b) (.tup a) = false := by simp only [eqD]
@[simp] theorem eqD_nt (a : List D) : eqD .non (.tup a) = false := by simp only [eqD]
@[simp] theorem eqD_bt (a : List D) (b : Bool) : eqD (.bl b) (.tup a) = false := by simp only [eqD]
@[simp] theorem eqD_li (a : List D) (b : Int) : eqD (.lst a) (.int b) = false := by simp only [eqD]
@[simp] theorem eqD_ls (a : List D) (b : Str) : eqD (.lst a) (.str b) = false := by simp only [eqD]
@[simp] theorem eqD_ln (a : List D) : eqD (.lst a) .non = false := by simp only [eqD]
@[simp] theorem eqD_lb (a : List D) (b : Bool) : eqD (.lst a) (.bl b) = false := by simp only [eqD]
@[simp] theorem eqD_il (a : List D) (b : Int) : eqD (.int b) (.lst a) = false := by simp only [eqD]
@[simp] theorem eqD_sl (a : List D) (b : Str) : eqD (.str b) (.lst a) = false := by simp only [eqD]
@[simp] theorem eqD_nl (a : List D) : eqD .non (.lst a) = false := by simp only [eqD]
@[simp] theorem eqD_bl' (a : List D) (b : Bool) : eqD (.bl b) (.lst a) = false := by simp only [eqD]
@[simp] theorem eqDs_nil : eqDs [] [] = true := by simp only [eqDs]
@[simp] theorem eqDs_cons (a b : D) (as bs : List D) : eqDs (a :: as) (b :: bs) = (eqD a b && eqDs as bs) := by simp only [eqDs]
@[simp] theorem eqDs_nc (b : D) (bs : List D) : eqDs [] (b :: bs) = false := by simp only [eqDs]
@[simp] theorem eqDs_cn (b : D) (bs : List D) : eqDs (b :: bs) [] = false := by simp only [eqDs]
@[simp] theorem eqDs_ints : ∀ (a b : List Int), eqDs (a.map D.int) (b.map D.int) = decide (a = b)
  | [], [] => by simp
  | [], _ :: _ => by simp
  | _ :: _, [] => by simp
  | x :: a, y :: b => by simp [eqDs_ints a b]
@[simp] theorem okD_ints (n : Nat) (a : List Int) : (a.map D.int).all (okD n) = true := by
  rw [List.all_eq_true]
  intro x hx
  obtain ⟨i, _, rfl⟩ := List.mem_map.mp hx
  cases n <;> rfl
@[simp] theorem tyLe_eq (t n : String) : tyLe t n = (t == n || (t == "bool" && n == "int")) := rfl
@[simp] theorem tyNames_eq : tyNames = ["NoneType", "bool", "int", "str", "tuple", "list"] := rfl
@[simp] theorem deep_eq : deep = 12 := rfl
@[simp] theorem tysL_nil : tysOf.tysL [] = some [] := rfl
@[simp] theorem tysL_cons (n : String) (r : List D) : tysOf.tysL (.ty n :: r) = (tysOf.tysL r).map (n :: ·) := rfl
@[simp] theorem asIs_eq (ns : List Int) : asIs (ns.map D.int) = some ns := asIs_ints ns
@[simp] theorem asBs_eq : ∀ (ns : List Bool), asBs (ns.map D.bl) = some ns
  | [] => rfl
  | n :: ns => by simp only [List.map_cons, asBs, asBs_eq ns]; rfl
theorem compL_map {α : Type} {b : D → VE → Option VE} {e : VE → Option D} {ρ : VE} (G F : α → D) : ∀ (xs : List α), (∀ x ∈ xs, ∃ ρ1, b (G x) ρ = some ρ1 ∧ e ρ1 = some (F x)) → compL b (fun _ => some true) e ρ (xs.map G) = some (xs.map F)
  | [], _ => rfl
  | x :: xs, h => by
    obtain ⟨ρ1, h1, h2⟩ := h x List.mem_cons_self
    simp only [List.map_cons, compL, h1, h2, consO, Option.bind, compL_map G F xs fun y hy => h y (List.mem_cons_of_mem _ hy)]
@[simp] theorem short_le {α : Type} (l : List α) (h : l.length ≤ 1000000) : shortO (some l) = some l := by
  have : l.length ≤ sizeLine := Nat.le_trans h (by decide)
  simp [this]
theorem cutD_map {α β : Type} (f : α → β) (xs : List α) (lo hi : Option Int) : cutD (xs.map f) lo hi = (cutD xs lo hi).map f := by
  unfold cutD
  rw [List.length_map, List.map_take, List.map_drop]
theorem cut_to {α : Type} (xs : List α) (k : Int) (h : 0 ≤ k) : cutD xs none (some k) = xs.take k.toNat := by
  have e : HT.sIx xs.length 0 none = 0 := rfl
  have e2 : HT.sIx xs.length xs.length (some k) = min k.toNat xs.length := by simp only [HT.sIx]; split <;> omega
  unfold cutD
  rw [e, e2, List.drop_zero, Nat.sub_zero]
  rcases Nat.le_total k.toNat xs.length with h1 | h1
  · rw [Nat.min_eq_left h1]
  · rw [Nat.min_eq_right h1, List.take_length, List.take_of_length_le h1]
theorem cut_from {α : Type} (xs : List α) (k : Int) (h : 0 ≤ k) : cutD xs (some k) none = xs.drop k.toNat := by
  have e : HT.sIx xs.length xs.length none = xs.length := rfl
  have e2 : HT.sIx xs.length 0 (some k) = min k.toNat xs.length := by simp only [HT.sIx]; split <;> omega
  unfold cutD
  rw [e, e2]
  rcases Nat.le_total k.toNat xs.length with h1 | h1
  · rw [Nat.min_eq_left h1, List.take_of_length_le (by rw [List.length_drop]; exact Nat.le_refl _)]
  · rw [Nat.min_eq_right h1, List.drop_length, List.drop_of_length_le h1, List.take_nil]
theorem cut_mid {α : Type} (xs : List α) (i j : Int) (hi : 0 ≤ i) (hj : 0 ≤ j) : cutD xs (some i) (some j) = (xs.drop i.toNat).take (j.toNat - i.toNat) := by
  have e1 : HT.sIx xs.length 0 (some i) = min i.toNat xs.length := by simp only [HT.sIx]; split <;> omega
  have e2 : HT.sIx xs.length xs.length (some j) = min j.toNat xs.length := by simp only [HT.sIx]; split <;> omega
  unfold cutD
  rw [e1, e2]
  rcases Nat.le_total i.toNat xs.length with h1 | h1
  · rw [Nat.min_eq_left h1]
    rcases Nat.le_total j.toNat xs.length with h2 | h2
    · rw [Nat.min_eq_left h2]
    · rw [Nat.min_eq_right h2, List.take_of_length_le (by rw [List.length_drop]; exact Nat.le_refl _), List.take_of_length_le (by rw [List.length_drop]; omega)]
  · rw [Nat.min_eq_right h1, List.drop_length, List.drop_of_length_le h1, List.take_nil, List.take_nil]
@[simp] theorem sortD_eq (ns : List Int) : sortD [.lst (ns.map D.int)] = if ns.length < 64 then some ((isrt ns).map D.int) else none := by simp [sortD]
theorem rng1_int (j : Int) (h0 : 0 ≤ j) (h : j < 1000000000) : rng1 [.int j] = some ((List.range j.toNat).map fun (k : Nat) => D.int (k : Int)) := by
  have e : rngItems 0 j.toNat = (List.range j.toNat).map fun (k : Nat) => D.int (k : Int) := by simp [rngItems]
  simp only [rng1]
  rw [gd_pos ⟨by omega, by omega⟩, e]
theorem rng1_nat (n : Nat) (h : n < 1000000000) : rng1 [.int (n : Int)] = some ((List.range n).map fun (k : Nat) => D.int (k : Int)) := by
  rw [rng1_int _ (by omega) (by omega), Int.toNat_natCast]
theorem rng2_int (i j : Int) (h0 : 0 ≤ i) (h1 : i < 1000000000) (h : j < 1000000000) (h2 : -1000000000 < j) : rng2 [.int i, .int j] = some ((List.range (j - i).toNat).map fun (k : Nat) => D.int (i + (k : Int))) := by
  simp only [rng2]
  rw [gd_pos ⟨by omega, by omega, by omega, by omega⟩]
  rfl
theorem addD_lst (xs ys : List D) (h : xs.length + ys.length ≤ 1000000) : addD (.lst xs) (.lst ys) = some (.lst (xs ++ ys)) := by
  simp only [addD]
  rw [if_pos (Nat.le_trans h (by decide))]
theorem addD_tup (xs ys : List D) (h : xs.length + ys.length ≤ 1000000) : addD (.tup xs) (.tup ys) = some (.tup (xs ++ ys)) := by
  simp only [addD]
  rw [if_pos (Nat.le_trans h (by decide))]
theorem addD_str (x y : Str) (h : x.length + y.length ≤ 1000000) : addD (.str x) (.str y) = some (.str (x ++ y)) := by
  simp only [addD]
  rw [if_pos (Nat.le_trans h (by decide))]
theorem inD_one (neg : Bool) (c : Nat) (z : Str) : inD neg (.str ⟨#[c]⟩) (.str z) = some (.bl (if neg then !decide (c ∈ z.cps.toList) else decide (c ∈ z.cps.toList))) := by
  have h := StrLaws.found_one z c
  simp only [inD]
  rw [h]
theorem ixN_ok {n : Nat} {i : Int} (h0 : 0 ≤ i) (h1 : i < n) : ixN n i = some i.toNat := by unfold ixN; rw [if_pos h0, if_pos h1]
theorem atI_ok {α : Type} {xs : List α} {i : Int} (h0 : 0 ≤ i) (h1 : i < xs.length) : ∃ x, atI xs i = some x ∧ x ∈ xs := by
  have h : i.toNat < xs.length := by omega
  refine ⟨xs[i.toNat], ?_, List.getElem_mem _⟩
  unfold atI
  rw [ixN_ok h0 h1]
  exact List.getElem?_eq_getElem h
@[simp] theorem rvD_v (d : D) : rvD (.val d) = d := rfl
@[simp] theorem rvD_o (xs : List D) (b : Bool) : rvD (.own xs b) = .lst xs b := rfl
end L2
set_option Elab.async false
set_option linter.all false
set_option maxRecDepth 100000
set_option maxHeartbeats 4000000
namespace K22
open PySem PySem.Spec PyProof.Rows L2
noncomputable def g_is_whole : VE → Res := (fun ρ => seqR ((fun ρ => retO ((fun ρ => blO (andO (asB ((bltO isD (fun ρ => consO (rdA ρ 0) ((fun ρ => consO (valO ((fun _ => some (.ty "int")) ρ)) ((fun _ => some []) ρ)) ρ))) ρ)) (asB ((fun ρ => blO (notO (asB ((bltO isD (fun ρ => consO (rdA ρ 0) ((fun ρ => consO (valO ((fun _ => some (.ty "bool")) ρ)) ((fun _ => some []) ρ)) ρ))) ρ)))) ρ)))) ρ)) ρ) (fun ρ => .next ρ))
noncomputable def F_is_whole : List Sl → Option Rv := fnP 1 1 g_is_whole
noncomputable def C_is_word_0 : VE → Option D := (fun ρ => blO (orB (asB ((bin2 (inD false) (fun ρ => rdP ρ 0) (fun _ => some (.str "abcdefghijklmnopqrstuvwxyz"))) ρ)) (asB ((bin2 (inD false) (fun ρ => rdP ρ 0) (fun _ => some (.str "0123456789"))) ρ))))
noncomputable def g_is_word : VE → Res := (fun ρ => seqR ((fun ρ => iteR ((fun ρ => notO ((fun ρ => truD ((bltO isD (fun ρ => consO (rdA ρ 0) ((fun ρ => consO (valO ((fun _ => some (.ty "str")) ρ)) ((fun _ => some []) ρ)) ρ))) ρ)) ρ)) ρ) ((fun ρ => seqR ((fun ρ => retO ((fun _ => some (.bl false)) ρ)) ρ) (fun ρ => .next ρ)) ρ) ((fun ρ => .next ρ) ρ)) ρ) (fun ρ => seqR ((fun ρ => iteR ((fun ρ => orB ((fun ρ => asB ((bin2 ltO (bltO lenD (fun ρ => consO (rdA ρ 0) ((fun _ => some []) ρ))) (fun _ => some (.int (1)))) ρ)) ρ) ((fun ρ => asB ((bin2 gtD (bltO lenD (fun ρ => consO (rdA ρ 0) ((fun _ => some []) ρ))) (fun _ => some (.int (12)))) ρ)) ρ)) ρ) ((fun ρ => seqR ((fun ρ => retO ((fun _ => some (.bl false)) ρ)) ρ) (fun ρ => .next ρ)) ρ) ((fun ρ => .next ρ) ρ)) ρ) (fun ρ => seqR ((fun ρ => retO ((fun ρ => blO (andO (asB ((bin2 (inD false) (bin2 ixD (fun ρ => rdP ρ 0) (fun _ => some (.int (0)))) (fun _ => some (.str "abcdefghijklmnopqrstuvwxyz"))) ρ)) (asB ((bltO allD (fun ρ => consO (valO ((fun ρ => lstO ((compF 1 [] (fun ρ => ((fun ρ => rdQ ρ 0) ρ).bind seqItems) (bName 0) (fun _ => some true) C_is_word_0) ρ)) ρ)) ((fun _ => some []) ρ))) ρ)))) ρ)) ρ) (fun ρ => .next ρ))))
noncomputable def F_is_word : List Sl → Option Rv := fnP 1 1 g_is_word
noncomputable def g_whole_of : VE → Res := (fun ρ => seqR ((fun ρ => retO ((bltO lenD (fun ρ => consO (valO ((bin2 ixD (fun ρ => rdP ρ 0) (fun _ => some (.int (0)))) ρ)) ((fun _ => some []) ρ))) ρ)) ρ) (fun ρ => .next ρ))
noncomputable def F_whole_of : List Sl → Option Rv := fnP 1 1 g_whole_of
noncomputable def g_line_at : VE → Res := (fun ρ => seqR ((fun ρ => retO ((fun ρ => iteO ((fun ρ => asB ((bin2 ltO (fun ρ => rdP ρ 1) (bltO lenD (fun ρ => consO (rdA ρ 0) ((fun _ => some []) ρ)))) ρ)) ρ) ((bin2 ixD (fun ρ => rdP ρ 0) (fun ρ => rdP ρ 1)) ρ) ((fun _ => some .non) ρ)) ρ)) ρ) (fun ρ => .next ρ))
noncomputable def F_line_at : List Sl → Option Rv := fnP 2 2 g_line_at
noncomputable def g_law_cell_at : VE → Res := (fun ρ => seqR ((fun ρ => iteR ((fun ρ => asB ((bin2 ltO (fun ρ => rdP ρ 1) (bltO lenD (fun ρ => consO (rdA ρ 0) ((fun _ => some []) ρ)))) ρ)) ρ) ((fun ρ => seqR ((fun ρ => retO ((bin2 ixD (fun ρ => rdP ρ 0) (fun ρ => rdP ρ 1)) ρ)) ρ) (fun ρ => .next ρ)) ρ) ((fun ρ => .next ρ) ρ)) ρ) (fun ρ => seqR ((fun ρ => retO ((fun _ => some (.int (0))) ρ)) ρ) (fun ρ => .next ρ)))
noncomputable def F_law_cell_at : List Sl → Option Rv := fnP 2 2 g_law_cell_at
noncomputable def L_law_stream_0 : VE → Res := (fun ρ => seqR ((fun ρ => setR 2 ((bin2 modD (bin2 mulD (fun ρ => rdP ρ 2) (fun _ => some (.int (48271)))) (fun _ => some (.int (2147483647)))) ρ) ρ) ρ) (fun ρ => seqR ((fun ρ => appR 3 ((fun ρ => rdV ρ 2) ρ) ρ) ρ) (fun ρ => .next ρ)))
noncomputable def P_law_stream_0 : VE → Res := (fun ρ => setR 2 ((bin2 addD (fun _ => some (.int (1))) (bin2 modD (fun ρ => rdP ρ 0) (fun _ => some (.int (2147483646))))) ρ) ρ)
noncomputable def P_law_stream_1 : VE → Res := (fun ρ => setRF 3 ((fun ρ => shortO (((fun _ => some []) ρ).bind vals)) ρ) ρ)
noncomputable def P_law_stream_2 : VE → Res := (forO (fun ρ => (((fun ρ => consO (valO ((bin2 addD (fun ρ => rdP ρ 1) (fun _ => some (.int (2)))) ρ)) ((fun _ => some []) ρ)) ρ).bind vals).bind rng1) (bName 4) L_law_stream_0)
noncomputable def P_law_stream_3 : VE → Res := (fun ρ => retO ((sl3 (fun ρ => rdP ρ 3) (fun ρ => asI ((fun _ => some (.int (2))) ρ)) (fun _ => some none) slD) ρ))
noncomputable def S_law_stream_4 : VE → Res := fun ρ => .next ρ
noncomputable def S_law_stream_3 : VE → Res := fun ρ => seqR (P_law_stream_3 ρ) S_law_stream_4
noncomputable def S_law_stream_2 : VE → Res := fun ρ => seqR (P_law_stream_2 ρ) S_law_stream_3
noncomputable def S_law_stream_1 : VE → Res := fun ρ => seqR (P_law_stream_1 ρ) S_law_stream_2
noncomputable def S_law_stream_0 : VE → Res := fun ρ => seqR (P_law_stream_0 ρ) S_law_stream_1
noncomputable def g_law_stream : VE → Res := S_law_stream_0
noncomputable def F_law_stream : List Sl → Option Rv := fnP 2 5 g_law_stream
noncomputable def g_law_at : VE → Res := (fun ρ => seqR ((fun ρ => iteR ((fun ρ => asB ((bin2 eqO (fun ρ => rdP ρ 1) (bltO lenD (fun ρ => consO (rdA ρ 0) ((fun _ => some []) ρ)))) ρ)) ρ) ((fun ρ => seqR ((fun ρ => retO ((fun _ => some .non) ρ)) ρ) (fun ρ => .next ρ)) ρ) ((fun ρ => .next ρ) ρ)) ρ) (fun ρ => seqR ((fun ρ => retO ((bin2 ixD (fun ρ => rdP ρ 0) (fun ρ => rdP ρ 1)) ρ)) ρ) (fun ρ => .next ρ)))
noncomputable def F_law_at : List Sl → Option Rv := fnP 2 2 g_law_at
noncomputable def L_law_copied_0 : VE → Res := (fun ρ => seqR ((fun ρ => iteR ((fun ρ => truD ((bltO isD (fun ρ => consO (rdA ρ 4) ((fun ρ => consO (valO ((fun _ => some (.ty "list")) ρ)) ((fun _ => some []) ρ)) ρ))) ρ)) ρ) ((fun ρ => seqR ((fun ρ => appR 1 ((fun ρ => (shortO (((fun ρ => consO (valO ((fun ρ => rdV ρ 2) ρ)) ((fun ρ => consO (valO ((fun ρ => rdV ρ 3) ρ)) ((fun ρ => consO (valO ((fun ρ => lstO ((bltF lstD (fun ρ => consO (rdA ρ 4) ((fun _ => some []) ρ))) ρ)) ρ)) ((fun _ => some []) ρ)) ρ)) ρ)) ρ).bind vals)).map D.tup) ρ) ρ) ρ) (fun ρ => .next ρ)) ρ) ((fun ρ => seqR ((fun ρ => appR 1 ((fun ρ => (shortO (((fun ρ => consO (valO ((fun ρ => rdV ρ 2) ρ)) ((fun ρ => consO (valO ((fun ρ => rdV ρ 3) ρ)) ((fun ρ => consO (valO ((fun ρ => rdV ρ 4) ρ)) ((fun _ => some []) ρ)) ρ)) ρ)) ρ).bind vals)).map D.tup) ρ) ρ) ρ) (fun ρ => .next ρ)) ρ)) ρ) (fun ρ => .next ρ))
noncomputable def g_law_copied : VE → Res := (fun ρ => seqR ((fun ρ => setRF 1 ((fun ρ => shortO (((fun _ => some []) ρ).bind vals)) ρ) ρ) ρ) (fun ρ => seqR ((forO (fun ρ => ((fun ρ => rdQ ρ 0) ρ).bind seqItems) (bTup 3 (bCons (bName 2) (bCons (bName 3) (bCons (bName 4) bNil)))) L_law_copied_0) ρ) (fun ρ => seqR ((fun ρ => retF (rdO ρ 1)) ρ) (fun ρ => .next ρ))))
noncomputable def F_law_copied : List Sl → Option Rv := fnP 1 5 g_law_copied
noncomputable def g_law_ahead : VE → Res := (fun ρ => seqR ((fun ρ => iteR ((fun ρ => asB ((bin2 neO (bltO isD (fun ρ => consO (rdA ρ 0) ((fun ρ => consO (valO ((fun _ => some (.ty "str")) ρ)) ((fun _ => some []) ρ)) ρ))) (bltO isD (fun ρ => consO (rdA ρ 1) ((fun ρ => consO (valO ((fun _ => some (.ty "str")) ρ)) ((fun _ => some []) ρ)) ρ)))) ρ)) ρ) ((fun ρ => seqR ((fun ρ => retO ((bltO isD (fun ρ => consO (rdA ρ 1) ((fun ρ => consO (valO ((fun _ => some (.ty "str")) ρ)) ((fun _ => some []) ρ)) ρ))) ρ)) ρ) (fun ρ => .next ρ)) ρ) ((fun ρ => .next ρ) ρ)) ρ) (fun ρ => seqR ((fun ρ => retO ((bin2 ltO (fun ρ => rdP ρ 0) (fun ρ => rdP ρ 1)) ρ)) ρ) (fun ρ => .next ρ)))
noncomputable def F_law_ahead : List Sl → Option Rv := fnP 2 2 g_law_ahead
noncomputable def g_is_value : VE → Res := (fun ρ => seqR ((fun ρ => retO ((fun ρ => blO (orB (asB ((callO F_is_whole (fun ρ => consO (rdA ρ 0) ((fun _ => some []) ρ))) ρ)) (asB ((callO F_is_word (fun ρ => consO (rdA ρ 0) ((fun _ => some []) ρ))) ρ)))) ρ)) ρ) (fun ρ => .next ρ))
noncomputable def F_is_value : List Sl → Option Rv := fnP 1 1 g_is_value
noncomputable def g_value_rank : VE → Res := (fun ρ => seqR ((fun ρ => iteR ((fun ρ => isNO ((fun ρ => rdP ρ 0) ρ)) ρ) ((fun ρ => seqR ((fun ρ => retO ((fun ρ => (shortO (((fun ρ => consO (valO ((fun _ => some (.int (0))) ρ)) ((fun ρ => consO (valO ((fun _ => some (.int (0))) ρ)) ((fun _ => some []) ρ)) ρ)) ρ).bind vals)).map D.tup) ρ)) ρ) (fun ρ => .next ρ)) ρ) ((fun ρ => .next ρ) ρ)) ρ) (fun ρ => seqR ((fun ρ => iteR ((fun ρ => truD ((callO F_is_whole (fun ρ => consO (rdA ρ 0) ((fun _ => some []) ρ))) ρ)) ρ) ((fun ρ => seqR ((fun ρ => retO ((fun ρ => (shortO (((fun ρ => consO (valO ((fun _ => some (.int (1))) ρ)) ((fun ρ => consO (valO ((fun ρ => rdV ρ 0) ρ)) ((fun _ => some []) ρ)) ρ)) ρ).bind vals)).map D.tup) ρ)) ρ) (fun ρ => .next ρ)) ρ) ((fun ρ => .next ρ) ρ)) ρ) (fun ρ => seqR ((fun ρ => retO ((fun ρ => (shortO (((fun ρ => consO (valO ((fun _ => some (.int (2))) ρ)) ((fun ρ => consO (valO ((fun ρ => rdV ρ 0) ρ)) ((fun _ => some []) ρ)) ρ)) ρ).bind vals)).map D.tup) ρ)) ρ) (fun ρ => .next ρ))))
noncomputable def F_value_rank : List Sl → Option Rv := fnP 1 1 g_value_rank
noncomputable def g_is_axis : VE → Res := (fun ρ => seqR ((fun ρ => retO ((fun ρ => blO (andO (asB ((callO F_is_whole (fun ρ => consO (rdA ρ 1) ((fun _ => some []) ρ))) ρ)) (asB ((chainO leD ltO (fun _ => some (.int (0))) (fun ρ => rdP ρ 1) (bltO lenD (fun ρ => consO (rdA ρ 0) ((fun _ => some []) ρ)))) ρ)))) ρ)) ρ) (fun ρ => .next ρ))
noncomputable def F_is_axis : List Sl → Option Rv := fnP 2 2 g_is_axis
noncomputable def g_is_level : VE → Res := (fun ρ => seqR ((fun ρ => retO ((fun ρ => blO (andO (asB ((callO F_is_whole (fun ρ => consO (rdA ρ 1) ((fun _ => some []) ρ))) ρ)) (asB ((chainO leD leD (fun _ => some (.int (0))) (fun ρ => rdP ρ 1) (callO F_whole_of (fun ρ => consO (rdA ρ 0) ((fun _ => some []) ρ)))) ρ)))) ρ)) ρ) (fun ρ => .next ρ))
noncomputable def F_is_level : List Sl → Option Rv := fnP 2 2 g_is_level
noncomputable def L_law_word_0 : VE → Res := (fun ρ => seqR ((fun ρ => iteR ((fun ρ => asB ((bin2 eqO (fun ρ => rdP ρ 3) (fun _ => some (.str ""))) ρ)) ρ) ((fun ρ => seqR ((fun ρ => setR 3 ((bin2 ixD (fun ρ => rdP ρ 2) (bin2 modD (fun ρ => rdP ρ 4) (fun _ => some (.int (26))))) ρ) ρ) ρ) (fun ρ => .next ρ)) ρ) ((fun ρ => seqR ((fun ρ => setR 3 ((bin2 addD (fun ρ => rdP ρ 3) (bin2 ixD (fun ρ => rdP ρ 2) (bin2 modD (fun ρ => rdP ρ 4) (fun _ => some (.int (36)))))) ρ) ρ) ρ) (fun ρ => .next ρ)) ρ)) ρ) (fun ρ => .next ρ))
noncomputable def P_law_word_0 : VE → Res := (fun ρ => setR 2 ((fun _ => some (.str "abcdefghijklmnopqrstuvwxyz0123456789")) ρ) ρ)
noncomputable def P_law_word_1 : VE → Res := (fun ρ => setR 3 ((fun _ => some (.str "")) ρ) ρ)
noncomputable def P_law_word_2 : VE → Res := (forO (fun ρ => ((callO F_law_stream (fun ρ => consO (rdA ρ 0) ((fun ρ => consO (rdA ρ 1) ((fun _ => some []) ρ)) ρ))) ρ).bind seqItems) (bName 4) L_law_word_0)
noncomputable def P_law_word_3 : VE → Res := (fun ρ => retO ((fun ρ => rdV ρ 3) ρ))
noncomputable def S_law_word_4 : VE → Res := fun ρ => .next ρ
noncomputable def S_law_word_3 : VE → Res := fun ρ => seqR (P_law_word_3 ρ) S_law_word_4
noncomputable def S_law_word_2 : VE → Res := fun ρ => seqR (P_law_word_2 ρ) S_law_word_3
noncomputable def S_law_word_1 : VE → Res := fun ρ => seqR (P_law_word_1 ρ) S_law_word_2
noncomputable def S_law_word_0 : VE → Res := fun ρ => seqR (P_law_word_0 ρ) S_law_word_1
noncomputable def g_law_word : VE → Res := S_law_word_0
noncomputable def F_law_word : List Sl → Option Rv := fnP 2 5 g_law_word
noncomputable def L_law_pick_0 : VE → Res := (fun ρ => seqR ((fun ρ => setR 11 ((callO F_law_at (fun ρ => consO (rdA ρ 10) ((fun ρ => consO (rdA ρ 4) ((fun _ => some []) ρ)) ρ))) ρ) ρ) ρ) (fun ρ => seqR ((fun ρ => dropX ((sdX 8 (fun ρ => rdP ρ 11) (bin2 ltO (bin2 modD (bin2 ixD (fun ρ => rdP ρ 7) (bltO dlenD (fun ρ => consO (rdA ρ 8) ((fun _ => some []) ρ)))) (fun _ => some (.int (4)))) (fun ρ => rdP ρ 6))) ρ)) ρ) (fun ρ => seqR ((fun ρ => iteR ((fun ρ => andO ((fun ρ => truD ((bin2 dgetD (fun ρ => rdP ρ 8) (fun ρ => rdP ρ 11)) ρ)) ρ) ((fun ρ => asB ((bin2 (inD true) (callO F_law_at (fun ρ => consO (rdA ρ 10) ((fun ρ => consO (rdA ρ 5) ((fun _ => some []) ρ)) ρ))) (fun ρ => rdP ρ 9)) ρ)) ρ)) ρ) ((fun ρ => seqR ((fun ρ => appR 9 ((callO F_law_at (fun ρ => consO (rdA ρ 10) ((fun ρ => consO (rdA ρ 5) ((fun _ => some []) ρ)) ρ))) ρ) ρ) ρ) (fun ρ => .next ρ)) ρ) ((fun ρ => .next ρ) ρ)) ρ) (fun ρ => .next ρ))))
noncomputable def P_law_pick_0 : VE → Res := (fun ρ => setR 2 ((callO F_law_stream (fun ρ => consO (rdA ρ 0) ((fun ρ => consO (valO ((fun _ => some (.int (8))) ρ)) ((fun _ => some []) ρ)) ρ))) ρ) ρ)
noncomputable def P_law_pick_1 : VE → Res := (fun ρ => setR 3 ((bin2 modD (bin2 ixD (fun ρ => rdP ρ 2) (fun _ => some (.int (0)))) (bltO lenD (fun ρ => consO (rdA ρ 1) ((fun _ => some []) ρ)))) ρ) ρ)
noncomputable def P_law_pick_2 : VE → Res := (fun ρ => setR 4 ((bin2 modD (bin2 ixD (fun ρ => rdP ρ 2) (fun _ => some (.int (1)))) (bin2 addD (bltO lenD (fun ρ => consO (valO ((bin2 ixD (bin2 ixD (fun ρ => rdP ρ 1) (fun ρ => rdP ρ 3)) (fun _ => some (.int (0)))) ρ)) ((fun _ => some []) ρ))) (fun _ => some (.int (1))))) ρ) ρ)
noncomputable def P_law_pick_3 : VE → Res := (fun ρ => setR 5 ((bin2 modD (bin2 ixD (fun ρ => rdP ρ 2) (fun _ => some (.int (2)))) (bin2 addD (fun ρ => rdP ρ 4) (fun _ => some (.int (1))))) ρ) ρ)
noncomputable def P_law_pick_4 : VE → Res := (fun ρ => setR 6 ((bin2 ixD (fun ρ => lstO ((fun ρ => shortO (((fun ρ => consO (valO ((fun _ => some (.int (1))) ρ)) ((fun ρ => consO (valO ((fun _ => some (.int (2))) ρ)) ((fun ρ => consO (valO ((fun _ => some (.int (3))) ρ)) ((fun ρ => consO (valO ((fun _ => some (.int (4))) ρ)) ((fun ρ => consO (valO ((fun _ => some (.int (2))) ρ)) ((fun ρ => consO (valO ((fun _ => some (.int (3))) ρ)) ((fun ρ => consO (valO ((fun _ => some (.int (0))) ρ)) ((fun _ => some []) ρ)) ρ)) ρ)) ρ)) ρ)) ρ)) ρ)) ρ).bind vals)) ρ)) (bin2 modD (bin2 ixD (fun ρ => rdP ρ 2) (fun _ => some (.int (3)))) (fun _ => some (.int (7))))) ρ) ρ)
noncomputable def P_law_pick_5 : VE → Res := (fun ρ => setR 7 ((callO F_law_stream (fun ρ => consO (valO ((bin2 ixD (fun ρ => rdP ρ 2) (fun _ => some (.int (4)))) ρ)) ((fun ρ => consO (valO ((bltO lenD (fun ρ => consO (valO ((bin2 ixD (fun ρ => rdP ρ 1) (fun ρ => rdP ρ 3)) ρ)) ((fun _ => some []) ρ))) ρ)) ((fun _ => some []) ρ)) ρ))) ρ) ρ)
noncomputable def P_law_pick_6 : VE → Res := (fun ρ => setRG 8 (some []) ρ)
noncomputable def P_law_pick_7 : VE → Res := (fun ρ => setRF 9 ((fun ρ => shortO (((fun _ => some []) ρ).bind vals)) ρ) ρ)
noncomputable def P_law_pick_8 : VE → Res := (forO (fun ρ => ((bin2 ixD (fun ρ => rdP ρ 1) (fun ρ => rdP ρ 3)) ρ).bind seqItems) (bName 10) L_law_pick_0)
noncomputable def P_law_pick_9 : VE → Res := (fun ρ => iteR ((fun ρ => asB ((bin2 eqO (bin2 modD (bin2 ixD (fun ρ => rdP ρ 2) (fun _ => some (.int (5)))) (fun _ => some (.int (6)))) (fun _ => some (.int (1)))) ρ)) ρ) ((fun ρ => seqR ((fun ρ => insR 9 ((bin2 modD (bin2 ixD (fun ρ => rdP ρ 2) (fun _ => some (.int (6)))) (bin2 addD (bltO lenD (fun ρ => consO (rdA ρ 9) ((fun _ => some []) ρ))) (fun _ => some (.int (1))))) ρ) ((bin2 ixD (fun ρ => lstO ((fun ρ => shortO (((fun ρ => consO (valO ((fun _ => some (.str "a0")) ρ)) ((fun ρ => consO (valO ((fun _ => some (.int (7))) ρ)) ((fun ρ => consO (valO ((fun _ => some (.str "zz9")) ρ)) ((fun _ => some []) ρ)) ρ)) ρ)) ρ).bind vals)) ρ)) (bin2 modD (bin2 ixD (fun ρ => rdP ρ 2) (fun _ => some (.int (6)))) (fun _ => some (.int (3))))) ρ) ρ) ρ) (fun ρ => .next ρ)) ρ) ((fun ρ => .next ρ) ρ))
noncomputable def P_law_pick_10 : VE → Res := (fun ρ => iteR ((fun ρ => andO ((fun ρ => asB ((bin2 eqO (bin2 modD (bin2 ixD (fun ρ => rdP ρ 2) (fun _ => some (.int (7)))) (fun _ => some (.int (4)))) (fun _ => some (.int (1)))) ρ)) ρ) ((fun ρ => asB ((bin2 neO (fun ρ => rdP ρ 9) (fun ρ => lstO ((fun ρ => shortO (((fun _ => some []) ρ).bind vals)) ρ))) ρ)) ρ)) ρ) ((fun ρ => seqR ((fun ρ => appR 9 ((bin2 ixD (fun ρ => rdP ρ 9) (bin2 modD (bin2 ixD (fun ρ => rdP ρ 2) (fun _ => some (.int (6)))) (bltO lenD (fun ρ => consO (rdA ρ 9) ((fun _ => some []) ρ))))) ρ) ρ) ρ) (fun ρ => .next ρ)) ρ) ((fun ρ => .next ρ) ρ))
noncomputable def P_law_pick_11 : VE → Res := (fun ρ => iteR ((fun ρ => asB ((bin2 eqO (bin2 modD (bin2 fdivD (bin2 ixD (fun ρ => rdP ρ 2) (fun _ => some (.int (5)))) (fun _ => some (.int (6)))) (fun _ => some (.int (2)))) (fun _ => some (.int (1)))) ρ)) ρ) ((fun ρ => seqR ((fun ρ => retO ((fun ρ => (shortO (((fun ρ => consO (valO ((fun ρ => rdV ρ 3) ρ)) ((fun ρ => consO (valO ((fun ρ => rdV ρ 5) ρ)) ((fun ρ => consO (valO ((bltO tupD (fun ρ => consO (rdA ρ 9) ((fun _ => some []) ρ))) ρ)) ((fun _ => some []) ρ)) ρ)) ρ)) ρ).bind vals)).map D.tup) ρ)) ρ) (fun ρ => .next ρ)) ρ) ((fun ρ => .next ρ) ρ))
noncomputable def P_law_pick_12 : VE → Res := (fun ρ => (fun ρ => retO ((fun ρ => (shortO (((fun ρ => consO (valO ((fun ρ => rdV ρ 3) ρ)) ((fun ρ => consO (valO ((fun ρ => rdV ρ 5) ρ)) ((fun ρ => consO (valO ((fun ρ => rdV ρ 9) ρ)) ((fun _ => some []) ρ)) ρ)) ρ)) ρ).bind vals)).map D.tup) ρ)) (frzR 9 ρ))
noncomputable def S_law_pick_13 : VE → Res := fun ρ => .next ρ
noncomputable def S_law_pick_12 : VE → Res := fun ρ => seqR (P_law_pick_12 ρ) S_law_pick_13
noncomputable def S_law_pick_11 : VE → Res := fun ρ => seqR (P_law_pick_11 ρ) S_law_pick_12
noncomputable def S_law_pick_10 : VE → Res := fun ρ => seqR (P_law_pick_10 ρ) S_law_pick_11
noncomputable def S_law_pick_9 : VE → Res := fun ρ => seqR (P_law_pick_9 ρ) S_law_pick_10
noncomputable def S_law_pick_8 : VE → Res := fun ρ => seqR (P_law_pick_8 ρ) S_law_pick_9
noncomputable def S_law_pick_7 : VE → Res := fun ρ => seqR (P_law_pick_7 ρ) S_law_pick_8
noncomputable def S_law_pick_6 : VE → Res := fun ρ => seqR (P_law_pick_6 ρ) S_law_pick_7
noncomputable def S_law_pick_5 : VE → Res := fun ρ => seqR (P_law_pick_5 ρ) S_law_pick_6
noncomputable def S_law_pick_4 : VE → Res := fun ρ => seqR (P_law_pick_4 ρ) S_law_pick_5
noncomputable def S_law_pick_3 : VE → Res := fun ρ => seqR (P_law_pick_3 ρ) S_law_pick_4
noncomputable def S_law_pick_2 : VE → Res := fun ρ => seqR (P_law_pick_2 ρ) S_law_pick_3
noncomputable def S_law_pick_1 : VE → Res := fun ρ => seqR (P_law_pick_1 ρ) S_law_pick_2
noncomputable def S_law_pick_0 : VE → Res := fun ρ => seqR (P_law_pick_0 ρ) S_law_pick_1
noncomputable def g_law_pick : VE → Res := S_law_pick_0
noncomputable def F_law_pick : List Sl → Option Rv := fnP 2 12 g_law_pick
noncomputable def L_law_asked_0 : VE → Res := (fun ρ => seqR ((fun ρ => iteR ((fun ρ => andO ((fun ρ => asB ((bin2 eqO (fun ρ => rdP ρ 3) (fun ρ => rdP ρ 2)) ρ)) ρ) ((fun ρ => asB ((bin2 (inD true) (callO F_law_at (fun ρ => consO (rdA ρ 0) ((fun ρ => consO (rdA ρ 4) ((fun _ => some []) ρ)) ρ))) (fun ρ => rdP ρ 5)) ρ)) ρ)) ρ) ((fun ρ => seqR ((fun ρ => retO ((fun _ => some (.bl false)) ρ)) ρ) (fun ρ => .next ρ)) ρ) ((fun ρ => .next ρ) ρ)) ρ) (fun ρ => .next ρ))
noncomputable def g_law_asked : VE → Res := (fun ρ => seqR ((forO (fun ρ => ((fun ρ => rdQ ρ 1) ρ).bind seqItems) (bTup 3 (bCons (bName 3) (bCons (bName 4) (bCons (bName 5) bNil)))) L_law_asked_0) ρ) (fun ρ => seqR ((fun ρ => retO ((fun _ => some (.bl true)) ρ)) ρ) (fun ρ => .next ρ)))
noncomputable def F_law_asked : List Sl → Option Rv := fnP 3 6 g_law_asked
noncomputable def C_key_rank_0 : VE → Option D := (callO F_value_rank (fun ρ => consO (rdA ρ 0) ((fun _ => some []) ρ)))
noncomputable def g_key_rank : VE → Res := (fun ρ => seqR ((fun ρ => retO ((bltO tupD (fun ρ => consO (valO ((fun ρ => lstO ((compF 1 [] (fun ρ => ((fun ρ => rdQ ρ 0) ρ).bind seqItems) (bName 0) (fun _ => some true) C_key_rank_0) ρ)) ρ)) ((fun _ => some []) ρ))) ρ)) ρ) (fun ρ => .next ρ))
noncomputable def F_key_rank : List Sl → Option Rv := fnP 1 1 g_key_rank
noncomputable def C_is_pick_0 : VE → Option D := (fun ρ => blO (orB (asB ((fun ρ => blO (isNO ((fun ρ => rdP ρ 0) ρ))) ρ)) (asB ((callO F_is_value (fun ρ => consO (rdA ρ 0) ((fun _ => some []) ρ))) ρ))))
noncomputable def P_is_pick_0 : VE → Res := (fun ρ => iteR ((fun ρ => orB ((fun ρ => notO ((fun ρ => truD ((bltO isD (fun ρ => consO (rdA ρ 1) ((fun ρ => consO (valO ((fun _ => some (.ty "tuple")) ρ)) ((fun _ => some []) ρ)) ρ))) ρ)) ρ)) ρ) ((fun ρ => asB ((bin2 neO (bltO lenD (fun ρ => consO (rdA ρ 1) ((fun _ => some []) ρ))) (fun _ => some (.int (3)))) ρ)) ρ)) ρ) ((fun ρ => seqR ((fun ρ => retO ((fun _ => some (.bl false)) ρ)) ρ) (fun ρ => .next ρ)) ρ) ((fun ρ => .next ρ) ρ))
noncomputable def P_is_pick_1 : VE → Res := (fun ρ => iteR ((fun ρ => orB ((fun ρ => notO ((fun ρ => truD ((callO F_is_axis (fun ρ => consO (rdA ρ 0) ((fun ρ => consO (valO ((bin2 ixD (fun ρ => rdP ρ 1) (fun _ => some (.int (0)))) ρ)) ((fun _ => some []) ρ)) ρ))) ρ)) ρ)) ρ) ((fun ρ => notO ((fun ρ => truD ((callO F_is_level (fun ρ => consO (valO ((bin2 ixD (fun ρ => rdP ρ 0) (bin2 ixD (fun ρ => rdP ρ 1) (fun _ => some (.int (0))))) ρ)) ((fun ρ => consO (valO ((bin2 ixD (fun ρ => rdP ρ 1) (fun _ => some (.int (1)))) ρ)) ((fun _ => some []) ρ)) ρ))) ρ)) ρ)) ρ)) ρ) ((fun ρ => seqR ((fun ρ => retO ((fun _ => some (.bl false)) ρ)) ρ) (fun ρ => .next ρ)) ρ) ((fun ρ => .next ρ) ρ))
noncomputable def P_is_pick_2 : VE → Res := (fun ρ => iteR ((fun ρ => notO ((fun ρ => truD ((bltO isD (fun ρ => consO (valO ((bin2 ixD (fun ρ => rdP ρ 1) (fun _ => some (.int (2)))) ρ)) ((fun ρ => consO (valO ((fun ρ => (shortO (((fun ρ => consO (valO ((fun _ => some (.ty "list")) ρ)) ((fun ρ => consO (valO ((fun _ => some (.ty "tuple")) ρ)) ((fun _ => some []) ρ)) ρ)) ρ).bind vals)).map D.tup) ρ)) ((fun _ => some []) ρ)) ρ))) ρ)) ρ)) ρ) ((fun ρ => seqR ((fun ρ => retO ((fun _ => some (.bl false)) ρ)) ρ) (fun ρ => .next ρ)) ρ) ((fun ρ => .next ρ) ρ))
noncomputable def P_is_pick_3 : VE → Res := (fun ρ => retO ((bltO allD (fun ρ => consO (valO ((fun ρ => lstO ((compF 1 [] (fun ρ => ((bin2 ixD (fun ρ => rdP ρ 1) (fun _ => some (.int (2)))) ρ).bind seqItems) (bName 0) (fun _ => some true) C_is_pick_0) ρ)) ρ)) ((fun _ => some []) ρ))) ρ))
noncomputable def S_is_pick_4 : VE → Res := fun ρ => .next ρ
noncomputable def S_is_pick_3 : VE → Res := fun ρ => seqR (P_is_pick_3 ρ) S_is_pick_4
noncomputable def S_is_pick_2 : VE → Res := fun ρ => seqR (P_is_pick_2 ρ) S_is_pick_3
noncomputable def S_is_pick_1 : VE → Res := fun ρ => seqR (P_is_pick_1 ρ) S_is_pick_2
noncomputable def S_is_pick_0 : VE → Res := fun ρ => seqR (P_is_pick_0 ρ) S_is_pick_1
noncomputable def g_is_pick : VE → Res := S_is_pick_0
noncomputable def F_is_pick : List Sl → Option Rv := fnP 2 2 g_is_pick
noncomputable def L_law_words_0 : VE → Res := (fun ρ => seqR ((fun ρ => iteR ((fun ρ => asB ((bin2 eqO (bin2 modD (bin2 ixD (fun ρ => rdP ρ 3) (fun _ => some (.int (2)))) (fun _ => some (.int (4)))) (fun _ => some (.int (0)))) ρ)) ρ) ((fun ρ => seqR ((fun ρ => setR 9 ((callO F_law_word (fun ρ => consO (valO ((bin2 addD (bin2 ixD (fun ρ => rdP ρ 3) (fun _ => some (.int (3)))) (bin2 mulD (fun _ => some (.int (7919))) (fun ρ => rdP ρ 8))) ρ)) ((fun ρ => consO (valO ((bin2 addD (fun _ => some (.int (1))) (bin2 modD (bin2 addD (bin2 ixD (fun ρ => rdP ρ 3) (fun _ => some (.int (1)))) (bin2 mulD (fun _ => some (.int (5))) (fun ρ => rdP ρ 8))) (fun _ => some (.int (12))))) ρ)) ((fun _ => some []) ρ)) ρ))) ρ) ρ) ρ) (fun ρ => seqR ((fun ρ => appR 7 ((bin2 addD (sl3 (fun ρ => rdP ρ 9) (fun _ => some none) (fun ρ => asI ((fun ρ => negD ((fun _ => some (.int (1))) ρ)) ρ)) slD) (bin2 ixD (fun ρ => rdP ρ 2) (bin2 modD (bin2 addD (bin2 ixD (fun ρ => rdP ρ 3) (fun _ => some (.int (0)))) (fun ρ => rdP ρ 8)) (fun _ => some (.int (26)))))) ρ) ρ) ρ) (fun ρ => .next ρ))) ρ) ((fun ρ => seqR ((fun ρ => iteR ((fun ρ => asB ((bin2 eqO (bin2 modD (bin2 ixD (fun ρ => rdP ρ 3) (fun _ => some (.int (2)))) (fun _ => some (.int (4)))) (fun _ => some (.int (1)))) ρ)) ρ) ((fun ρ => seqR ((fun ρ => appR 7 ((sl3 (fun ρ => rdP ρ 4) (fun _ => some none) (fun ρ => asI ((bin2 addD (fun _ => some (.int (1))) (bin2 modD (bin2 addD (bin2 ixD (fun ρ => rdP ρ 3) (fun _ => some (.int (0)))) (fun ρ => rdP ρ 8)) (fun _ => some (.int (12))))) ρ)) slD) ρ) ρ) ρ) (fun ρ => .next ρ)) ρ) ((fun ρ => seqR ((fun ρ => setR 10 ((bin2 ixD (fun ρ => rdP ρ 2) (bin2 modD (bin2 addD (bin2 ixD (fun ρ => rdP ρ 3) (fun _ => some (.int (3)))) (fun ρ => rdP ρ 8)) (fun _ => some (.int (36))))) ρ) ρ) ρ) (fun ρ => seqR ((fun ρ => iteR ((fun ρ => asB ((bin2 eqO (fun ρ => rdP ρ 6) (fun _ => some (.int (0)))) ρ)) ρ) ((fun ρ => seqR ((fun ρ => setR 10 ((bin2 ixD (fun ρ => rdP ρ 2) (bin2 modD (bin2 addD (bin2 ixD (fun ρ => rdP ρ 3) (fun _ => some (.int (3)))) (fun ρ => rdP ρ 8)) (fun _ => some (.int (26))))) ρ) ρ) ρ) (fun ρ => .next ρ)) ρ) ((fun ρ => .next ρ) ρ)) ρ) (fun ρ => seqR ((fun ρ => appR 7 ((bin2 addD (bin2 addD (sl3 (fun ρ => rdP ρ 4) (fun _ => some none) (fun ρ => asI ((fun ρ => rdP ρ 6) ρ)) slD) (fun ρ => rdP ρ 10)) (sl3 (fun ρ => rdP ρ 4) (fun ρ => asI ((bin2 addD (fun ρ => rdP ρ 6) (fun _ => some (.int (1)))) ρ)) (fun ρ => asI ((fun ρ => rdP ρ 5) ρ)) slD)) ρ) ρ) ρ) (fun ρ => .next ρ)))) ρ)) ρ) (fun ρ => .next ρ)) ρ)) ρ) (fun ρ => .next ρ))
noncomputable def P_law_words_0 : VE → Res := (fun ρ => setR 2 ((fun _ => some (.str "abcdefghijklmnopqrstuvwxyz0123456789")) ρ) ρ)
noncomputable def P_law_words_1 : VE → Res := (fun ρ => setR 3 ((callO F_law_stream (fun ρ => consO (rdA ρ 0) ((fun ρ => consO (valO ((fun _ => some (.int (4))) ρ)) ((fun _ => some []) ρ)) ρ))) ρ) ρ)
noncomputable def P_law_words_2 : VE → Res := (fun ρ => setR 4 ((callO F_law_word (fun ρ => consO (rdA ρ 0) ((fun ρ => consO (valO ((fun _ => some (.int (12))) ρ)) ((fun _ => some []) ρ)) ρ))) ρ) ρ)
noncomputable def P_law_words_3 : VE → Res := (fun ρ => setR 5 ((bin2 addD (fun _ => some (.int (1))) (bin2 modD (bin2 ixD (fun ρ => rdP ρ 3) (fun _ => some (.int (0)))) (fun _ => some (.int (12))))) ρ) ρ)
noncomputable def P_law_words_4 : VE → Res := (fun ρ => setR 6 ((bin2 modD (bin2 ixD (fun ρ => rdP ρ 3) (fun _ => some (.int (1)))) (fun ρ => rdP ρ 5)) ρ) ρ)
noncomputable def P_law_words_5 : VE → Res := (fun ρ => setRF 7 ((fun ρ => shortO (((fun _ => some []) ρ).bind vals)) ρ) ρ)
noncomputable def P_law_words_6 : VE → Res := (forO (fun ρ => (((fun ρ => consO (valO ((fun ρ => rdV ρ 1) ρ)) ((fun _ => some []) ρ)) ρ).bind vals).bind rng1) (bName 8) L_law_words_0)
noncomputable def P_law_words_7 : VE → Res := (fun ρ => retF (rdO ρ 7))
noncomputable def S_law_words_8 : VE → Res := fun ρ => .next ρ
noncomputable def S_law_words_7 : VE → Res := fun ρ => seqR (P_law_words_7 ρ) S_law_words_8
noncomputable def S_law_words_6 : VE → Res := fun ρ => seqR (P_law_words_6 ρ) S_law_words_7
noncomputable def S_law_words_5 : VE → Res := fun ρ => seqR (P_law_words_5 ρ) S_law_words_6
noncomputable def S_law_words_4 : VE → Res := fun ρ => seqR (P_law_words_4 ρ) S_law_words_5
noncomputable def S_law_words_3 : VE → Res := fun ρ => seqR (P_law_words_3 ρ) S_law_words_4
noncomputable def S_law_words_2 : VE → Res := fun ρ => seqR (P_law_words_2 ρ) S_law_words_3
noncomputable def S_law_words_1 : VE → Res := fun ρ => seqR (P_law_words_1 ρ) S_law_words_2
noncomputable def S_law_words_0 : VE → Res := fun ρ => seqR (P_law_words_0 ρ) S_law_words_1
noncomputable def g_law_words : VE → Res := S_law_words_0
noncomputable def F_law_words : List Sl → Option Rv := fnP 2 11 g_law_words
noncomputable def B_law_good_0 : VE → Option Bool := (fun ρ => truD ((callO F_law_asked (fun ρ => consO (rdA ρ 0) ((fun ρ => consO (rdA ρ 1) ((fun ρ => consO (rdA ρ 2) ((fun _ => some []) ρ)) ρ)) ρ))) ρ))
noncomputable def C_law_good_0 : VE → Option D := (bin2 ixD (fun ρ => rdP ρ 0) (fun _ => some (.int (0))))
noncomputable def L_law_good_0 : VE → Res := (fun ρ => seqR ((fun ρ => iteR ((fun ρ => orB ((fun ρ => notO ((fun ρ => truD ((bltO isD (fun ρ => consO (valO ((bin2 ixD (fun ρ => rdP ρ 0) (fun ρ => rdP ρ 5)) ρ)) ((fun ρ => consO (valO ((fun ρ => (shortO (((fun ρ => consO (valO ((fun _ => some (.ty "int")) ρ)) ((fun ρ => consO (valO ((fun _ => some (.ty "str")) ρ)) ((fun _ => some []) ρ)) ρ)) ρ).bind vals)).map D.tup) ρ)) ((fun _ => some []) ρ)) ρ))) ρ)) ρ)) ρ) ((fun ρ => asB ((bin2 (inD true) (bin2 ixD (fun ρ => rdP ρ 0) (fun ρ => rdP ρ 5)) (fun ρ => rdP ρ 4)) ρ)) ρ)) ρ) ((fun ρ => seqR ((fun ρ => retO ((fun _ => some (.bl false)) ρ)) ρ) (fun ρ => .next ρ)) ρ) ((fun ρ => .next ρ) ρ)) ρ) (fun ρ => seqR ((fun ρ => iteR ((fun ρ => andO ((fun ρ => asB ((bin2 gtD (fun ρ => rdP ρ 5) (fun _ => some (.int (0)))) ρ)) ρ) ((fun ρ => notO ((fun ρ => truD ((callO F_law_ahead (fun ρ => consO (valO ((bin2 ixD (fun ρ => rdP ρ 0) (bin2 subD (fun ρ => rdP ρ 5) (fun _ => some (.int (1))))) ρ)) ((fun ρ => consO (valO ((bin2 ixD (fun ρ => rdP ρ 0) (fun ρ => rdP ρ 5)) ρ)) ((fun _ => some []) ρ)) ρ))) ρ)) ρ)) ρ)) ρ) ((fun ρ => seqR ((fun ρ => retO ((fun _ => some (.bl false)) ρ)) ρ) (fun ρ => .next ρ)) ρ) ((fun ρ => .next ρ) ρ)) ρ) (fun ρ => .next ρ)))
noncomputable def P_law_good_0 : VE → Res := (fun ρ => setR 4 (lstO ((compF 1 [2, 3] (fun ρ => ((fun ρ => rdQ ρ 1) ρ).bind seqItems) (bName 0) B_law_good_0 C_law_good_0) ρ)) ρ)
noncomputable def P_law_good_1 : VE → Res := (fun ρ => iteR ((fun ρ => orB ((fun ρ => notO ((fun ρ => truD ((bltO isD (fun ρ => consO (rdA ρ 0) ((fun ρ => consO (valO ((fun _ => some (.ty "list")) ρ)) ((fun _ => some []) ρ)) ρ))) ρ)) ρ)) ρ) ((fun ρ => asB ((bin2 neO (bltO lenD (fun ρ => consO (rdA ρ 0) ((fun _ => some []) ρ))) (bltO lenD (fun ρ => consO (rdA ρ 4) ((fun _ => some []) ρ)))) ρ)) ρ)) ρ) ((fun ρ => seqR ((fun ρ => retO ((fun _ => some (.bl false)) ρ)) ρ) (fun ρ => .next ρ)) ρ) ((fun ρ => .next ρ) ρ))
noncomputable def P_law_good_2 : VE → Res := (forO (fun ρ => (((fun ρ => consO (valO ((bltO lenD (fun ρ => consO (rdA ρ 0) ((fun _ => some []) ρ))) ρ)) ((fun _ => some []) ρ)) ρ).bind vals).bind rng1) (bName 5) L_law_good_0)
noncomputable def P_law_good_3 : VE → Res := (fun ρ => retO ((fun _ => some (.bl true)) ρ))
noncomputable def S_law_good_4 : VE → Res := fun ρ => .next ρ
noncomputable def S_law_good_3 : VE → Res := fun ρ => seqR (P_law_good_3 ρ) S_law_good_4
noncomputable def S_law_good_2 : VE → Res := fun ρ => seqR (P_law_good_2 ρ) S_law_good_3
noncomputable def S_law_good_1 : VE → Res := fun ρ => seqR (P_law_good_1 ρ) S_law_good_2
noncomputable def S_law_good_0 : VE → Res := fun ρ => seqR (P_law_good_0 ρ) S_law_good_1
noncomputable def g_law_good : VE → Res := S_law_good_0
noncomputable def F_law_good : List Sl → Option Rv := fnP 4 6 g_law_good
noncomputable def C_is_picks_0 : VE → Option D := (callO F_is_pick (fun ρ => consO (rdA ρ 1) ((fun ρ => consO (rdA ρ 0) ((fun _ => some []) ρ)) ρ)))
noncomputable def g_is_picks : VE → Res := (fun ρ => seqR ((fun ρ => retO ((fun ρ => blO (andO (asB ((bltO isD (fun ρ => consO (rdA ρ 1) ((fun ρ => consO (valO ((fun _ => some (.ty "list")) ρ)) ((fun _ => some []) ρ)) ρ))) ρ)) (asB ((bltO allD (fun ρ => consO (valO ((fun ρ => lstO ((compF 1 [0] (fun ρ => ((fun ρ => rdQ ρ 1) ρ).bind seqItems) (bName 0) (fun _ => some true) C_is_picks_0) ρ)) ρ)) ((fun _ => some []) ρ))) ρ)))) ρ)) ρ) (fun ρ => .next ρ))
noncomputable def F_is_picks : List Sl → Option Rv := fnP 2 2 g_is_picks
noncomputable def C_law_values_0 : VE → Option D := (bin2 addD (fun ρ => rdP ρ 1) (fun ρ => rdP ρ 0))
noncomputable def C_law_values_1 : VE → Option D := (bin2 ixD (fun ρ => lstO ((fun ρ => shortO (((fun ρ => consO (valO ((bin2 addD (fun ρ => rdP ρ 1) (fun ρ => rdP ρ 0)) ρ)) ((fun ρ => consO (valO ((bin2 ixD (fun ρ => rdP ρ 2) (fun ρ => rdP ρ 0)) ρ)) ((fun _ => some []) ρ)) ρ)) ρ).bind vals)) ρ)) (bin2 modD (bin2 addD (bin2 fdivD (bin2 ixD (fun ρ => rdP ρ 3) (fun _ => some (.int (0)))) (fun _ => some (.int (2)))) (fun ρ => rdP ρ 0)) (fun _ => some (.int (2)))))
noncomputable def P_law_values_0 : VE → Res := (fun ρ => setR 2 ((callO F_law_stream (fun ρ => consO (rdA ρ 0) ((fun ρ => consO (valO ((fun _ => some (.int (3))) ρ)) ((fun _ => some []) ρ)) ρ))) ρ) ρ)
noncomputable def P_law_values_1 : VE → Res := (fun ρ => setR 3 ((bin2 mulD (bin2 modD (bin2 mulD (fun ρ => rdP ρ 0) (bin2 ixD (fun ρ => rdP ρ 2) (fun _ => some (.int (2))))) (bin2 powD (fun _ => some (.int (10))) (fun _ => some (.int (30))))) (bin2 ixD (fun ρ => lstO ((fun ρ => shortO (((fun ρ => consO (valO ((fun _ => some (.int (1))) ρ)) ((fun ρ => consO (valO ((fun ρ => negD ((fun _ => some (.int (1))) ρ)) ρ)) ((fun _ => some []) ρ)) ρ)) ρ).bind vals)) ρ)) (bin2 modD (bin2 ixD (fun ρ => rdP ρ 2) (fun _ => some (.int (0)))) (fun _ => some (.int (2)))))) ρ) ρ)
noncomputable def P_law_values_2 : VE → Res := (fun ρ => iteR ((fun ρ => orB ((fun ρ => asB ((bin2 eqO (bin2 modD (bin2 ixD (fun ρ => rdP ρ 2) (fun _ => some (.int (1)))) (fun _ => some (.int (3)))) (fun _ => some (.int (0)))) ρ)) ρ) ((fun ρ => asB ((bin2 gtD (fun ρ => rdP ρ 1) (fun _ => some (.int (12)))) ρ)) ρ)) ρ) ((fun ρ => seqR ((fun ρ => retF ((compF 1 [3] (fun ρ => (((fun ρ => consO (valO ((fun ρ => rdV ρ 1) ρ)) ((fun _ => some []) ρ)) ρ).bind vals).bind rng1) (bName 0) (fun _ => some true) C_law_values_0) ρ)) ρ) (fun ρ => .next ρ)) ρ) ((fun ρ => .next ρ) ρ))
noncomputable def P_law_values_3 : VE → Res := (fun ρ => setR 4 ((callO F_law_words (fun ρ => consO (valO ((bin2 ixD (fun ρ => rdP ρ 2) (fun _ => some (.int (2)))) ρ)) ((fun ρ => consO (rdA ρ 1) ((fun _ => some []) ρ)) ρ))) ρ) ρ)
noncomputable def P_law_values_4 : VE → Res := (fun ρ => iteR ((fun ρ => asB ((bin2 eqO (bin2 modD (bin2 ixD (fun ρ => rdP ρ 2) (fun _ => some (.int (1)))) (fun _ => some (.int (3)))) (fun _ => some (.int (1)))) ρ)) ρ) ((fun ρ => seqR ((fun ρ => retO ((fun ρ => rdV ρ 4) ρ)) ρ) (fun ρ => .next ρ)) ρ) ((fun ρ => .next ρ) ρ))
noncomputable def P_law_values_5 : VE → Res := (fun ρ => retF ((compF 1 [3, 4, 2] (fun ρ => (((fun ρ => consO (valO ((fun ρ => rdV ρ 1) ρ)) ((fun _ => some []) ρ)) ρ).bind vals).bind rng1) (bName 0) (fun _ => some true) C_law_values_1) ρ))
noncomputable def S_law_values_6 : VE → Res := fun ρ => .next ρ
noncomputable def S_law_values_5 : VE → Res := fun ρ => seqR (P_law_values_5 ρ) S_law_values_6
noncomputable def S_law_values_4 : VE → Res := fun ρ => seqR (P_law_values_4 ρ) S_law_values_5
noncomputable def S_law_values_3 : VE → Res := fun ρ => seqR (P_law_values_3 ρ) S_law_values_4
noncomputable def S_law_values_2 : VE → Res := fun ρ => seqR (P_law_values_2 ρ) S_law_values_3
noncomputable def S_law_values_1 : VE → Res := fun ρ => seqR (P_law_values_1 ρ) S_law_values_2
noncomputable def S_law_values_0 : VE → Res := fun ρ => seqR (P_law_values_0 ρ) S_law_values_1
noncomputable def g_law_values : VE → Res := S_law_values_0
noncomputable def F_law_values : List Sl → Option Rv := fnP 2 5 g_law_values
noncomputable def C_law_ladder_0 : VE → Option D := (fun ρ => (shortO (((fun ρ => consO (valO ((fun ρ => rdV ρ 0) ρ)) ((fun _ => some []) ρ)) ρ).bind vals)).map D.tup)
noncomputable def L_law_ladder_0 : VE → Res := (fun ρ => seqR ((fun ρ => iteR ((fun ρ => asB ((bin2 (dinD true) (bin2 ixD (fun ρ => rdP ρ 10) (fun ρ => negD ((fun _ => some (.int (1))) ρ))) (fun ρ => rdP ρ 8)) ρ)) ρ) ((fun ρ => seqR ((fun ρ => dputR 8 ((bin2 ixD (fun ρ => rdP ρ 10) (fun ρ => negD ((fun _ => some (.int (1))) ρ))) ρ) ((bin2 ixD (fun ρ => rdP ρ 7) (bin2 modD (bin2 ixD (fun ρ => rdP ρ 3) (bin2 addD (fun _ => some (.int (8))) (bin2 modD (bin2 addD (bltO dlenD (fun ρ => consO (rdA ρ 8) ((fun _ => some []) ρ))) (bin2 mulD (fun _ => some (.int (13))) (fun ρ => rdP ρ 6))) (fun _ => some (.int (52)))))) (fun ρ => rdP ρ 5))) ρ) ρ) ρ) (fun ρ => .next ρ)) ρ) ((fun ρ => .next ρ) ρ)) ρ) (fun ρ => seqR ((fun ρ => appR 9 ((bin2 addD (fun ρ => rdP ρ 10) (fun ρ => (shortO (((fun ρ => consO (valO ((bin2 dgetD (fun ρ => rdP ρ 8) (bin2 ixD (fun ρ => rdP ρ 10) (fun ρ => negD ((fun _ => some (.int (1))) ρ)))) ρ)) ((fun _ => some []) ρ)) ρ).bind vals)).map D.tup)) ρ) ρ) ρ) (fun ρ => .next ρ)))
noncomputable def L_law_ladder_1 : VE → Res := (fun ρ => seqR ((fun ρ => setR 5 ((bin2 addD (fun _ => some (.int (1))) (bin2 modD (bin2 ixD (fun ρ => rdP ρ 3) (fun ρ => rdP ρ 6)) (fun ρ => rdP ρ 5))) ρ) ρ) ρ) (fun ρ => seqR ((fun ρ => setR 7 ((callO F_law_values (fun ρ => consO (valO ((bin2 ixD (fun ρ => rdP ρ 3) (bin2 addD (fun _ => some (.int (4))) (fun ρ => rdP ρ 6))) ρ)) ((fun ρ => consO (rdA ρ 5) ((fun _ => some []) ρ)) ρ))) ρ) ρ) ρ) (fun ρ => seqR ((fun ρ => setRG 8 (some []) ρ) ρ) (fun ρ => seqR ((fun ρ => setRF 9 ((fun ρ => shortO (((fun _ => some []) ρ).bind vals)) ρ) ρ) ρ) (fun ρ => seqR ((forO (fun ρ => ((fun ρ => rdQ ρ 4) ρ).bind seqItems) (bName 10) L_law_ladder_0) ρ) (fun ρ => seqR ((fun ρ => (fun ρ => setR 4 ((fun ρ => rdV ρ 9) ρ) ρ) (frzR 9 ρ)) ρ) (fun ρ => .next ρ)))))))
noncomputable def P_law_ladder_0 : VE → Res := (fun ρ => setR 3 ((callO F_law_stream (fun ρ => consO (rdA ρ 0) ((fun ρ => consO (valO ((fun _ => some (.int (60))) ρ)) ((fun _ => some []) ρ)) ρ))) ρ) ρ)
noncomputable def P_law_ladder_1 : VE → Res := (fun ρ => setR 4 (lstO ((compF 1 [] (fun ρ => ((callO F_law_values (fun ρ => consO (valO ((bin2 ixD (fun ρ => rdP ρ 3) (fun _ => some (.int (0)))) ρ)) ((fun ρ => consO (rdA ρ 1) ((fun _ => some []) ρ)) ρ))) ρ).bind seqItems) (bName 0) (fun _ => some true) C_law_ladder_0) ρ)) ρ)
noncomputable def P_law_ladder_2 : VE → Res := (fun ρ => setR 5 ((fun ρ => rdV ρ 1) ρ) ρ)
noncomputable def P_law_ladder_3 : VE → Res := (forO (fun ρ => (((fun ρ => consO (valO ((fun _ => some (.int (1))) ρ)) ((fun ρ => consO (valO ((fun ρ => rdV ρ 2) ρ)) ((fun _ => some []) ρ)) ρ)) ρ).bind vals).bind rng2) (bName 6) L_law_ladder_1)
noncomputable def P_law_ladder_4 : VE → Res := (fun ρ => setR 11 ((bin2 modD (bin2 ixD (fun ρ => rdP ρ 3) (fun _ => some (.int (1)))) (fun ρ => rdP ρ 1)) ρ) ρ)
noncomputable def P_law_ladder_5 : VE → Res := (fun ρ => retO ((bin2 addD (sl3 (fun ρ => rdP ρ 4) (fun ρ => asI ((fun ρ => rdP ρ 11) ρ)) (fun _ => some none) slD) (sl3 (fun ρ => rdP ρ 4) (fun _ => some none) (fun ρ => asI ((fun ρ => rdP ρ 11) ρ)) slD)) ρ))
noncomputable def S_law_ladder_6 : VE → Res := fun ρ => .next ρ
noncomputable def S_law_ladder_5 : VE → Res := fun ρ => seqR (P_law_ladder_5 ρ) S_law_ladder_6
noncomputable def S_law_ladder_4 : VE → Res := fun ρ => seqR (P_law_ladder_4 ρ) S_law_ladder_5
noncomputable def S_law_ladder_3 : VE → Res := fun ρ => seqR (P_law_ladder_3 ρ) S_law_ladder_4
noncomputable def S_law_ladder_2 : VE → Res := fun ρ => seqR (P_law_ladder_2 ρ) S_law_ladder_3
noncomputable def S_law_ladder_1 : VE → Res := fun ρ => seqR (P_law_ladder_1 ρ) S_law_ladder_2
noncomputable def S_law_ladder_0 : VE → Res := fun ρ => seqR (P_law_ladder_0 ρ) S_law_ladder_1
noncomputable def g_law_ladder : VE → Res := S_law_ladder_0
noncomputable def F_law_ladder : List Sl → Option Rv := fnP 3 12 g_law_ladder
noncomputable def L_in_order_0 : VE → Res := (fun ρ => seqR ((fun ρ => iteR ((fun ρ => orB ((fun ρ => notO ((fun ρ => truD ((fun ρ => rdP ρ 1) ρ)) ρ)) ρ) ((fun ρ => asB ((bin2 neO (bin2 ixD (fun ρ => rdP ρ 1) (fun ρ => negD ((fun _ => some (.int (1))) ρ))) (fun ρ => rdP ρ 2)) ρ)) ρ)) ρ) ((fun ρ => seqR ((fun ρ => appR 1 ((fun ρ => rdV ρ 2) ρ) ρ) ρ) (fun ρ => .next ρ)) ρ) ((fun ρ => .next ρ) ρ)) ρ) (fun ρ => .next ρ))
noncomputable def g_in_order : VE → Res := (fun ρ => seqR ((fun ρ => setRF 1 ((fun ρ => shortO (((fun _ => some []) ρ).bind vals)) ρ) ρ) ρ) (fun ρ => seqR ((forO (fun ρ => ((fun ρ => lstO ((sortKF F_key_rank (fun ρ => rdP ρ 0)) ρ)) ρ).bind seqItems) (bName 2) L_in_order_0) ρ) (fun ρ => seqR ((fun ρ => retF (rdO ρ 1)) ρ) (fun ρ => .next ρ))))
noncomputable def F_in_order : List Sl → Option Rv := fnP 1 3 g_in_order
noncomputable def L_law_ladders_0 : VE → Res := (fun ρ => seqR ((fun ρ => appR 3 ((callO F_law_ladder (fun ρ => consO (valO ((bin2 addD (fun ρ => rdP ρ 0) (bin2 ixD (fun ρ => rdP ρ 2) (bin2 addD (fun _ => some (.int (4))) (fun ρ => rdP ρ 4)))) ρ)) ((fun ρ => consO (valO ((bin2 addD (fun _ => some (.int (1))) (bin2 modD (bin2 ixD (fun ρ => rdP ρ 2) (bin2 addD (fun _ => some (.int (1))) (fun ρ => rdP ρ 4))) (fun _ => some (.int (8))))) ρ)) ((fun ρ => consO (valO ((bin2 addD (fun _ => some (.int (1))) (bin2 modD (bin2 fdivD (bin2 ixD (fun ρ => rdP ρ 2) (bin2 addD (fun _ => some (.int (1))) (fun ρ => rdP ρ 4))) (fun _ => some (.int (8)))) (fun _ => some (.int (4))))) ρ)) ((fun _ => some []) ρ)) ρ)) ρ))) ρ) ρ) ρ) (fun ρ => .next ρ))
noncomputable def P_law_ladders_0 : VE → Res := (fun ρ => setR 2 ((callO F_law_stream (fun ρ => consO (rdA ρ 0) ((fun ρ => consO (valO ((fun _ => some (.int (8))) ρ)) ((fun _ => some []) ρ)) ρ))) ρ) ρ)
noncomputable def P_law_ladders_1 : VE → Res := (fun ρ => setRF 3 ((fun ρ => shortO (((fun _ => some []) ρ).bind vals)) ρ) ρ)
noncomputable def P_law_ladders_2 : VE → Res := (forO (fun ρ => (((fun ρ => consO (valO ((bin2 addD (fun _ => some (.int (1))) (bin2 modD (bin2 ixD (fun ρ => rdP ρ 2) (fun _ => some (.int (0)))) (fun ρ => rdP ρ 1))) ρ)) ((fun _ => some []) ρ)) ρ).bind vals).bind rng1) (bName 4) L_law_ladders_0)
noncomputable def P_law_ladders_3 : VE → Res := (fun ρ => retF (rdO ρ 3))
noncomputable def S_law_ladders_4 : VE → Res := fun ρ => .next ρ
noncomputable def S_law_ladders_3 : VE → Res := fun ρ => seqR (P_law_ladders_3 ρ) S_law_ladders_4
noncomputable def S_law_ladders_2 : VE → Res := fun ρ => seqR (P_law_ladders_2 ρ) S_law_ladders_3
noncomputable def S_law_ladders_1 : VE → Res := fun ρ => seqR (P_law_ladders_1 ρ) S_law_ladders_2
noncomputable def S_law_ladders_0 : VE → Res := fun ρ => seqR (P_law_ladders_0 ρ) S_law_ladders_1
noncomputable def g_law_ladders : VE → Res := S_law_ladders_0
noncomputable def F_law_ladders : List Sl → Option Rv := fnP 2 5 g_law_ladders
noncomputable def C_values_in_order_0 : VE → Option D := (fun ρ => (shortO (((fun ρ => consO (valO ((fun ρ => rdV ρ 0) ρ)) ((fun _ => some []) ρ)) ρ).bind vals)).map D.tup)
noncomputable def C_values_in_order_1 : VE → Option D := (bin2 ixD (fun ρ => rdP ρ 0) (fun _ => some (.int (0))))
noncomputable def g_values_in_order : VE → Res := (fun ρ => seqR ((fun ρ => retF ((compF 1 [] (fun ρ => ((callO F_in_order (fun ρ => consO (valO ((fun ρ => lstO ((compF 1 [] (fun ρ => ((fun ρ => rdQ ρ 0) ρ).bind seqItems) (bName 0) (fun _ => some true) C_values_in_order_0) ρ)) ρ)) ((fun _ => some []) ρ))) ρ).bind seqItems) (bName 0) (fun _ => some true) C_values_in_order_1) ρ)) ρ) (fun ρ => .next ρ))
noncomputable def F_values_in_order : List Sl → Option Rv := fnP 1 1 g_values_in_order
noncomputable def C_picked_0 : VE → Option D := (fun ρ => (shortO (((fun ρ => consO (valO ((fun ρ => rdV ρ 0) ρ)) ((fun ρ => consO (valO ((fun _ => some (.bl true)) ρ)) ((fun _ => some []) ρ)) ρ)) ρ).bind vals)).map D.tup)
noncomputable def B_picked_0 : VE → Option Bool := (fun ρ => asB ((bin2 (dinD false) (callO F_line_at (fun ρ => consO (rdA ρ 0) ((fun ρ => consO (valO ((bin2 ixD (fun ρ => rdP ρ 1) (fun _ => some (.int (1)))) ρ)) ((fun _ => some []) ρ)) ρ))) (fun ρ => rdP ρ 2)) ρ))
noncomputable def C_picked_1 : VE → Option D := (fun ρ => rdV ρ 0)
noncomputable def L_picked_0 : VE → Res := (fun ρ => seqR ((fun ρ => iteR ((fun ρ => asB ((bin2 eqO (bin2 ixD (fun ρ => rdP ρ 4) (fun _ => some (.int (0)))) (fun ρ => rdP ρ 2)) ρ)) ρ) ((fun ρ => seqR ((fun ρ => setRG 5 ((dictF (fun ρ => lstO ((compF 1 [] (fun ρ => ((bin2 ixD (fun ρ => rdP ρ 4) (fun _ => some (.int (2)))) ρ).bind seqItems) (bName 0) (fun _ => some true) C_picked_0) ρ))) ρ) ρ) ρ) (fun ρ => seqR ((fun ρ => setR 3 (lstO ((compF 1 [4, 5] (fun ρ => ((fun ρ => rdQ ρ 3) ρ).bind seqItems) (bName 0) B_picked_0 C_picked_1) ρ)) ρ) ρ) (fun ρ => .next ρ))) ρ) ((fun ρ => .next ρ) ρ)) ρ) (fun ρ => .next ρ))
noncomputable def C_picked_2 : VE → Option D := (bin2 ixD (fun ρ => rdP ρ 0) (fun _ => some (.int (0))))
noncomputable def g_picked : VE → Res := (fun ρ => seqR ((fun ρ => setR 3 ((bin2 ixD (fun ρ => rdP ρ 0) (fun ρ => rdP ρ 2)) ρ) ρ) ρ) (fun ρ => seqR ((forO (fun ρ => ((fun ρ => rdQ ρ 1) ρ).bind seqItems) (bName 4) L_picked_0) ρ) (fun ρ => seqR ((fun ρ => retF ((callF F_values_in_order (fun ρ => consO (valO ((fun ρ => lstO ((compF 1 [] (fun ρ => ((fun ρ => rdQ ρ 3) ρ).bind seqItems) (bName 0) (fun _ => some true) C_picked_2) ρ)) ρ)) ((fun _ => some []) ρ))) ρ)) ρ) (fun ρ => .next ρ))))
noncomputable def F_picked : List Sl → Option Rv := fnP 3 6 g_picked
noncomputable def C_law_0 : VE → Option D := (fun ρ => lstO ((bltF lstD (fun ρ => consO (rdA ρ 0) ((fun _ => some []) ρ))) ρ))
noncomputable def C_law_1 : VE → Option D := (callO F_law_pick (fun ρ => consO (rdA ρ 0) ((fun ρ => consO (rdA ρ 1) ((fun _ => some []) ρ)) ρ)))
noncomputable def L_law_0 : VE → Res := (fun ρ => seqR ((fun ρ => setRF 8 ((callF F_picked (fun ρ => consO (rdA ρ 2) ((fun ρ => consO (rdA ρ 5) ((fun ρ => consO (rdA ρ 7) ((fun _ => some []) ρ)) ρ)) ρ))) ρ) ρ) ρ) (fun ρ => seqR ((fun ρ => iteR ((fun ρ => notO ((fun ρ => truD ((callO F_law_good (fun ρ => consO (rdA ρ 8) ((fun ρ => consO (valO ((bin2 ixD (fun ρ => rdP ρ 3) (fun ρ => rdP ρ 7)) ρ)) ((fun ρ => consO (rdA ρ 4) ((fun ρ => consO (rdA ρ 7) ((fun _ => some []) ρ)) ρ)) ρ)) ρ))) ρ)) ρ)) ρ) ((fun ρ => seqR ((fun ρ => retO ((fun _ => some (.bl false)) ρ)) ρ) (fun ρ => .next ρ)) ρ) ((fun ρ => .next ρ) ρ)) ρ) (fun ρ => seqR ((fun ρ => appR 8 ((fun _ => some (.str "a")) ρ) ρ) ρ) (fun ρ => seqR ((fun ρ => iteR ((fun ρ => notO ((fun ρ => truD ((callO F_law_good (fun ρ => consO (valO ((callO F_picked (fun ρ => consO (rdA ρ 2) ((fun ρ => consO (rdA ρ 5) ((fun ρ => consO (rdA ρ 7) ((fun _ => some []) ρ)) ρ)) ρ))) ρ)) ((fun ρ => consO (valO ((bin2 ixD (fun ρ => rdP ρ 3) (fun ρ => rdP ρ 7)) ρ)) ((fun ρ => consO (rdA ρ 4) ((fun ρ => consO (rdA ρ 7) ((fun _ => some []) ρ)) ρ)) ρ)) ρ))) ρ)) ρ)) ρ) ((fun ρ => seqR ((fun ρ => retO ((fun _ => some (.bl false)) ρ)) ρ) (fun ρ => .next ρ)) ρ) ((fun ρ => .next ρ) ρ)) ρ) (fun ρ => .next ρ)))))
noncomputable def P_law_0 : VE → Res := (fun ρ => setR 1 ((callO F_law_stream (fun ρ => consO (valO ((callO F_law_cell_at (fun ρ => consO (rdA ρ 0) ((fun ρ => consO (valO ((fun _ => some (.int (0))) ρ)) ((fun _ => some []) ρ)) ρ))) ρ)) ((fun ρ => consO (valO ((fun _ => some (.int (3))) ρ)) ((fun _ => some []) ρ)) ρ))) ρ) ρ)
noncomputable def P_law_1 : VE → Res := (fun ρ => setR 2 ((callO F_law_ladders (fun ρ => consO (valO ((callO F_law_cell_at (fun ρ => consO (rdA ρ 0) ((fun ρ => consO (valO ((fun _ => some (.int (0))) ρ)) ((fun _ => some []) ρ)) ρ))) ρ)) ((fun ρ => consO (valO ((fun _ => some (.int (3))) ρ)) ((fun _ => some []) ρ)) ρ))) ρ) ρ)
noncomputable def P_law_2 : VE → Res := (fun ρ => setR 3 ((fun ρ => lstO ((compF 1 [] (fun ρ => ((fun ρ => rdQ ρ 2) ρ).bind seqItems) (bName 0) (fun _ => some true) C_law_0) ρ)) ρ) ρ)
noncomputable def P_law_3 : VE → Res := (fun ρ => setR 4 (lstO ((compF 1 [3] (fun ρ => ((bin2 addD (sl3 (fun ρ => rdP ρ 0) (fun ρ => asI ((fun _ => some (.int (1))) ρ)) (fun ρ => asI ((fun _ => some (.int (9))) ρ)) slD) (callO F_law_stream (fun ρ => consO (valO ((bin2 ixD (fun ρ => rdP ρ 1) (fun _ => some (.int (1)))) ρ)) ((fun ρ => consO (valO ((bin2 modD (bin2 ixD (fun ρ => rdP ρ 1) (fun _ => some (.int (2)))) (fun _ => some (.int (3)))) ρ)) ((fun _ => some []) ρ)) ρ)))) ρ).bind seqItems) (bName 0) (fun _ => some true) C_law_1) ρ)) ρ)
noncomputable def P_law_4 : VE → Res := (fun ρ => setR 5 ((callO F_law_copied (fun ρ => consO (rdA ρ 4) ((fun _ => some []) ρ))) ρ) ρ)
noncomputable def P_law_5 : VE → Res := (fun ρ => setR 6 ((callO F_is_picks (fun ρ => consO (rdA ρ 2) ((fun ρ => consO (rdA ρ 5) ((fun _ => some []) ρ)) ρ))) ρ) ρ)
noncomputable def P_law_6 : VE → Res := (fun ρ => iteR ((fun ρ => orB ((fun ρ => notO ((fun ρ => truD ((bltO isD (fun ρ => consO (rdA ρ 6) ((fun ρ => consO (valO ((fun _ => some (.ty "bool")) ρ)) ((fun _ => some []) ρ)) ρ))) ρ)) ρ)) ρ) ((fun ρ => notO ((fun ρ => truD ((fun ρ => rdP ρ 6) ρ)) ρ)) ρ)) ρ) ((fun ρ => seqR ((fun ρ => retO ((fun _ => some (.bl false)) ρ)) ρ) (fun ρ => .next ρ)) ρ) ((fun ρ => .next ρ) ρ))
noncomputable def P_law_7 : VE → Res := (forO (fun ρ => (((fun ρ => consO (valO ((bltO lenD (fun ρ => consO (rdA ρ 3) ((fun _ => some []) ρ))) ρ)) ((fun _ => some []) ρ)) ρ).bind vals).bind rng1) (bName 7) L_law_0)
noncomputable def P_law_8 : VE → Res := (fun ρ => retO ((fun ρ => blO (andO (asB ((bin2 eqO (fun ρ => rdP ρ 5) (fun ρ => rdP ρ 4)) ρ)) (asB ((bin2 eqO (fun ρ => rdP ρ 2) (fun ρ => rdP ρ 3)) ρ)))) ρ))
noncomputable def S_law_9 : VE → Res := fun ρ => .next ρ
noncomputable def S_law_8 : VE → Res := fun ρ => seqR (P_law_8 ρ) S_law_9
noncomputable def S_law_7 : VE → Res := fun ρ => seqR (P_law_7 ρ) S_law_8
noncomputable def S_law_6 : VE → Res := fun ρ => seqR (P_law_6 ρ) S_law_7
noncomputable def S_law_5 : VE → Res := fun ρ => seqR (P_law_5 ρ) S_law_6
noncomputable def S_law_4 : VE → Res := fun ρ => seqR (P_law_4 ρ) S_law_5
noncomputable def S_law_3 : VE → Res := fun ρ => seqR (P_law_3 ρ) S_law_4
noncomputable def S_law_2 : VE → Res := fun ρ => seqR (P_law_2 ρ) S_law_3
noncomputable def S_law_1 : VE → Res := fun ρ => seqR (P_law_1 ρ) S_law_2
noncomputable def S_law_0 : VE → Res := fun ρ => seqR (P_law_0 ρ) S_law_1
noncomputable def g_law : VE → Res := S_law_0
noncomputable def F_law : List Sl → Option Rv := fnP 1 9 g_law
def lnD (l : List At) : D := .tup (l.map aD)
theorem eqD_aD : ∀ (a b : At), eqD (aD a) (aD b) = decide (a = b) := by
  intro a b
  cases a <;> cases b <;> simp [aD]
theorem eqDs_aD : ∀ (a b : List At), eqDs (a.map aD) (b.map aD) = decide (a = b)
  | [], [] => by simp
  | [], _ :: _ => by simp
  | _ :: _, [] => by simp
  | x :: a, y :: b => by
    have ih := eqDs_aD a b
    rw [Bool.eq_iff_iff]
    simp [eqD_aD, ih]
theorem okD_aD (n : Nat) (a : At) : okD n (aD a) = true := by cases a <;> cases n <;> rfl
theorem okD_lnD (n : Nat) (l : List At) : okD (n + 1) (lnD l) = true := by
  show (l.map aD).all (okD n) = true
  rw [List.all_map, List.all_eq_true]
  exact fun a _ => okD_aD n a
theorem neO_ln (a b : List At) : neO (lnD a) (lnD b) = some (.bl (!decide (a = b))) := by
  have h1 := okD_lnD 11 a
  have h2 := okD_lnD 11 b
  have h3 : eqD (lnD a) (lnD b) = decide (a = b) := by simp only [lnD, eqD, eqDs_aD]
  simp only [neO, deep_eq, h1, h2, h3, Bool.and_self, if_true]
structure TO {α : Type} (lt : α → α → Bool) : Prop where
  asym : ∀ a b, lt a b = true → lt b a = false
  neg : ∀ a b c, lt a c = true → lt a b = true ∨ lt b c = true
  anti : ∀ a b, lt a b = false → lt b a = false → a = b
theorem TO.irr {α : Type} {lt : α → α → Bool} (T : TO lt) (a : α) : lt a a = false := by
  cases h : lt a a with
  | false => rfl
  | true => have := T.asym a a h; rw [h] at this; cases this
theorem TO.trans {α : Type} {lt : α → α → Bool} (T : TO lt) {a b c : α} (h1 : lt a b = true) (h2 : lt b c = true) : lt a c = true := by
  rcases T.neg a c b h1 with h | h
  · exact h
  · rw [T.asym b c h2] at h; cases h
def insG {α : Type} (lt : α → α → Bool) (x : α) : List α → List α
  | [] => [x]
  | y :: r => if lt x y then x :: y :: r else y :: insG lt x r
def srtG {α : Type} (lt : α → α → Bool) : List α → List α
  | [] => []
  | x :: r => insG lt x (srtG lt r)
theorem insG_perm {α : Type} (lt : α → α → Bool) (x : α) : ∀ l, (insG lt x l).Perm (x :: l)
  | [] => .refl _
  | y :: r => by
    unfold insG
    split
    · exact .refl _
    · exact ((insG_perm lt x r).cons y).trans (.swap x y r)
theorem srtG_perm {α : Type} (lt : α → α → Bool) : ∀ l, (srtG lt l).Perm l
  | [] => .refl _
  | x :: r => (insG_perm lt x _).trans ((srtG_perm lt r).cons x)
theorem insG_pair {α : Type} {lt : α → α → Bool} (T : TO lt) (x : α) : ∀ l : List α, l.Pairwise (fun a b => lt b a = false) → (insG lt x l).Pairwise fun a b => lt b a = false
  | [], _ => by simp [insG]
  | y :: r, hp => by
    obtain ⟨h1, h2⟩ := List.pairwise_cons.mp hp
    unfold insG
    split
    · next hl =>
      refine List.pairwise_cons.mpr ⟨fun z hz => ?_, hp⟩
      rcases List.mem_cons.mp hz with e | hz
      · subst e; exact T.asym x z hl
      · cases hc : lt z x with
        | false => rfl
        | true =>
          rcases T.neg z y x hc with q | q
          · rw [h1 z hz] at q; cases q
          · rw [T.asym x y hl] at q; cases q
    · next hl =>
      rw [Bool.not_eq_true] at hl
      refine List.pairwise_cons.mpr ⟨fun z hz => ?_, insG_pair T x r h2⟩
      rcases List.mem_cons.mp ((insG_perm lt x r).subset hz) with e | hz
      · subst e; exact hl
      · exact h1 z hz
theorem srtG_pair {α : Type} {lt : α → α → Bool} (T : TO lt) : ∀ l : List α, (srtG lt l).Pairwise fun a b => lt b a = false
  | [] => .nil
  | x :: r => insG_pair T x _ (srtG_pair T r)
theorem insK_map {α : Type} (f : α → D) (lt : α → α → Bool) (lk : D → D → Bool) (x : α) : ∀ l : List α, (∀ y ∈ l, lk (f x) (f y) = lt x y) → insK lk (f x) (l.map f) = (insG lt x l).map f
  | [], _ => rfl
  | y :: r, h => by
    have h1 := h y List.mem_cons_self
    have ih := insK_map f lt lk x r fun z hz => h z (List.mem_cons_of_mem _ hz)
    simp only [List.map_cons, insK, insG, h1, ih]
    split <;> rfl
theorem srtK_map {α : Type} (f : α → D) (lt : α → α → Bool) (lk : D → D → Bool) : ∀ l : List α, (∀ x ∈ l, ∀ y ∈ l, lk (f x) (f y) = lt x y) → srtK lk (l.map f) = (srtG lt l).map f
  | [], _ => rfl
  | x :: r, h => by
    have ih := srtK_map f lt lk r fun y hy z hz => h y (List.mem_cons_of_mem _ hy) z (List.mem_cons_of_mem _ hz)
    simp only [List.map_cons, srtK, srtG, ih]
    exact insK_map f lt lk x _ fun y hy => h x List.mem_cons_self y (List.mem_cons_of_mem _ ((srtG_perm lt r).subset hy))
theorem sort_map {α : Type} {F : List Sl → Option Rv} (f : α → D) {lt : α → α → Bool} (T : TO lt) (b : Bool) (xs : List α) (few : xs.length < 64) (ky : α → D) (tells : ∀ a ∈ xs, F [.val (f a)] = some (.val (ky a))) (mode : ∀ a ∈ xs, KMode b (ky a)) (cmp : ∀ a ∈ xs, ∀ c ∈ xs, ltN 6 (ky a) (ky c) = some (lt a c)) : sortK F (xs.map f) = some ((srtG lt xs).map f) := by
  have hk : ∀ a ∈ xs, kfOf F (f a) = ky a := fun a ha => by unfold kfOf; rw [tells a ha]; rfl
  have hl : ∀ a ∈ xs, ∀ c ∈ xs, ltF F (f a) (f c) = lt a c := fun a ha c hc => ltF_some (by rw [hk a ha, hk c hc]; exact cmp a ha c hc)
  have ok : SortOk F (xs.map f) := {
    few := by simpa using few
    tells := fun x hx => by obtain ⟨a, ha, rfl⟩ := List.mem_map.mp hx; exact ⟨_, tells a ha⟩
    mode := ⟨b, fun x hx => by obtain ⟨a, ha, rfl⟩ := List.mem_map.mp hx; rw [hk a ha]; exact mode a ha⟩
    cmp := fun x hx y hy => by
      obtain ⟨a, ha, rfl⟩ := List.mem_map.mp hx
      obtain ⟨c, hc, rfl⟩ := List.mem_map.mp hy
      rw [hk a ha, hk c hc]; exact ⟨_, cmp a ha c hc⟩
    asym := fun x hx y hy h => by
      obtain ⟨a, ha, rfl⟩ := List.mem_map.mp hx
      obtain ⟨c, hc, rfl⟩ := List.mem_map.mp hy
      rw [hl a ha c hc] at h; rw [hl c hc a ha]; exact T.asym a c h
    neg := fun x hx y hy z hz h => by
      obtain ⟨a, ha, rfl⟩ := List.mem_map.mp hx
      obtain ⟨c, hc, rfl⟩ := List.mem_map.mp hy
      obtain ⟨e, he, rfl⟩ := List.mem_map.mp hz
      rw [hl a ha e he] at h; rw [hl a ha c hc, hl c hc e he]; exact T.neg a c e h
    anti := fun x hx y hy h1 h2 => by
      obtain ⟨a, ha, rfl⟩ := List.mem_map.mp hx
      obtain ⟨c, hc, rfl⟩ := List.mem_map.mp hy
      rw [hl a ha c hc] at h1; rw [hl c hc a ha] at h2; rw [T.anti a c h1 h2] }
  rw [sortK_eq ok, srtK_map f lt _ xs hl]
def ded {α : Type} [DecidableEq α] : Option α → List α → List α
  | _, [] => []
  | p, a :: r => if p = some a then ded p r else a :: ded (some a) r
theorem ded_nodup {α : Type} [DecidableEq α] : ∀ (l : List α) (p : Option α), l.Nodup → (∀ a, p = some a → a ∉ l) → ded p l = l
  | [], _, _, _ => rfl
  | a :: r, p, h, hp => by
    obtain ⟨h1, h2⟩ := List.nodup_cons.mp h
    unfold ded
    rw [if_neg (fun e => hp a e List.mem_cons_self), ded_nodup r (some a) h2 fun b hb => by cases hb; exact h1]
theorem ded_strict {α : Type} [DecidableEq α] {lt : α → α → Bool} (T : TO lt) : ∀ (l : List α) (p : Option α), l.Pairwise (fun a b => lt b a = false) → (∀ q, p = some q → ∀ x ∈ l, lt x q = false) → (ded p l).Pairwise (fun a b => lt a b = true) ∧ ∀ q, p = some q → ∀ x ∈ ded p l, lt q x = true
  | [], p, _, _ => ⟨.nil, fun _ _ _ h => nomatch h⟩
  | a :: r, p, h, hp => by
    obtain ⟨h1, h2⟩ := List.pairwise_cons.mp h
    unfold ded
    split
    · next e => exact ded_strict T r p h2 fun q hq x hx => hp q hq x (List.mem_cons_of_mem _ hx)
    · next e =>
      obtain ⟨i1, i2⟩ := ded_strict T r (some a) h2 fun q hq x hx => by cases hq; exact h1 x hx
      refine ⟨List.pairwise_cons.mpr ⟨fun x hx => i2 a rfl x hx, i1⟩, fun q hq x hx => ?_⟩
      have hqa : lt q a = true := by
        cases hc : lt q a with
        | true => rfl
        | false => exact absurd (by rw [hq, T.anti q a hc (hp q hq a List.mem_cons_self)]) e
      rcases List.mem_cons.mp hx with rfl | hx
      · exact hqa
      · exact T.trans hqa (i2 a rfl x hx)
def ltA : At → At → Bool
  | .non, .non => false
  | .non, _ => true
  | .int i, .int j => decide (i < j)
  | .int _, .str _ => true
  | .str x, .str y => decide (x.cps.toList < y.cps.toList)
  | _, _ => false
theorem strx {x y : Str} (h : x.cps.toList = y.cps.toList) : x = y := by
  obtain ⟨⟨a⟩⟩ := x
  obtain ⟨⟨b⟩⟩ := y
  simp at h
  rw [h]
theorem TO_A : TO ltA := {
  asym := fun a b h => by
    cases a <;> cases b <;> simp only [ltA, decide_eq_true_eq, decide_eq_false_iff_not, Bool.false_eq_true] at h ⊢
    · omega
    · exact List.lt_asymm h
  neg := fun a b c h => by
    cases a <;> cases c <;> simp only [ltA, decide_eq_true_eq, Bool.false_eq_true] at h <;> cases b <;> simp only [ltA, decide_eq_true_eq, Bool.false_eq_true, true_or, or_true, false_or, or_false]
    · omega
    · next x y z =>
      by_cases h1 : x.cps.toList < z.cps.toList
      · exact .inl h1
      · exact .inr (List.lt_of_le_of_lt (List.not_lt.mp h1) h)
  anti := fun a b h1 h2 => by
    cases a <;> cases b <;> simp only [ltA, decide_eq_false_iff_not, Bool.true_eq_false] at h1 h2
    · rfl
    · rw [At.int.injEq]; omega
    · rw [At.str.injEq]; exact strx (List.le_antisymm (List.not_lt.mp h2) (List.not_lt.mp h1)) }
def ltL : List At → List At → Bool
  | [], [] => false
  | [], _ :: _ => true
  | _ :: _, [] => false
  | a :: r, b :: s => if a = b then ltL r s else ltA a b
theorem ltL_asym : ∀ a b, ltL a b = true → ltL b a = false
  | [], [], _ => rfl
  | [], _ :: _, _ => rfl
  | _ :: _, [], h => by cases h
  | a :: r, b :: s, h => by
    unfold ltL at h ⊢
    by_cases e : a = b
    · subst e; simp only [if_true] at h ⊢; exact ltL_asym r s h
    · rw [if_neg e] at h; rw [if_neg (fun z => e z.symm)]; exact TO_A.asym a b h
theorem ltL_neg : ∀ a b c, ltL a c = true → ltL a b = true ∨ ltL b c = true
  | [], [], c, h => .inr h
  | [], _ :: _, _, _ => .inl rfl
  | _ :: _, _, [], h => by cases h
  | _ :: _, [], _ :: _, _ => .inr rfl
  | a :: r, b :: s, c :: t, h => by
    unfold ltL at h ⊢
    by_cases e1 : a = b
    · subst e1
      by_cases e2 : a = c
      · simp only [e2, if_true] at h ⊢; exact ltL_neg r s t h
      · rw [if_neg e2] at h; right; rw [if_neg e2]; exact h
    · rw [if_neg e1]
      by_cases e2 : b = c
      · subst e2; rw [if_neg e1] at h; exact .inl h
      · rw [if_neg e2]
        by_cases e3 : a = c
        · subst e3
          cases hc : ltA a b with
          | true => exact .inl rfl
          | false =>
            cases hd : ltA b a with
            | true => exact .inr rfl
            | false => exact absurd (TO_A.anti a b hc hd) e1
        · rw [if_neg e3] at h; exact TO_A.neg a b c h
theorem ltL_anti : ∀ a b, ltL a b = false → ltL b a = false → a = b
  | [], [], _, _ => rfl
  | [], _ :: _, h, _ => by cases h
  | _ :: _, [], _, h => by cases h
  | a :: r, b :: s, h1, h2 => by
    unfold ltL at h1 h2
    by_cases e : a = b
    · subst e; simp only [if_true] at h1 h2; rw [ltL_anti r s h1 h2]
    · rw [if_neg e] at h1; rw [if_neg (fun z => e z.symm)] at h2; exact absurd (TO_A.anti a b h1 h2) e
theorem TO_L : TO ltL := ⟨ltL_asym, ltL_neg, ltL_anti⟩
def rk2 : At → D
  | .non => .tup [.int 0, .int 0]
  | .int i => .tup [.int 1, .int i]
  | .str x => .tup [.int 2, .str x]
theorem rk2_lt (n : Nat) (a b : At) : ltN (n + 2) (rk2 a) (rk2 b) = some (ltA a b) := by
  cases a <;> cases b <;> simp [rk2, ltA]
  · intro e; omega
  · intro e; subst e; simp
theorem rk2_eq (a b : At) : eqD (rk2 a) (rk2 b) = decide (a = b) := by
  cases a <;> cases b <;> simp [rk2]
theorem rk2_ok (n : Nat) (a : At) : okD (n + 1) (rk2 a) = true := by cases a <;> cases n <;> rfl
theorem rk2s_lt (n : Nat) : ∀ l m : List At, ltDs (ltN (n + 2)) (l.map rk2) (m.map rk2) = some (ltL l m)
  | [], [] => rfl
  | [], _ :: _ => rfl
  | _ :: _, [] => rfl
  | a :: r, b :: s => by
    have ih := rk2s_lt n r s
    have h1 := rk2_ok 11 a
    have h2 := rk2_ok 11 b
    have h3 := rk2_eq a b
    have h4 := rk2_lt n a b
    simp only [List.map_cons, ltDs, deep_eq, h1, h2, h3, h4, ih, ltL, Bool.and_self, if_true, decide_eq_true_eq]
    split <;> rfl
theorem ded_len {α : Type} [DecidableEq α] : ∀ (l : List α) (p : Option α), (ded p l).length ≤ l.length
  | [], _ => Nat.le_refl _
  | a :: r, p => by
    unfold ded
    split
    · exact Nat.le_succ_of_le (ded_len r p)
    · exact Nat.succ_le_succ (ded_len r _)
theorem fn_ret {np n : Nat} {g : VE → Res} {ss : List Sl} {r : Rv} (h : ss.length = np) (e : g (ss ++ List.replicate (n - np) .no) = .ret r) : fnP np n g ss = some r := by
  unfold fnP
  rw [if_pos h, e]
theorem atI_zero {α : Type} (x : α) (xs : List α) : atI (x :: xs) 0 = some x := by
  have : (0 : Int) < (xs.length : Int) + 1 := by omega
  simp [atI, ixN, this]
theorem atI_last {α : Type} (xs : List α) (x : α) : atI (xs ++ [x]) (-1) = some x := by
  have h1 : (-1 + ((xs.length : Int) + 1)).toNat = xs.length := by omega
  have h2 : -((xs.length : Int) + 1) ≤ -1 := by omega
  simp [atI, ixN, h1, h2]
theorem value_rank_eq (a : At) : F_value_rank [.val (aD a)] = some (.val (rk2 a)) := by
  have h2 : (2 : Nat) ≤ sizeLine := by decide
  cases a <;> simp [F_value_rank, fnP, g_value_rank, F_is_whole, g_is_whole, aD, rk2, h2]
theorem key_rank_eq (l : List At) (h : l.length ≤ 1000) : F_key_rank [.val (lnD l)] = some (.val (.tup (l.map rk2))) := by
  have hz : l.length ≤ sizeLine := Nat.le_trans h (by decide)
  have hc := compL_map (b := bName 0) (e := C_key_rank_0) (ρ := [.no]) aD rk2 l fun a _ => ⟨[.val (aD a)], rfl, by
    have := value_rank_eq a
    simp only [C_key_rank_0, callO, consO, rdA, List.getElem?_cons_zero, Option.bind, this, Option.map, rvD]⟩
  simp [F_key_rank, fnP, g_key_rank, lnD, hz, compIn, hc, -List.map_map]
theorem in_order_run (s0 : Sl) : ∀ (ls acc : List (List At)) (s2 : Sl), acc.length + ls.length < 100000 → ∃ s2', forR (bName 2) L_in_order_0 (ls.map lnD) [s0, .own (acc.map lnD), s2] = .next [s0, .own ((acc ++ ded acc.getLast? ls).map lnD), s2']
  | [], acc, s2, _ => ⟨s2, by simp [forR, ded]⟩
  | l :: ls, acc, s2, hz => by
    simp only [List.length_cons] at hz
    have hzz : acc.length < sizeLine := Nat.lt_of_lt_of_le (show acc.length < 100000 by omega) (by decide)
    have hn : negD (some (.int 1)) = some (.int (-1)) := rfl
    simp only [List.map_cons, forR, bName, List.set_cons_succ, List.set_cons_zero]
    rcases List.eq_nil_or_concat acc with rfl | ⟨pre, x, rfl⟩
    · obtain ⟨s2', e⟩ := in_order_run s0 ls [l] (.val (lnD l)) (by simp; omega)
      refine ⟨s2', ?_⟩
      have hb : L_in_order_0 [s0, .own ([].map lnD), .val (lnD l)] = .next [s0, .own ([l].map lnD), .val (lnD l)] := by
        have h0 : (0 : Nat) < sizeLine := by decide
        simp [L_in_order_0, h0]
      have hd : ded ([] : List (List At)).getLast? (l :: ls) = l :: ded (some l) ls := rfl
      rw [hb, hd]
      exact e
    · rw [List.concat_eq_append] at hz hzz ⊢
      have hix : ixD (.lst ((pre ++ [x]).map lnD)) (.int (-1)) = some (lnD x) := by
        show atI ((pre ++ [x]).map lnD) (-1) = _
        rw [List.map_append]; exact atI_last _ _
      have htr : truD (some (.lst ((pre ++ [x]).map lnD))) = some true := by simp
      have hne := neO_ln x l
      have hlast : (pre ++ [x]).getLast? = some x := by simp
      by_cases hx : x = l
      · subst hx
        obtain ⟨s2', e⟩ := in_order_run s0 ls (pre ++ [x]) (.val (lnD x)) (by omega)
        refine ⟨s2', ?_⟩
        have hb : L_in_order_0 [s0, .own ((pre ++ [x]).map lnD), .val (lnD x)] = .next [s0, .own ((pre ++ [x]).map lnD), .val (lnD x)] := by
          simp only [L_in_order_0, seqR, iteR, orB, notO, asB, bin2, rdP, rdV, rdO, List.getElem?_cons_succ, List.getElem?_cons_zero, Option.bind, Option.map, htr, hn, hix, hne, decide_true, Bool.not_true]
        rw [hb, hlast, ded, if_pos rfl, ← hlast]
        exact e
      · obtain ⟨s2', e⟩ := in_order_run s0 ls (pre ++ [x] ++ [l]) (.val (lnD l)) (by simp at hz ⊢; omega)
        refine ⟨s2', ?_⟩
        have hl : (pre ++ [x] ++ [l]).getLast? = some l := by simp
        have hb : L_in_order_0 [s0, .own ((pre ++ [x]).map lnD), .val (lnD l)] = .next [s0, .own ((pre ++ [x] ++ [l]).map lnD), .val (lnD l)] := by
          rw [show ((pre ++ [x] ++ [l]).map lnD) = (pre ++ [x]).map lnD ++ [lnD l] by simp]
          simp only [L_in_order_0, seqR, iteR, orB, notO, asB, bin2, rdP, rdV, rdO, List.getElem?_cons_succ, List.getElem?_cons_zero, Option.bind, Option.map, htr, hn, hix, hne, hx, decide_false, Bool.not_false, Bool.not_true, appR, List.length_map, hzz, if_true, List.set_cons_succ, List.set_cons_zero]
        rw [hb, hlast, ded, if_neg (by simpa using hx)]
        rw [hl] at e
        rw [show pre ++ [x] ++ l :: ded (some l) ls = pre ++ [x] ++ [l] ++ ded (some l) ls by simp]
        exact e
theorem in_order_eq (s : Sl) (ls : List (List At)) (hs : s = .val (.lst (ls.map lnD)) ∨ s = .lent (ls.map lnD)) (hl : ls.length < 64) (hn : ∀ l ∈ ls, l ≠ [] ∧ l.length ≤ 1000) : F_in_order [s] = some (.own ((ded none (srtG ltL ls)).map lnD)) := by
  have hs' := sort_map (F := F_key_rank) lnD TO_L false ls hl (fun l => .tup (l.map rk2)) (fun l h => key_rank_eq l (hn l h).2) (fun l h => by
    cases l with
    | nil => exact absurd rfl (hn [] h).1
    | cons a r => cases a <;> exact ⟨_, _, rfl⟩) (fun l _ m _ => rk2s_lt 3 l m)
  have hp := (srtG_perm ltL ls).length_eq
  obtain ⟨s2', e⟩ := in_order_run s (srtG ltL ls) [] .no (by rw [hp]; simp; omega)
  have hz : (srtG ltL ls).length ≤ sizeLine := by rw [hp]; exact Nat.le_trans (show ls.length ≤ 1000 by omega) (by decide)
  simp only [List.map_nil, List.nil_append, List.getLast?_nil] at e
  refine fn_ret rfl ?_
  show g_in_order [s, .no, .no] = _
  have hsh : shortO (some ([] : List D)) = some [] := rfl
  rcases hs with rfl | rfl <;> simp only [g_in_order, seqR, setRF, forO, sortKF, lstO, seqItems, rdP, rdO, retF, vals, hsh, hs', e, List.getElem?_cons_succ, List.getElem?_cons_zero, Option.bind, Option.map, List.set_cons_succ, List.set_cons_zero]
def ltS1 (a b : At) : Bool := ltL [a] [b]
theorem ltS1_eq (a b : At) : ltS1 a b = ltA a b := by
  unfold ltS1 ltL
  by_cases h : a = b
  · subst h; simp [ltL, TO_A.irr]
  · rw [if_neg h]
theorem ins_one (a : At) : ∀ l : List At, insG ltL [a] (l.map fun x => [x]) = (insG ltA a l).map fun x => [x]
  | [] => rfl
  | b :: r => by
    have h := ltS1_eq a b
    unfold ltS1 at h
    simp only [List.map_cons, insG, h, ins_one a r]
    split <;> rfl
theorem srt_one : ∀ l : List At, srtG ltL (l.map fun x => [x]) = (srtG ltA l).map fun x => [x]
  | [] => rfl
  | a :: r => by simp only [List.map_cons, srtG, srt_one r, ins_one]
theorem ded_one : ∀ (l : List At) (p : Option At), ded (p.map fun x => [x]) (l.map fun x => [x]) = (ded p l).map fun x => [x]
  | [], _ => rfl
  | a :: r, p => by
    have h : (p.map (fun x => [x]) = some [a]) ↔ p = some a := by cases p <;> simp
    simp only [List.map_cons, ded, h]
    split
    · exact ded_one r p
    · have := ded_one r (some a)
      simp only [Option.map_some] at this
      rw [this]; rfl
theorem values_in_order_eq (s : Sl) (l : List At) (hs : s = .val (.lst (l.map aD)) ∨ s = .lent (l.map aD)) (hl : l.length < 64) : F_values_in_order [s] = some (.own ((ded none (srtG ltA l)).map aD)) := by
  have hz : l.length ≤ sizeLine := Nat.le_trans (show l.length ≤ 1000 by omega) (by decide)
  have h1 : (1 : Nat) ≤ sizeLine := by decide
  have hc := compL_map (b := bName 0) (e := C_values_in_order_0) (ρ := [.no]) aD (fun a => lnD [a]) l fun a _ => ⟨[.val (aD a)], rfl, by simp [C_values_in_order_0, lnD, h1]⟩
  have e1 : (l.map fun a => lnD [a]) = (l.map fun x => [x]).map lnD := by rw [List.map_map]; rfl
  have hi := in_order_eq (.val (.lst ((l.map fun x => [x]).map lnD))) (l.map fun x => [x]) (.inl rfl) (by simpa using hl) (fun m hm => by obtain ⟨a, _, rfl⟩ := List.mem_map.mp hm; exact ⟨by simp, by simp⟩)
  rw [srt_one, show (none : Option (List At)) = (none : Option At).map (fun x => [x]) from rfl, ded_one] at hi
  have hlen : (ded none (srtG ltA l)).length ≤ l.length := by
    have h2 := (srtG_perm ltA l).length_eq
    rw [← h2]
    exact ded_len _ _
  generalize hW : ded none (srtG ltA l) = W at *
  have hzW : W.length ≤ sizeLine := Nat.le_trans hlen hz
  have hd := compL_map (b := bName 0) (e := C_values_in_order_1) (ρ := [.no]) (fun a => lnD [a]) aD W fun a _ => ⟨[.val (lnD [a])], rfl, by
    have : ixD (lnD [a]) (.int 0) = some (aD a) := by show atI ([a].map aD) 0 = _; exact atI_zero _ _
    simp only [C_values_in_order_1, bin2, rdP, List.getElem?_cons_zero, Option.bind, this]⟩
  have e2 : (W.map fun a => lnD [a]) = (W.map fun x => [x]).map lnD := by rw [List.map_map]; rfl
  rw [e1] at hc
  rw [e2] at hd
  have q1 : shortO (some (l.map aD)) = some (l.map aD) := short_le _ (by simp; omega)
  have q2 : shortO (some ((W.map fun x => [x]).map lnD)) = some ((W.map fun x => [x]).map lnD) := short_le _ (by simp; omega)
  generalize (l.map fun x => [x]).map lnD = A at *
  generalize (W.map fun x => [x]).map lnD = B at *
  refine fn_ret rfl ?_
  show g_values_in_order [s] = _
  have hin : compIn 1 [] [s] = [.no] := rfl
  rcases hs with rfl | rfl <;> simp only [g_values_in_order, seqR, retF, compF, hin, rdQ, seqItems, callO, consO, valO, lstO, List.getElem?_cons_zero, Option.bind, Option.map, q1, hc, hi, rvD_o, q2, hd]
theorem line_at_eq (l : List At) (j : Nat) (h : l.length ≤ 1000) : F_line_at [.val (lnD l), .val (.int (j : Int))] = some (.val (aD (l.getD j .non))) := by
  have hz : l.length ≤ sizeLine := Nat.le_trans h (by decide)
  by_cases hj : j < l.length
  · have hj' : (j : Int) < (l.length : Int) := by omega
    have : ixD (lnD l) (.int (j : Int)) = some (aD (l.getD j .non)) := by
      show atI (l.map aD) (j : Int) = _
      exact atI_nat (by simp [List.getElem?_eq_getElem hj, List.getD])
    have hlen : lenD [lnD l] = some (.int (l.length : Int)) := by simp [lnD]
    simp [F_line_at, fnP, g_line_at, -ixD, -lenD, hlen, this, hj']
  · have hj' : ¬ (j : Int) < (l.length : Int) := by omega
    have hlen : lenD [lnD l] = some (.int (l.length : Int)) := by simp [lnD]
    have e : l.getD j .non = .non := by simp [List.getD, List.getElem?_eq_none (show l.length ≤ j by omega)]
    rw [e]
    simp [F_line_at, fnP, g_line_at, -ixD, -lenD, hlen, hj', aD]
theorem compL_filter {α : Type} {b : D → VE → Option VE} {t : VE → Option Bool} {e : VE → Option D} {ρ : VE} (G F : α → D) (P : α → Bool) : ∀ (xs : List α), (∀ x ∈ xs, ∃ ρ1, b (G x) ρ = some ρ1 ∧ t ρ1 = some (P x) ∧ e ρ1 = some (F x)) → compL b t e ρ (xs.map G) = some ((xs.filter P).map F)
  | [], _ => rfl
  | x :: xs, h => by
    obtain ⟨ρ1, h1, h2, h3⟩ := h x List.mem_cons_self
    have ih := compL_filter G F P xs fun y hy => h y (List.mem_cons_of_mem _ hy)
    cases hp : P x with
    | true => simp [compL, h1, h2, h3, hp, ih]
    | false => simp [compL, h1, h2, hp, ih]
def hd0 (l : List At) : At := l.getD 0 .non
theorem hd_at (l : List At) (h : l ≠ []) : ixD (lnD l) (.int 0) = some (aD (hd0 l)) := by
  cases l with
  | nil => exact absurd rfl h
  | cons a r => show atI ((a :: r).map aD) 0 = _; exact atI_zero _ _
theorem ded_srt {l : List At} (h : l.Nodup) : ded none (srtG ltA l) = srtG ltA l := ded_nodup _ _ ((srtG_perm ltA l).nodup_iff.mpr h) fun _ e => by cases e
theorem modD_pos (x n : Int) (h : 0 < n) : modD (.int x) (.int n) = some (.int (x % n)) := by
  show (if 0 < n then some (D.int (x % n)) else none) = _
  rw [if_pos h]
def mkD (acc : KDs) (ps : List (At × D)) : KDs := ps.foldl (fun kvs p => putL kvs (.at p.1) p.2) acc
theorem okK_aD' (a : At) : okK (aD a) = some (.at a) := okK_kD (.at a)
theorem putL_at {kvs : KDs} {a : At} {v : D} (h : ∀ p ∈ kvs, isAt p.1 = true) : ∀ p ∈ putL kvs (.at a) v, isAt p.1 = true := fun p hp => by
  rcases putL_mem hp with hp | rfl
  · exact h p hp
  · rfl
theorem foldPut_at : ∀ (ps : List (At × D)) (acc : KDs), (∀ p ∈ acc, isAt p.1 = true) → acc.length + ps.length ≤ 100000 → foldPut acc (ps.map fun p => .tup [aD p.1, p.2]) = some (mkD acc ps)
  | [], acc, _, _ => rfl
  | p :: ps, acc, h, hz => by
    simp only [List.length_cons] at hz
    have hl : acc.length < sizeLine := Nat.lt_of_lt_of_le (show acc.length < 100000 by omega) (by decide)
    have hp := putL_len acc (.at p.1) p.2
    have ih := foldPut_at ps (putL acc (.at p.1) p.2) (putL_at h) (by omega)
    simp only [List.map_cons, foldPut, okK_aD', homL_at p.1 h, hl, decide_true, Bool.and_self, if_true, ih]
    rfl
theorem mkD_at : ∀ (ps : List (At × D)) (acc : KDs), (∀ p ∈ acc, isAt p.1 = true) → ∀ p ∈ mkD acc ps, isAt p.1 = true
  | [], _, h => h
  | p :: ps, acc, h => mkD_at ps _ (putL_at h)
theorem mkD_in (a : At) : ∀ (ps : List (At × D)) (acc : KDs), (valL (mkD acc ps) (.at a)).isSome = ((valL acc (.at a)).isSome || decide (a ∈ ps.map (·.1)))
  | [], acc => by simp [mkD]
  | p :: ps, acc => by
    have ih := mkD_in a ps (putL acc (.at p.1) p.2)
    show (valL (mkD (putL acc (.at p.1) p.2) ps) _).isSome = _
    rw [ih, valL_put]
    by_cases e : p.1 = a
    · subst e; simp
    · have e' : ¬ KT.at p.1 = KT.at a := fun z => e (KT.at.inj z)
      have e2 : ¬ a = p.1 := fun z => e z.symm
      rw [if_neg e', Bool.eq_iff_iff]
      simp [e2]
theorem mkD_din (neg : Bool) (ps : List (At × D)) (a : At) : dinD neg (aD a) (.lst (flatD (mkD [] ps)) true) = some (.bl (neg != decide (a ∈ ps.map (·.1)))) := by
  have hh := homL_at (kvs := mkD [] ps) a (mkD_at ps [] fun _ h => nomatch h)
  have hi := mkD_in a ps []
  rw [dinD_flat, okK_aD']
  simp only [Option.bind, hh, if_true, hi]
  simp [valL]
theorem in_ats (a : At) (l : List At) : inD false (aD a) (.lst (l.map aD)) = some (.bl (decide (a ∈ l))) ∧ inD true (aD a) (.lst (l.map aD)) = some (.bl (!decide (a ∈ l))) := by
  have h1 : (l.map aD).all (okD 12) = true := by
    rw [List.all_map, List.all_eq_true]
    exact fun x _ => okD_aD 12 x
  have h2 : inDs (aD a) (l.map aD) = decide (a ∈ l) := by
    unfold inDs
    rw [Bool.eq_iff_iff, List.any_map, List.any_eq_true]
    constructor
    · rintro ⟨x, hx, e⟩
      simp only [Function.comp, eqD_aD, decide_eq_true_eq] at e
      subst e; simpa using hx
    · intro h
      exact ⟨a, by simpa using h, by simp [Function.comp, eqD_aD]⟩
  simp only [inD, deep_eq, okD_aD, h1, h2, Bool.and_self, if_true, Bool.false_eq_true, if_false, and_self]
theorem cell_at_eq (s : Sl) (ns : List Int) (hs : s = .val (.lst (ns.map D.int)) ∨ s = .lent (ns.map D.int)) (k : Int) (h0 : 0 ≤ k) : F_law_cell_at [s, .val (.int k)] = some (.val (.int (ns.getD k.toNat 0))) := by
  by_cases h : k < ns.length
  · have hk : k.toNat < ns.length := by omega
    rcases hs with rfl | rfl <;> simp [F_law_cell_at, fnP, g_law_cell_at, h, atI, ixN, h0, hk]
  · have hk : ns.length ≤ k.toNat := by omega
    rcases hs with rfl | rfl <;> simp [F_law_cell_at, fnP, g_law_cell_at, h, hk]
def strm (x : Int) : Nat → List Int
  | 0 => []
  | n + 1 => (x * 48271 % 2147483647) :: strm (x * 48271 % 2147483647) n
theorem strm_len : ∀ (n : Nat) (x : Int), (strm x n).length = n
  | 0, _ => rfl
  | n + 1, x => by simp [strm, strm_len n]
theorem strm_pos : ∀ (n : Nat) (x : Int), ∀ y ∈ strm x n, 0 ≤ y ∧ y < 2147483647
  | 0, _, y, h => by cases h
  | n + 1, x, y, h => by
    simp only [strm, List.mem_cons] at h
    rcases h with rfl | h
    · omega
    · exact strm_pos n _ y h
theorem strm_run (s0 s1 : Sl) : ∀ (ds : List D) (x : Int) (acc : List Int) (s4 : Sl), acc.length + ds.length < 100000 → ∃ x' s4', forR (bName 4) L_law_stream_0 ds [s0, s1, .val (.int x), .own (acc.map D.int), s4] = .next [s0, s1, .val (.int x'), .own ((acc ++ strm x ds.length).map D.int), s4']
  | [], x, acc, s4, _ => ⟨x, s4, by simp [forR, strm]⟩
  | d :: ds, x, acc, s4, h => by
    simp only [List.length_cons] at h
    obtain ⟨x', s4', e⟩ := strm_run s0 s1 ds (x * 48271 % 2147483647) (acc ++ [x * 48271 % 2147483647]) (.val d) (by simp; omega)
    have hz : acc.length < sizeLine := Nat.lt_of_lt_of_le (show acc.length < 100000 by omega) (by decide)
    have hm : CMul x 48271 := by right; decide
    refine ⟨x', s4', ?_⟩
    simp [forR, L_law_stream_0, hz, hm, strm] at e ⊢
    exact e
theorem stream_eq (c : Int) (many : Nat) (hm : many < 1000) : ∃ ws : List Int, F_law_stream [.val (.int c), .val (.int (many : Int))] = some (.val (.lst (ws.map D.int))) ∧ ws.length = many ∧ ∀ y ∈ ws, 0 ≤ y ∧ y < 2147483647 := by
  have hr : rng1 [.int ((many : Int) + 2)] = some ((List.range (many + 2)).map fun (k : Nat) => D.int (k : Int)) := by
    have := rng1_nat (many + 2) (by omega)
    simpa using this
  obtain ⟨x', s4', e⟩ := strm_run (.val (.int c)) (.val (.int (many : Int))) ((List.range (many + 2)).map fun (k : Nat) => D.int (k : Int)) (1 + c % 2147483646) [] .no (by simp; omega)
  have hc : cutD ((strm (1 + c % 2147483646) (many + 2)).map D.int) (some 2) none = ((strm (1 + c % 2147483646) (many + 2)).drop 2).map D.int := by rw [cutD_map, cut_from _ _ (by omega)]; rfl
  refine ⟨(strm (1 + c % 2147483646) (many + 2)).drop 2, ?_, by simp [strm_len], fun y hy => strm_pos _ _ y (List.mem_of_mem_drop hy)⟩
  simp at e
  simp [F_law_stream, fnP, g_law_stream, S_law_stream_0, P_law_stream_0, S_law_stream_1, P_law_stream_1, S_law_stream_2, P_law_stream_2, S_law_stream_3, P_law_stream_3, hr, e, hc]
def letters : Str := "abcdefghijklmnopqrstuvwxyz"
def figures : Str := "0123456789"
def signs : Str := "abcdefghijklmnopqrstuvwxyz0123456789"
theorem signs_len : signs.length = 36 := by decide +kernel
def wholeD : D → Bool
  | .int _ => true
  | _ => false
def okc (c : Nat) : Bool := decide (c ∈ letters.cps.toList) || decide (c ∈ figures.cps.toList)
def wordL : List Nat → Bool
  | [] => false
  | c :: r => decide (c ∈ letters.cps.toList) && (c :: r).all okc && decide ((c :: r).length ≤ 12)
def wordD : D → Bool
  | .str z => wordL z.cps.toList
  | _ => false
def Sm : D → Prop
  | .str z => z.length ≤ 100
  | .ty _ => False
  | .lst _ true => False
  | _ => True
theorem is_whole_eq (d : D) (h : Sm d) : F_is_whole [.val d] = some (.val (.bl (wholeD d))) := by
  cases d with
  | lst xs b => cases b with
    | true => exact h.elim
    | false => simp [F_is_whole, fnP, g_is_whole, wholeD]
  | ty n => exact h.elim
  | _ => simp [F_is_whole, fnP, g_is_whole, wholeD]
theorem elt_eq (c : Nat) : C_is_word_0 [.val (.str ⟨#[c]⟩)] = some (.bl (okc c)) := by
  simp only [C_is_word_0, bin2, rdP, List.getElem?_cons_zero, Option.bind, inD_one, asB, orB, blO, Option.map]
  cases h : decide (c ∈ letters.cps.toList) <;> simp [okc, letters, figures] at h ⊢ <;> simp [h]
theorem comp_eq (L : List Nat) : compL (bName 0) (fun _ => some true) C_is_word_0 [.no] (L.map fun c => D.str ⟨#[c]⟩) = some ((L.map okc).map D.bl) := by
  rw [compL_map (fun c => D.str ⟨#[c]⟩) (fun c => D.bl (okc c)) L fun c _ => ⟨[.val (.str ⟨#[c]⟩)], rfl, elt_eq c⟩]
  simp
theorem is_word_eq (d : D) (h : Sm d) : F_is_word [.val d] = some (.val (.bl (wordD d))) := by
  cases d with
  | str z =>
    obtain ⟨⟨L⟩⟩ := z
    have hz : L.length ≤ 100 := h
    have hz' : L.length ≤ sizeLine := Nat.le_trans hz (by decide)
    have hc := comp_eq L
    cases L with
    | nil => simp [F_is_word, fnP, g_is_word, wordD, wordL, Str.length]
    | cons c r =>
      simp only [List.length_cons] at hz hz'
      have e1 : ¬ ((r.length : Int) + 1 < 1) := by omega
      by_cases h12 : r.length + 1 ≤ 12
      · have e2 : ¬ ((12 : Int) < (r.length : Int) + 1) := by omega
        have e3 : r.length ≤ 11 := by omega
        by_cases hl : c ∈ (Str.ofString "abcdefghijklmnopqrstuvwxyz").cps
        · simp [F_is_word, fnP, g_is_word, wordD, wordL, Str.length, hz', e1, e2, -inD, inD_one, atI, ixN, hc, -List.map_cons, -List.map_map, hl, e3, letters]
        · simp [F_is_word, fnP, g_is_word, wordD, wordL, Str.length, hz', e1, e2, -inD, inD_one, atI, ixN, hl, e3, letters]
      · have e2 : (12 : Int) < (r.length : Int) + 1 := by omega
        have e3 : ¬ r.length ≤ 11 := by omega
        simp [F_is_word, fnP, g_is_word, wordD, wordL, Str.length, hz', e1, e2, e3]
  | ty n => exact h.elim
  | lst xs b => cases b with
    | true => exact h.elim
    | false => simp [F_is_word, fnP, g_is_word, wordD]
  | _ => simp [F_is_word, fnP, g_is_word, wordD]
theorem is_value_eq (d : D) (h : Sm d) : F_is_value [.val d] = some (.val (.bl (wholeD d || wordD d))) := by
  have h1 := is_whole_eq d h
  have h2 := is_word_eq d h
  cases hw : wholeD d <;> simp [hw] at h1 ⊢ <;> simp [F_is_value, fnP, g_is_value, h1, h2]
def valD (d : D) : Bool := wholeD d || wordD d
theorem sl_eq (x : Str) (l u : Option Int) : Txt.slice x l u = StrLaws.sliceText x l u := rfl
theorem sl_to (x : Str) (j : Nat) (h : j ≤ x.cps.toList.length) : (Txt.slice x none (some (j : Int))).cps.toList = x.cps.toList.take j := by
  rw [sl_eq, StrLaws.sliceText_to ⟨by omega, by omega⟩]
  simp
theorem app_cps (x y : Str) : (x ++ y).cps.toList = x.cps.toList ++ y.cps.toList := by
  show (x.cps ++ y.cps).toList = _
  simp
theorem one_cps (c : Nat) : (⟨#[c]⟩ : Str).cps.toList = [c] := rfl
theorem len_cps (x : Str) : x.length = x.cps.toList.length := by simp [Str.length]
theorem str_ext {x y : Str} (h : x.cps.toList = y.cps.toList) : x = y := by
  obtain ⟨⟨a⟩⟩ := x
  obtain ⟨⟨b⟩⟩ := y
  simp at h
  rw [h]
theorem at_of {xs : List Int} {i : Int} (h0 : 0 ≤ i) (h1 : i < xs.length) : ∃ x, atI (xs.map D.int) i = some (.int x) ∧ x ∈ xs := by
  obtain ⟨d, e, hd⟩ := atI_ok (xs := xs.map D.int) h0 (by simpa using h1)
  obtain ⟨x, hx, rfl⟩ := List.mem_map.mp hd
  exact ⟨x, e, hx⟩
def GW (W : List Nat) : Prop := (∃ c r, W = c :: r ∧ c ∈ letters.cps.toList) ∧ W.all okc = true
theorem GW.word {W : List Nat} (h : GW W) (hl : W.length ≤ 12) : wordL W = true := by
  obtain ⟨⟨c, r, rfl, hc⟩, ha⟩ := h
  simp only [wordL, hc, decide_true, Bool.true_and, ha, hl]
def sg (i : Nat) : Nat := signs.cps.toList.getD i 0
theorem sg_nd : ((List.range 36).map sg).Nodup := by decide +kernel
theorem sg_ok : ∀ i ∈ List.range 36, okc (sg i) = true := by decide +kernel
theorem sg_let : ∀ i ∈ List.range 26, sg i ∈ letters.cps.toList := by decide +kernel
theorem nd_inj {α : Type} {f : Nat → α} {m : Nat} (h : ((List.range m).map f).Nodup) {j k : Nat} (hj : j < m) (hk : k < m) (e : f j = f k) : j = k := by
  rw [List.nodup_iff_pairwise_ne, List.pairwise_map] at h
  rcases Nat.lt_trichotomy j k with hl | hl | hl
  · exact absurd e (List.pairwise_iff_getElem.mp h j k (by simpa) (by simpa) hl |> fun z => by simpa using z)
  · exact hl
  · exact absurd e.symm (List.pairwise_iff_getElem.mp h k j (by simpa) (by simpa) hl |> fun z => by simpa using z)
theorem sg_ix (i : Nat) (h : i < 36) : ixD (.str "abcdefghijklmnopqrstuvwxyz0123456789") (.int (i : Int)) = some (.str ⟨#[sg i]⟩) := by
  have hl : signs.cps.toList.length = 36 := by decide +kernel
  have hz : signs.length ≤ sizeLine := by rw [signs_len]; decide
  have e : atI signs.cps.toList (i : Int) = some (sg i) := atI_nat (by rw [List.getElem?_eq_getElem (by omega)]; simp [sg, List.getD, List.getElem?_eq_getElem (show i < signs.cps.toList.length by omega)])
  show (if signs.length ≤ sizeLine then (atI signs.cps.toList (i : Int)).map (fun c => D.str ⟨#[c]⟩) else none) = _
  rw [if_pos hz, e]; rfl
theorem sgn (i : Int) (k : Int) (h0 : 0 < k) (h1 : k ≤ 36) : ∃ c, ixD (.str "abcdefghijklmnopqrstuvwxyz0123456789") (.int (i % k)) = some (.str ⟨#[c]⟩) ∧ okc c = true ∧ c = sg (i % k).toNat := by
  have h2 := Int.emod_nonneg i (show k ≠ 0 by omega)
  have h3 := Int.emod_lt_of_pos i h0
  have h4 := sg_ix (i % k).toNat (by omega)
  rw [show (((i % k).toNat : Nat) : Int) = i % k by omega] at h4
  exact ⟨_, h4, sg_ok _ (List.mem_range.mpr (by omega)), rfl⟩
theorem sgn26 (i : Int) : ∃ c, ixD (.str "abcdefghijklmnopqrstuvwxyz0123456789") (.int (i % 26)) = some (.str ⟨#[c]⟩) ∧ c ∈ letters.cps.toList ∧ c = sg (i % 26).toNat := by
  obtain ⟨c, h1, _, h3⟩ := sgn i 26 (by decide) (by decide)
  exact ⟨c, h1, by rw [h3]; exact sg_let _ (List.mem_range.mpr (by omega)), h3⟩
theorem GW.app {W V : List Nat} (h : GW W) (hv : V.all okc = true) : GW (W ++ V) := by
  obtain ⟨⟨c, r, rfl, hc⟩, ha⟩ := h
  exact ⟨⟨c, r ++ V, rfl, hc⟩, by rw [List.all_append, ha, hv]; rfl⟩
theorem comp_gen {e : VE → Option D} {b : D → VE → Option VE} {ρ : VE} {P : D → Prop} : ∀ (ds : List D), (∀ d ∈ ds, ∃ ρ1 x, b d ρ = some ρ1 ∧ e ρ1 = some x ∧ P x) → ∃ vs, compL b (fun _ => some true) e ρ ds = some vs ∧ vs.length = ds.length ∧ ∀ x ∈ vs, P x
  | [], _ => ⟨[], rfl, rfl, fun _ h => nomatch h⟩
  | d :: ds, h => by
    obtain ⟨ρ1, x, h1, h2, h3⟩ := h d List.mem_cons_self
    obtain ⟨vs, e1, e2, e3⟩ := comp_gen ds fun y hy => h y (List.mem_cons_of_mem _ hy)
    refine ⟨x :: vs, by simp [compL, h1, h2, e1], by simp [e2], fun y hy => ?_⟩
    rcases List.mem_cons.mp hy with rfl | hy
    · exact h3
    · exact e3 y hy
theorem four {ws : List Int} (h : ws.length = 4) : ∃ a b c d, ws = [a, b, c, d] := match ws, h with | [a, b, c, d], _ => ⟨a, b, c, d, rfl⟩
theorem three {ws : List Int} (h : ws.length = 3) : ∃ a b c, ws = [a, b, c] := match ws, h with | [a, b, c], _ => ⟨a, b, c, rfl⟩
abbrev SG : Sl := .val (.str "abcdefghijklmnopqrstuvwxyz0123456789")
theorem okc_let {c : Nat} (h : c ∈ letters.cps.toList) : okc c = true := by simp only [okc, h, decide_true, Bool.true_or]
theorem len1 (c : Nat) : (⟨#[c]⟩ : Str).length = 1 := by simp [Str.length]
theorem empty_iff (z : Str) : (z = Str.ofString "") ↔ z.cps.toList = [] := by
  have e : (Str.ofString "").cps.toList = [] := by decide +kernel
  constructor
  · rintro rfl; exact e
  · intro h; exact str_ext (h.trans e.symm)
theorem word_run (s0 s1 : Sl) : ∀ (xs : List Int) (z : Str) (s4 : Sl), (z.cps.toList = [] ∨ GW z.cps.toList) → z.cps.toList.length + xs.length ≤ 1000 → ∃ z' s4', forR (bName 4) L_law_word_0 (xs.map D.int) [s0, s1, SG, .val (.str z), s4] = .next [s0, s1, SG, .val (.str z'), s4'] ∧ z'.cps.toList.length = z.cps.toList.length + xs.length ∧ (z'.cps.toList = [] ∨ GW z'.cps.toList)
  | [], z, s4, h, _ => ⟨z, s4, rfl, by simp, h⟩
  | x :: xs, z, s4, h, hl => by
    simp only [List.length_cons] at hl
    by_cases hz : z.cps.toList = []
    · obtain ⟨c, hc, hcl, _⟩ := sgn26 x
      have hg : GW (⟨#[c]⟩ : Str).cps.toList := ⟨⟨c, [], rfl, hcl⟩, by simp [okc_let hcl]⟩
      obtain ⟨z', s4', e, h1, h2⟩ := word_run s0 s1 xs ⟨#[c]⟩ (.val (.int x)) (.inr hg) (by rw [one_cps]; simp; omega)
      refine ⟨z', s4', ?_, by rw [h1, hz, one_cps]; simp; omega, h2⟩
      have hz' := (empty_iff z).mpr hz
      simp [forR, L_law_word_0, hz', -ixD, hc, e]
    · have hg : GW z.cps.toList := by rcases h with h | h; exact absurd h hz; exact h
      obtain ⟨c, hc, hco, _⟩ := sgn x 36 (by decide) (by decide)
      have ha := addD_str z ⟨#[c]⟩ (by rw [len_cps, len1]; omega)
      obtain ⟨z', s4', e, h1, h2⟩ := word_run s0 s1 xs (z ++ ⟨#[c]⟩) (.val (.int x)) (.inr (by rw [app_cps, one_cps]; exact hg.app (by simp [hco]))) (by rw [app_cps, one_cps, List.length_append, List.length_singleton]; omega)
      refine ⟨z', s4', ?_, by rw [h1, app_cps, one_cps, List.length_append, List.length_singleton, List.length_cons]; omega, h2⟩
      have hz' : ¬ z = Str.ofString "" := fun e => hz ((empty_iff z).mp e)
      simp [forR, L_law_word_0, hz', -ixD, hc, -addD, ha, e]
theorem word_eq (c : Int) (n : Nat) (hn : n ≤ 100) (h1 : 1 ≤ n) : ∃ z, F_law_word [.val (.int c), .val (.int (n : Int))] = some (.val (.str z)) ∧ z.cps.toList.length = n ∧ GW z.cps.toList := by
  obtain ⟨ws, hs, hl, _⟩ := stream_eq c n (by omega)
  have h0 : (Str.ofString "").cps.toList = [] := by decide +kernel
  obtain ⟨z', s4', e, h2, h3⟩ := word_run (.val (.int c)) (.val (.int (n : Int))) ws (Str.ofString "") .no (.inl h0) (by rw [h0]; simp; omega)
  rw [h0, List.length_nil, Nat.zero_add, hl] at h2
  refine ⟨z', ?_, h2, ?_⟩
  · simp [F_law_word, fnP, g_law_word, S_law_word_0, P_law_word_0, S_law_word_1, P_law_word_1, S_law_word_2, P_law_word_2, S_law_word_3, P_law_word_3, hs, e]
  · rcases h3 with h3 | h3
    · rw [h3] at h2; simp at h2; omega
    · exact h3
def GZ (z : Str) : Prop := GW z.cps.toList ∧ z.cps.toList.length ≤ 12
theorem sl_last (z : Str) (h : 1 ≤ z.cps.toList.length) : (Txt.slice z none (some (-1))).cps.toList = z.cps.toList.take (z.cps.toList.length - 1) := by
  rw [slice_to_neg (by decide)]
  have e : max 0 ((z.length : Int) + -1) = ((z.cps.toList.length - 1 : Nat) : Int) := by rw [len_cps]; omega
  rw [e, sl_to z _ (by omega)]
theorem sl_mid (z : Str) (i j : Nat) (h : i ≤ j) (hj : j ≤ z.cps.toList.length) : (Txt.slice z (some (i : Int)) (some (j : Int))).cps.toList = (z.cps.toList.drop i).take (j - i) := by
  rw [sl_eq, StrLaws.sliceText_nat z h (by rw [len_cps]; exact hj)]
theorem GW.take {W : List Nat} (h : GW W) {k : Nat} (hk : 1 ≤ k) : GW (W.take k) := by
  obtain ⟨⟨c, r, rfl, hc⟩, ha⟩ := h
  refine ⟨⟨c, r.take (k - 1), ?_, hc⟩, ?_⟩
  · rw [show k = (k - 1) + 1 by omega]; simp
  · rw [List.all_eq_true] at ha ⊢
    exact fun x hx => ha x (List.mem_of_mem_take hx)
theorem GW.put {W V : List Nat} (h : GW W) (a c : Nat) (hc : if a = 0 then c ∈ letters.cps.toList else okc c = true) (hV : ∀ x ∈ V, x ∈ W) : GW (W.take a ++ [c] ++ V) := by
  have hVo : V.all okc = true := by
    rw [List.all_eq_true]
    exact fun x hx => List.all_eq_true.mp h.2 x (hV x hx)
  by_cases ha : a = 0
  · subst ha
    simp only [if_true] at hc
    refine ⟨⟨c, V, by simp, hc⟩, ?_⟩
    simp [okc_let hc, hVo]
  · rw [if_neg ha] at hc
    have h1 := (h.take (k := a) (by omega)).app (V := [c]) (by simp [hc])
    exact h1.app hVo
theorem short1 (z : Str) (h : z.cps.toList.length ≤ 1000) : z.length ≤ sizeLine := by rw [len_cps]; exact Nat.le_trans h (by decide)
abbrev W4 (w0 w1 w2 w3 : Int) : D := .lst [.int w0, .int w1, .int w2, .int w3]
def WK (w0 w2 w3 : Int) (at_ k : Nat) (z : Str) : Prop :=
  (w2 % 4 = 0 → z.cps.toList.getLast? = some (sg ((w0 + (k : Int)) % 26).toNat)) ∧
  (w2 % 4 = 1 → z.cps.toList.length = (1 + (w0 + (k : Int)) % 12).toNat) ∧
  (¬ w2 % 4 = 0 → ¬ w2 % 4 = 1 → z.cps.toList[at_]? = some (sg (if at_ = 0 then ((w3 + (k : Int)) % 26).toNat else ((w3 + (k : Int)) % 36).toNat)))
theorem md26 {w : Int} {j k : Nat} (hj : j < 12) (hk : k < 12) (e : ((w + (j : Int)) % 26).toNat = ((w + (k : Int)) % 26).toNat) : j = k := by omega
theorem md36 {w : Int} {j k : Nat} (hj : j < 12) (hk : k < 12) (e : ((w + (j : Int)) % 36).toNat = ((w + (k : Int)) % 36).toNat) : j = k := by omega
theorem md12 {w : Int} {j k : Nat} (hj : j < 12) (hk : k < 12) (e : (1 + (w + (j : Int)) % 12).toNat = (1 + (w + (k : Int)) % 12).toNat) : j = k := by omega
theorem lt26 (w : Int) : (w % 26).toNat < 36 := by omega
theorem lt36 (w : Int) : (w % 36).toNat < 36 := by omega
theorem WK.inj {w0 w2 w3 : Int} {at_ j k : Nat} {z : Str} (h1 : WK w0 w2 w3 at_ j z) (h2 : WK w0 w2 w3 at_ k z) (hj : j < 12) (hk : k < 12) : j = k := by
  by_cases c0 : w2 % 4 = 0
  · have a := h1.1 c0
    rw [h2.1 c0] at a
    exact md26 hj hk (nd_inj sg_nd (lt26 _) (lt26 _) (Option.some.inj a).symm)
  · by_cases c1 : w2 % 4 = 1
    · have a := h1.2.1 c1
      rw [h2.2.1 c1] at a
      exact md12 hj hk a.symm
    · have a := h1.2.2 c0 c1
      rw [h2.2.2 c0 c1] at a
      have a := (Option.some.inj a).symm
      by_cases hz : at_ = 0
      · rw [if_pos hz, if_pos hz] at a
        exact md26 hj hk (nd_inj sg_nd (lt26 _) (lt26 _) a)
      · rw [if_neg hz, if_neg hz] at a
        exact md36 hj hk (nd_inj sg_nd (lt36 _) (lt36 _) a)
theorem words_turn (s0 s1 : Sl) (w0 w1 w2 w3 : Int) (base : Str) (hb : GW base.cps.toList) (hb12 : base.cps.toList.length = 12) (size at_ : Nat) (hsz : size ≤ 12) (hat : at_ < size) (k : Nat) (hk : k < 1000) (zs : List Str) (hz1 : zs.length < 1000) (s9 s10 : Sl) :
    ∃ z s9' s10', L_law_words_0 [s0, s1, SG, .val (W4 w0 w1 w2 w3), .val (.str base), .val (.int (size : Int)), .val (.int (at_ : Int)), .own (zs.map D.str), .val (.int (k : Int)), s9, s10] =
      .next [s0, s1, SG, .val (W4 w0 w1 w2 w3), .val (.str base), .val (.int (size : Int)), .val (.int (at_ : Int)), .own ((zs ++ [z]).map D.str), .val (.int (k : Int)), s9', s10'] ∧ GZ z ∧ WK w0 w2 w3 at_ k z := by
  have hz : zs.length < sizeLine := Nat.lt_of_lt_of_le (show zs.length < 100000 by omega) (by decide)
  have hbs := short1 base (by omega)
  have m1 : mulD (.int 7919) (.int (k : Int)) = some (.int (7919 * (k : Int))) := by show (if CMul 7919 (k : Int) then some (D.int (7919 * (k : Int))) else none) = _; rw [if_pos (.inl (by decide))]
  have m2 : mulD (.int 5) (.int (k : Int)) = some (.int (5 * (k : Int))) := by show (if CMul 5 (k : Int) then some (D.int (5 * (k : Int))) else none) = _; rw [if_pos (.inl (by decide))]
  have a1 : ∀ a b : Int, addD (.int a) (.int b) = some (.int (a + b)) := fun _ _ => rfl
  have i0 : ixD (W4 w0 w1 w2 w3) (.int 0) = some (.int w0) := rfl
  have i1 : ixD (W4 w0 w1 w2 w3) (.int 1) = some (.int w1) := rfl
  have i2 : ixD (W4 w0 w1 w2 w3) (.int 2) = some (.int w2) := rfl
  have i3 : ixD (W4 w0 w1 w2 w3) (.int 3) = some (.int w3) := rfl
  have n4 : modD (.int w2) (.int 4) = some (.int (w2 % 4)) := rfl
  have n12 : ∀ y : Int, modD (.int y) (.int 12) = some (.int (y % 12)) := fun _ => rfl
  have n26 : ∀ y : Int, modD (.int y) (.int 26) = some (.int (y % 26)) := fun _ => rfl
  have n36 : ∀ y : Int, modD (.int y) (.int 36) = some (.int (y % 36)) := fun _ => rfl
  have eo : ∀ a b : Int, eqO (.int a) (.int b) = some (.bl (decide (a = b))) := fun a b => by simp
  have sl : ∀ (z : Str) (lo hi : Option Int), z.length ≤ sizeLine → slD (.str z) lo hi = some (.str (Txt.slice z lo hi)) := fun z lo hi h => by simp only [slD]; rw [if_pos h]
  have ng : negD (some (.int 1)) = some (.int (-1)) := rfl
  by_cases h0 : w2 % 4 = 0
  · obtain ⟨n, hn, hn1, hn12⟩ : ∃ n : Nat, 1 + (w1 + 5 * (k : Int)) % 12 = (n : Int) ∧ 1 ≤ n ∧ n ≤ 12 := ⟨(1 + (w1 + 5 * (k : Int)) % 12).toNat, by omega, by omega, by omega⟩
    obtain ⟨z, hw, hzl, hzg⟩ := word_eq (w3 + 7919 * (k : Int)) n (by omega) hn1
    obtain ⟨c, hc, hcl, hcs⟩ := sgn26 (w0 + (k : Int))
    have hzs := short1 z (by omega)
    have hsl := sl_last z (by omega)
    have ha := addD_str (Txt.slice z none (some (-1))) ⟨#[c]⟩ (by rw [len_cps, hsl, len1, List.length_take]; omega)
    refine ⟨Txt.slice z none (some (-1)) ++ ⟨#[c]⟩, .val (.str z), s10, ?_, ?_, fun _ => by rw [app_cps, one_cps, List.getLast?_append, hcs]; rfl, fun h => by omega, fun h => absurd h0 h⟩
    · have e0 := eo (w2 % 4) 0
      rw [decide_eq_true h0] at e0
      have sz := sl z none (some (-1)) hzs
      simp only [L_law_words_0, seqR, iteR, asB, bin2, sl3, asI, rdP, rdV, rdA, rdO, callO, consO, valO, rvD, List.getElem?_cons_succ, List.getElem?_cons_zero, List.set_cons_succ, List.set_cons_zero, Option.bind, Option.map, setR, appR, i2, n4, e0, i3, m1, a1, i1, m2, n12, hn, hw, ng, sz, i0, n26, hc, ha, List.length_map, hz, if_true, List.map_append, List.map_cons, List.map_nil]
    · constructor
      · rw [app_cps, one_cps, hsl]
        have := hzg.put (V := []) (n - 1) c (by split; exact hcl; exact okc_let hcl) (fun x hx => nomatch hx)
        rw [hzl]
        simpa using this
      · rw [app_cps, one_cps, hsl, List.length_append, List.length_take, List.length_singleton]; omega
  · have e0 := eo (w2 % 4) 0
    rw [decide_eq_false h0] at e0
    by_cases h1 : w2 % 4 = 1
    · have e1 := eo (w2 % 4) 1
      rw [decide_eq_true h1] at e1
      obtain ⟨n, hn, hn1, hn12⟩ : ∃ n : Nat, 1 + (w0 + (k : Int)) % 12 = (n : Int) ∧ 1 ≤ n ∧ n ≤ 12 := ⟨(1 + (w0 + (k : Int)) % 12).toNat, by omega, by omega, by omega⟩
      have sz := sl base none (some (n : Int)) hbs
      have hst := sl_to base n (by omega)
      refine ⟨Txt.slice base none (some (n : Int)), s9, s10, ?_, ⟨by rw [hst]; exact hb.take hn1, by rw [hst, List.length_take]; omega⟩, fun h => absurd h h0, fun _ => by rw [hst, List.length_take, hn]; omega, fun _ h => absurd h1 h⟩
      simp only [L_law_words_0, seqR, iteR, asB, bin2, sl3, asI, rdP, rdV, rdA, rdO, callO, consO, valO, rvD, List.getElem?_cons_succ, List.getElem?_cons_zero, List.set_cons_succ, List.set_cons_zero, Option.bind, Option.map, setR, appR, i2, n4, e0, e1, a1, i0, n12, hn, sz, List.length_map, hz, if_true, List.map_append, List.map_cons, List.map_nil]
    · have e1 := eo (w2 % 4) 1
      rw [decide_eq_false h1] at e1
      obtain ⟨c1, hc1, hc1o, hc1s⟩ := sgn (w3 + (k : Int)) 36 (by decide) (by decide)
      obtain ⟨c2, hc2, hc2l, hc2s⟩ := sgn26 (w3 + (k : Int))
      have s1' := sl base none (some (at_ : Int)) hbs
      have s2' := sl base (some ((at_ : Int) + 1)) (some (size : Int)) hbs
      have h1' := sl_to base at_ (by omega)
      have h2' : (Txt.slice base (some ((at_ : Int) + 1)) (some (size : Int))).cps.toList = (base.cps.toList.drop (at_ + 1)).take (size - (at_ + 1)) := by
        rw [show (at_ : Int) + 1 = ((at_ + 1 : Nat) : Int) by omega]
        exact sl_mid base (at_ + 1) size (by omega) (by omega)
      have fin : ∀ c : Nat, (if at_ = 0 then c ∈ letters.cps.toList else okc c = true) → GZ (Txt.slice base none (some (at_ : Int)) ++ ⟨#[c]⟩ ++ Txt.slice base (some ((at_ : Int) + 1)) (some (size : Int))) ∧ addD (.str (Txt.slice base none (some (at_ : Int)))) (.str ⟨#[c]⟩) = some (.str (Txt.slice base none (some (at_ : Int)) ++ ⟨#[c]⟩)) ∧
          addD (.str (Txt.slice base none (some (at_ : Int)) ++ ⟨#[c]⟩)) (.str (Txt.slice base (some ((at_ : Int) + 1)) (some (size : Int)))) = some (.str (Txt.slice base none (some (at_ : Int)) ++ ⟨#[c]⟩ ++ Txt.slice base (some ((at_ : Int) + 1)) (some (size : Int)))) := fun c hc => by
        refine ⟨⟨?_, ?_⟩, addD_str _ _ ?_, addD_str _ _ ?_⟩
        · rw [app_cps, app_cps, one_cps, h1', h2']
          exact hb.put at_ c hc (fun x hx => List.mem_of_mem_drop (List.mem_of_mem_take hx))
        · rw [app_cps, app_cps, one_cps, h1', h2']
          simp only [List.length_append, List.length_take, List.length_drop, List.length_singleton]
          omega
        · rw [len_cps, len1, h1', List.length_take]; omega
        · rw [len_cps, len_cps, app_cps, one_cps, h1', h2']
          simp only [List.length_append, List.length_take, List.length_drop, List.length_singleton]
          omega
      have mk : ∀ c : Nat, (Txt.slice base none (some (at_ : Int)) ++ ⟨#[c]⟩ ++ Txt.slice base (some ((at_ : Int) + 1)) (some (size : Int))).cps.toList[at_]? = some c := fun c => by
        rw [app_cps, app_cps, one_cps, h1', List.append_assoc, List.getElem?_append_right (by rw [List.length_take]; omega)]
        have e : at_ - (base.cps.toList.take at_).length = 0 := by rw [List.length_take]; omega
        rw [e]; rfl
      by_cases hz0 : at_ = 0
      · have ea := eo (at_ : Int) 0
        rw [decide_eq_true (by omega)] at ea
        obtain ⟨g1, g2, g3⟩ := fin c2 (by rw [if_pos hz0]; exact hc2l)
        refine ⟨_, s9, .val (.str ⟨#[c2]⟩), ?_, g1, fun h => absurd h h0, fun h => absurd h h1, fun _ _ => by rw [mk, if_pos hz0, hc2s]⟩
        simp only [L_law_words_0, seqR, iteR, asB, bin2, sl3, asI, rdP, rdV, rdA, rdO, callO, consO, valO, rvD, List.getElem?_cons_succ, List.getElem?_cons_zero, List.set_cons_succ, List.set_cons_zero, Option.bind, Option.map, setR, appR, i2, n4, e0, e1, a1, i3, n36, hc1, ea, n26, hc2, s1', s2', g2, g3, List.length_map, hz, if_true, List.map_append, List.map_cons, List.map_nil]
      · have ea := eo (at_ : Int) 0
        rw [decide_eq_false (by omega)] at ea
        obtain ⟨g1, g2, g3⟩ := fin c1 (by rw [if_neg hz0]; exact hc1o)
        refine ⟨_, s9, .val (.str ⟨#[c1]⟩), ?_, g1, fun h => absurd h h0, fun h => absurd h h1, fun _ _ => by rw [mk, if_neg hz0, hc1s]⟩
        simp only [L_law_words_0, seqR, iteR, asB, bin2, sl3, asI, rdP, rdV, rdA, rdO, callO, consO, valO, rvD, List.getElem?_cons_succ, List.getElem?_cons_zero, List.set_cons_succ, List.set_cons_zero, Option.bind, Option.map, setR, appR, i2, n4, e0, e1, a1, i3, n36, hc1, ea, s1', s2', g2, g3, List.length_map, hz, if_true, List.map_append, List.map_cons, List.map_nil]
theorem words_run (s0 s1 : Sl) (w0 w1 w2 w3 : Int) (base : Str) (hb : GW base.cps.toList) (hb12 : base.cps.toList.length = 12) (size at_ : Nat) (hsz : size ≤ 12) (hat : at_ < size) : ∀ (ks : List Nat) (zs : List Str) (s8 s9 s10 : Sl), (∀ k ∈ ks, k < 1000) → zs.length + ks.length ≤ 1000 →
    ∃ (zs' : List Str) (s8' s9' s10' : Sl), forR (bName 8) L_law_words_0 (ks.map fun (k : Nat) => D.int (k : Int)) [s0, s1, SG, .val (W4 w0 w1 w2 w3), .val (.str base), .val (.int (size : Int)), .val (.int (at_ : Int)), .own (zs.map D.str), s8, s9, s10] =
      .next [s0, s1, SG, .val (W4 w0 w1 w2 w3), .val (.str base), .val (.int (size : Int)), .val (.int (at_ : Int)), .own ((zs ++ zs').map D.str), s8', s9', s10'] ∧ Paired (fun k z => GZ z ∧ WK w0 w2 w3 at_ k z) ks zs'
  | [], zs, s8, s9, s10, _, _ => ⟨[], s8, s9, s10, by simp [forR], .nil⟩
  | k :: ks, zs, s8, s9, s10, hk, hl => by
    simp only [List.length_cons] at hl
    obtain ⟨z, a, b, e, hz, hw⟩ := words_turn s0 s1 w0 w1 w2 w3 base hb hb12 size at_ hsz hat k (hk k List.mem_cons_self) zs (by omega) s9 s10
    obtain ⟨zs', a2, b2, c2, e2, h2⟩ := words_run s0 s1 w0 w1 w2 w3 base hb hb12 size at_ hsz hat ks (zs ++ [z]) (.val (.int (k : Int))) a b (fun j hj => hk j (List.mem_cons_of_mem _ hj)) (by simp; omega)
    refine ⟨z :: zs', a2, b2, c2, ?_, .cons ⟨hz, hw⟩ h2⟩
    simp only [List.map_cons, forR, bName, List.set_cons_succ, List.set_cons_zero]
    rw [e]
    rw [show zs ++ z :: zs' = zs ++ [z] ++ zs' by simp]
    exact e2
theorem paired_mem {α β : Type} {R : α → β → Prop} : ∀ {xs : List α} {ys : List β}, Paired R xs ys → ∀ y ∈ ys, ∃ x ∈ xs, R x y
  | _, _, .nil, _, h => nomatch h
  | _, _, .cons r t, y, h => by
    rcases List.mem_cons.mp h with rfl | h
    · exact ⟨_, List.mem_cons_self, r⟩
    · obtain ⟨x, hx, q⟩ := paired_mem t y h
      exact ⟨x, List.mem_cons_of_mem _ hx, q⟩
theorem paired_nodup {α β : Type} {R : α → β → Prop} : ∀ {xs : List α} {ys : List β}, Paired R xs ys → xs.Nodup → (∀ a ∈ xs, ∀ b ∈ xs, ∀ y, R a y → R b y → a = b) → ys.Nodup
  | _, _, .nil, _, _ => List.nodup_nil
  | _, _, .cons r t, h, hi => by
    obtain ⟨h1, h2⟩ := List.nodup_cons.mp h
    refine List.nodup_cons.mpr ⟨fun hm => ?_, paired_nodup t h2 fun a ha b hb => hi a (List.mem_cons_of_mem _ ha) b (List.mem_cons_of_mem _ hb)⟩
    obtain ⟨x', hx', r'⟩ := paired_mem t _ hm
    have := hi _ List.mem_cons_self x' (List.mem_cons_of_mem _ hx') _ r r'
    subst this
    exact h1 hx'
theorem words_eq (c : Int) (n : Nat) (hn : n ≤ 100) : ∃ zs : List Str, F_law_words [.val (.int c), .val (.int (n : Int))] = some (.own (zs.map D.str)) ∧ zs.length = n ∧ (∀ z ∈ zs, GZ z) ∧ (n ≤ 12 → zs.Nodup) := by
  obtain ⟨ws, hs, hl, hp⟩ := stream_eq c 4 (by omega)
  obtain ⟨a, b, c', d, rfl⟩ := four hl
  obtain ⟨z, hw, hzl, hzg⟩ := word_eq c 12 (by omega) (by omega)
  have hs : F_law_stream [.val (.int c), .val (.int 4)] = some (.val (.lst [.int a, .int b, .int c', .int d])) := hs
  have hw : F_law_word [.val (.int c), .val (.int 12)] = some (.val (.str z)) := hw
  have hr := rng1_nat n (by omega)
  obtain ⟨sz, hsz, hs1, hs12⟩ : ∃ sz : Nat, 1 + a % 12 = (sz : Int) ∧ 1 ≤ sz ∧ sz ≤ 12 := ⟨(1 + a % 12).toNat, by omega, by omega, by omega⟩
  obtain ⟨at_, hat, hatl⟩ : ∃ at_ : Nat, b % (sz : Int) = (at_ : Int) ∧ at_ < sz := by
    have h1 := Int.emod_nonneg b (show (sz : Int) ≠ 0 by omega)
    have h2 := Int.emod_lt_of_pos b (show (0 : Int) < (sz : Int) by omega)
    exact ⟨(b % (sz : Int)).toNat, by omega, by omega⟩
  obtain ⟨zs, s8, s9, s10, e, hpd⟩ := words_run (.val (.int c)) (.val (.int (n : Int))) a b c' d z hzg hzl sz at_ hs12 hatl (List.range n) [] .no .no .no (fun k hk => by have := List.mem_range.mp hk; omega) (by simp; omega)
  have hlen := Paired.length hpd
  refine ⟨zs, ?_, by simpa using hlen.symm, fun y hy => (paired_mem hpd y hy).choose_spec.2.1, fun h12 => paired_nodup hpd List.nodup_range fun j hj k hk y r1 r2 => r1.2.inj r2.2 (by have := List.mem_range.mp hj; omega) (by have := List.mem_range.mp hk; omega)⟩
  have hp : 0 < sz := by omega
  simp at e
  simp [F_law_words, fnP, g_law_words, S_law_words_0, P_law_words_0, S_law_words_1, P_law_words_1, S_law_words_2, P_law_words_2, S_law_words_3, P_law_words_3, S_law_words_4, P_law_words_4, S_law_words_5, P_law_words_5, S_law_words_6, P_law_words_6, S_law_words_7, P_law_words_7, hs, hw, hr, atI, ixN, hsz, hp, hat, e]
def IsV (d : D) : Prop := (∃ i, d = .int i) ∨ ∃ x, d = .str x ∧ GZ x
theorem nd_get {α : Type} {l : List α} (h : l.Nodup) {j k : Nat} (hj : j < l.length) (hk : k < l.length) (e : l[j] = l[k]) : j = k := by
  have h := List.pairwise_iff_getElem.mp (List.nodup_iff_pairwise_ne.mp h)
  rcases Nat.lt_trichotomy j k with hl | hl | hl
  · exact absurd e (h j k hj hk hl)
  · exact hl
  · exact absurd e.symm (h k j hk hj hl)
theorem map_nodup {α β : Type} {f : α → β} {l : List α} (h : l.Nodup) (hi : ∀ a ∈ l, ∀ b ∈ l, f a = f b → a = b) : (l.map f).Nodup := by
  rw [List.nodup_iff_pairwise_ne, List.pairwise_map]
  refine List.Pairwise.imp_of_mem ?_ (List.nodup_iff_pairwise_ne.mp h)
  intro a b ha hb hne e
  exact hne (hi a ha b hb e)
theorem values_tail (c B a b w : Int) (n : Nat) (hn : n ≤ 100) : ∃ r vs, S_law_values_2 [.val (.int c), .val (.int (n : Int)), .val (.lst [.int a, .int b, .int w]), .val (.int B), .no] = .ret r ∧ rvD r = .lst vs ∧ vs.length = n ∧ (∀ d ∈ vs, IsV d) ∧ vs.Nodup := by
  have hr := rng1_nat n (by omega)
  have hnl : n ≤ sizeLine := Nat.le_trans hn (by decide)
  have two : 2 ≤ sizeLine := by decide
  have e1 := compL_map (e := C_law_values_0) (b := bName 0) (ρ := [.no, .val (.int B)]) (fun (k : Nat) => D.int (k : Int)) (fun (k : Nat) => D.int (B + (k : Int))) (List.range n) (fun k _ => ⟨_, rfl, by simp [C_law_values_0]⟩)
  obtain ⟨zs, hw, hzl, hzg, hznd⟩ := words_eq w n hn
  have e2 := compL_map (e := C_law_values_1) (b := bName 0) (ρ := [.no, .val (.int B), .val (.lst (zs.map D.str)), .val (.lst [.int a, .int b, .int w])]) (fun (k : Nat) => D.int (k : Int)) (fun (k : Nat) => if (a / 2 + (k : Int)) % 2 = 0 then D.int (B + (k : Int)) else .str (zs.getD k "")) (List.range n) (fun k hk => by
    have hk := List.mem_range.mp hk
    have hz : atI (zs.map D.str) (k : Int) = some (.str (zs.getD k "")) := atI_nat (by rw [List.getElem?_map, List.getElem?_eq_getElem (by omega)]; simp [List.getD, List.getElem?_eq_getElem (show k < zs.length by omega)])
    generalize zs.getD k "" = z at hz
    have ex : atI [D.int (B + (k : Int)), .str z] ((a / 2 + (k : Int)) % 2) = some (if (a / 2 + (k : Int)) % 2 = 0 then D.int (B + (k : Int)) else .str z) := by
      by_cases h : (a / 2 + (k : Int)) % 2 = 0
      · rw [if_pos h, h]; rfl
      · rw [if_neg h, show (a / 2 + (k : Int)) % 2 = 1 by omega]; rfl
    have i0 : atI [D.int a, .int b, .int w] 0 = some (.int a) := rfl
    exact ⟨_, rfl, by simp [C_law_values_1, two, hz, i0, CDiv, ex]⟩)
  have p1 : ∀ d ∈ (List.range n).map (fun (k : Nat) => D.int (B + (k : Int))), IsV d := fun d hd => by
    obtain ⟨k, _, rfl⟩ := List.mem_map.mp hd
    exact .inl ⟨_, rfl⟩
  have n1 : ((List.range n).map (fun (k : Nat) => D.int (B + (k : Int)))).Nodup := map_nodup List.nodup_range fun j _ k _ e => by
    have := D.int.inj e
    omega
  have i1 : atI [D.int a, .int b, .int w] 1 = some (.int b) := rfl
  have i2 : atI [D.int a, .int b, .int w] 2 = some (.int w) := rfl
  by_cases h1 : b % 3 = 0 ∨ (12 : Int) < n
  · refine ⟨.own ((List.range n).map (fun (k : Nat) => D.int (B + (k : Int)))), _, ?_, rfl, by simp, p1, n1⟩
    rcases h1 with h1 | h1
    · simp [S_law_values_2, P_law_values_2, i1, h1, hr, hnl, compIn, e1]
    · have h12 : (12 : Int) < (n : Int) := h1
      by_cases h0 : b % 3 = 0
      · simp [S_law_values_2, P_law_values_2, i1, h0, hr, hnl, compIn, e1]
      · simp [S_law_values_2, P_law_values_2, i1, h0, h12, hr, hnl, compIn, e1]
  · have h0 : ¬ b % 3 = 0 := fun z => h1 (.inl z)
    have h12 : ¬ (12 : Int) < (n : Int) := fun z => h1 (.inr z)
    have hznd := hznd (by omega)
    by_cases h2 : b % 3 = 1
    · refine ⟨.val (.lst (zs.map D.str)), zs.map D.str, ?_, rfl, by simpa using hzl, fun d hd => ?_, map_nodup hznd fun x _ y _ e => D.str.inj e⟩
      · simp [S_law_values_2, P_law_values_2, S_law_values_3, P_law_values_3, S_law_values_4, P_law_values_4, i1, i2, h0, h12, h2, hw]
      · obtain ⟨z, hzm, rfl⟩ := List.mem_map.mp hd
        exact .inr ⟨_, rfl, hzg z hzm⟩
    · have gm : ∀ k, k < n → zs.getD k "" ∈ zs := fun k hk => by
        have : zs.getD k "" = zs[k]'(by omega) := by simp [List.getD, List.getElem?_eq_getElem (show k < zs.length by omega)]
        rw [this]; exact List.getElem_mem _
      have gi : ∀ j k, j < n → k < n → zs.getD j "" = zs.getD k "" → j = k := fun j k hj hk e => by
        have q1 : zs.getD j "" = zs[j]'(by omega) := by simp [List.getD, List.getElem?_eq_getElem (show j < zs.length by omega)]
        have q2 : zs.getD k "" = zs[k]'(by omega) := by simp [List.getD, List.getElem?_eq_getElem (show k < zs.length by omega)]
        rw [q1, q2] at e
        exact nd_get hznd _ _ e
      refine ⟨.own ((List.range n).map (fun (k : Nat) => if (a / 2 + (k : Int)) % 2 = 0 then D.int (B + (k : Int)) else .str (zs.getD k ""))), _, ?_, rfl, by simp, fun d hd => ?_, map_nodup List.nodup_range fun j hj k hk e => ?_⟩
      · simp [S_law_values_2, P_law_values_2, S_law_values_3, P_law_values_3, S_law_values_4, P_law_values_4, S_law_values_5, P_law_values_5, i1, i2, h0, h12, h2, hw, hr, hnl, compIn, e2]
      · obtain ⟨k, hk, rfl⟩ := List.mem_map.mp hd
        split
        · exact .inl ⟨_, rfl⟩
        · exact .inr ⟨_, rfl, hzg _ (gm k (List.mem_range.mp hk))⟩
      · have hj := List.mem_range.mp hj
        have hk := List.mem_range.mp hk
        split at e <;> split at e
        · have := D.int.inj e; omega
        · cases e
        · cases e
        · exact gi j k hj hk (D.str.inj e)
theorem values_eq (c : Int) (n : Nat) (hn : n ≤ 100) : ∃ r vs, F_law_values [.val (.int c), .val (.int (n : Int))] = some r ∧ rvD r = .lst vs ∧ vs.length = n ∧ (∀ d ∈ vs, IsV d) ∧ vs.Nodup := by
  obtain ⟨ws, hs, hl, hp⟩ := stream_eq c 3 (by omega)
  obtain ⟨a, b, w, rfl⟩ := three hl
  have hs : F_law_stream [.val (.int c), .val (.int 3)] = some (.val (.lst [.int a, .int b, .int w])) := hs
  have two : 2 ≤ sizeLine := by decide
  have hc' := hp w (by simp)
  have m1 : CMul c w := .inr ⟨by omega, by omega⟩
  obtain ⟨g, hg, hg2⟩ : ∃ g : Int, atI [D.int 1, .int (-1)] (a % 2) = some (.int g) ∧ (g = 1 ∨ g = -1) := by
    obtain ⟨d, e, hd⟩ := atI_ok (xs := [D.int 1, .int (-1)]) (i := a % 2) (by omega) (by simp; omega)
    simp at hd
    rcases hd with rfl | rfl
    · exact ⟨1, e, .inl rfl⟩
    · exact ⟨-1, e, .inr rfl⟩
  have i0 : atI [D.int a, .int b, .int w] 0 = some (.int a) := rfl
  have i2 : atI [D.int a, .int b, .int w] 2 = some (.int w) := rfl
  have m2 : CMul (c * w % 10 ^ 30) g := .inr (by rcases hg2 with rfl | rfl <;> decide)
  obtain ⟨r, vs, e, h1, h2, h3, h4⟩ := values_tail c (c * w % 10 ^ 30 * g) a b w n hn
  refine ⟨r, vs, ?_, h1, h2, h3, h4⟩
  simp at m2 e
  simp [F_law_values, fnP, g_law_values, S_law_values_0, P_law_values_0, S_law_values_1, P_law_values_1, hs, i0, i2, hg, m1, m2, two, CPow, e]
theorem IsV.key {d : D} (h : IsV d) : ∃ a, okK d = some (.at a) := by
  rcases h with ⟨i, rfl⟩ | ⟨x, rfl, _⟩
  · exact ⟨_, rfl⟩
  · exact ⟨_, rfl⟩
theorem last_at (l : List D) (d : D) : atI (l ++ [d]) (-1) = some d := by
  have h : ixN (l ++ [d]).length (-1) = some l.length := by
    unfold ixN
    rw [if_neg (by decide), if_pos (by simp; omega)]
    simp
    omega
  unfold atI
  rw [h]
  simp
def ParOk (kvs : KDs) : Prop := (∀ p ∈ kvs, isAt p.1 = true) ∧ ∀ p ∈ kvs, IsV p.2
theorem ladder_turn (s0 s1 s2 s4 s11 : Sl) (ws : List Int) (hw : ws.length = 60) (sz p : Int) (hsz : 0 < sz) (hp0 : 0 ≤ p) (hp1 : p ≤ 4) (names : List D) (hnl : (names.length : Int) = sz) (hnv : ∀ d ∈ names, IsV d)
    (kvs : KDs) (hk : ParOk kvs) (hkl : kvs.length < 1000) (acc : List (List D)) (hal : acc.length < 1000) (l : List D) (x : D) (hx : IsV x) (hl : l.length < 100) :
    ∃ kvs' d, L_law_ladder_0 [s0, s1, s2, .val (.lst (ws.map D.int)), s4, .val (.int sz), .val (.int p), .val (.lst names), .own (flatD kvs) true, .own (acc.map D.tup), .val (.tup (l ++ [x])), s11] =
      .next [s0, s1, s2, .val (.lst (ws.map D.int)), s4, .val (.int sz), .val (.int p), .val (.lst names), .own (flatD kvs') true, .own ((acc ++ [l ++ [x] ++ [d]]).map D.tup), .val (.tup (l ++ [x])), s11] ∧ ParOk kvs' ∧ kvs'.length ≤ kvs.length + 1 ∧ IsV d := by
  obtain ⟨a, ha⟩ := hx.key
  have hix := last_at l x
  have hh := homL_at a hk.1
  have hal' : acc.length < sizeLine := Nat.lt_of_lt_of_le (show acc.length < 100000 by omega) (by decide)
  have one : 1 ≤ sizeLine := by decide
  have a1 : ∀ a b : Int, addD (.int a) (.int b) = some (.int (a + b)) := fun _ _ => rfl
  cases hv : valL kvs (.at a) with
  | some v =>
    have hm := valL_mem hv
    have ad := addD_tup (l ++ [x]) [v] (by simp; omega)
    refine ⟨kvs, v, ?_, hk, by omega, hk.2 _ hm⟩
    simp [L_law_ladder_0, -addD, hix, ha, hh, hv, one, ad, hal']
  | none =>
    have m1 : CMul 13 p := .inl (by decide)
    have e8 : ∃ y, atI (ws.map D.int) (8 + ((kvs.length : Int) + 13 * p) % 52) = some (.int y) ∧ y ∈ ws := at_of (by omega) (by omega)
    obtain ⟨y, hy, _⟩ := e8
    obtain ⟨d, hd, hdm⟩ := atI_ok (xs := names) (i := y % sz) (Int.emod_nonneg _ (by omega)) (by rw [hnl]; exact Int.emod_lt_of_pos _ hsz)
    have hkl' : kvs.length < sizeLine := Nat.lt_of_lt_of_le (show kvs.length < 100000 by omega) (by decide)
    have hput := valL_put kvs (.at a) d (.at a)
    rw [if_pos rfl] at hput
    have hk' : ParOk (putL kvs (.at a) d) := ⟨fun q hq => by
        rcases putL_mem hq with h | rfl
        · exact hk.1 q h
        · rfl, fun q hq => by
        rcases putL_mem hq with h | rfl
        · exact hk.2 q h
        · exact hnv d hdm⟩
    have hh' := homL_at a hk'.1
    have ad := addD_tup (l ++ [x]) [d] (by simp; omega)
    refine ⟨putL kvs (.at a) d, d, ?_, hk', putL_len _ _ _, hnv d hdm⟩
    simp [L_law_ladder_0, -addD, a1, hix, ha, hh, hv, allAt hk.1, m1, hy, hsz, hd, dputR, hkl', hh', hput, one, ad, hal']
def hdD (l : List D) : D := l.headD .non
theorem hdD_app {l : List D} (h : l ≠ []) (m : List D) : hdD (l ++ m) = hdD l := by
  cases l with
  | nil => exact absurd rfl h
  | cons a r => rfl
theorem ladder_in (s0 s1 s2 s4 s11 : Sl) (ws : List Int) (hw : ws.length = 60) (sz p : Int) (hsz : 0 < sz) (hp0 : 0 ≤ p) (hp1 : p ≤ 4) (names : List D) (hnl : (names.length : Int) = sz) (hnv : ∀ d ∈ names, IsV d) :
    ∀ (lines : List (List D)) (kvs : KDs) (acc : List (List D)) (s10 : Sl), ParOk kvs → kvs.length + lines.length < 1000 → acc.length + lines.length < 1000 → (∀ l ∈ lines, ∃ i x, l = i ++ [x] ∧ IsV x ∧ i.length < 100) →
    ∃ (kvs' : KDs) (more : List (List D)) (s10' : Sl), forR (bName 10) L_law_ladder_0 (lines.map D.tup) [s0, s1, s2, .val (.lst (ws.map D.int)), s4, .val (.int sz), .val (.int p), .val (.lst names), .own (flatD kvs) true, .own (acc.map D.tup), s10, s11] =
      .next [s0, s1, s2, .val (.lst (ws.map D.int)), s4, .val (.int sz), .val (.int p), .val (.lst names), .own (flatD kvs') true, .own ((acc ++ more).map D.tup), s10', s11] ∧ (more.length = lines.length ∧ more.map hdD = lines.map hdD) ∧
      ∀ l ∈ more, ∃ i d, l = i ++ [d] ∧ i ∈ lines ∧ IsV d
  | [], kvs, acc, s10, _, _, _, _ => ⟨kvs, [], s10, by simp [forR], ⟨rfl, rfl⟩, fun _ h => nomatch h⟩
  | l :: lines, kvs, acc, s10, hk, h1, h2, hl => by
    simp only [List.length_cons] at h1 h2
    obtain ⟨i, x, rfl, hx, hi⟩ := hl l List.mem_cons_self
    obtain ⟨kvs1, d, e1, k1, k2, k3⟩ := ladder_turn s0 s1 s2 s4 s11 ws hw sz p hsz hp0 hp1 names hnl hnv kvs hk (by omega) acc (by omega) i x hx hi
    obtain ⟨kvs2, more, s10', e2, k4, k5⟩ := ladder_in s0 s1 s2 s4 s11 ws hw sz p hsz hp0 hp1 names hnl hnv lines kvs1 (acc ++ [i ++ [x] ++ [d]]) (.val (.tup (i ++ [x]))) k1 (by omega) (by simp; omega) fun m hm => hl m (List.mem_cons_of_mem _ hm)
    refine ⟨kvs2, (i ++ [x] ++ [d]) :: more, s10', ?_, ⟨by simp [k4.1], by rw [List.map_cons, List.map_cons, k4.2, hdD_app (by simp)]⟩, fun m hm => ?_⟩
    · rw [show acc ++ (i ++ [x] ++ [d]) :: more = acc ++ [i ++ [x] ++ [d]] ++ more by simp]
      simp only [List.map_cons, forR, bName, List.set_cons_succ, List.set_cons_zero, e1]
      exact e2
    · rcases List.mem_cons.mp hm with rfl | hm
      · exact ⟨i ++ [x], d, rfl, List.mem_cons_self, k3⟩
      · obtain ⟨i', d', q1, q2, q3⟩ := k5 m hm
        exact ⟨i', d', q1, List.mem_cons_of_mem _ q2, q3⟩
def Lines (w : Nat) (ls : List (List D)) : Prop := ∀ l ∈ ls, l.length = w ∧ ∀ d ∈ l, IsV d
theorem ladder_out (s0 s1 s2 s11 : Sl) (ws : List Int) (hw : ws.length = 60) (hwp : ∀ y ∈ ws, 0 ≤ y ∧ y < 2147483647) : ∀ (n p : Nat) (ls : List (List D)) (sz : Int) (s7 s8 s9 s10 s6 : Sl), 0 < sz → sz ≤ 40 → 0 < p → p + n ≤ 4 → ls.length < 100 → Lines p ls →
    ∃ (ls' : List (List D)) (sz' : Int) (s6' s7' s8' s9' s10' : Sl), forR (bName 6) L_law_ladder_1 ((List.range' p n).map fun (k : Nat) => D.int (k : Int)) [s0, s1, s2, .val (.lst (ws.map D.int)), .val (.lst (ls.map D.tup)), .val (.int sz), s6, s7, s8, s9, s10, s11] =
      .next [s0, s1, s2, .val (.lst (ws.map D.int)), .val (.lst (ls'.map D.tup)), .val (.int sz'), s6', s7', s8', s9', s10', s11] ∧ (ls'.length = ls.length ∧ ls'.map hdD = ls.map hdD) ∧ Lines (p + n) ls'
  | 0, p, ls, sz, s7, s8, s9, s10, s6, _, _, _, _, _, hL => ⟨ls, sz, s6, s7, s8, s9, s10, rfl, ⟨rfl, rfl⟩, hL⟩
  | n + 1, p, ls, sz, s7, s8, s9, s10, s6, h0, h40, hp0, hp, hl, hL => by
    obtain ⟨y, hy, _⟩ := at_of (xs := ws) (i := (p : Int)) (by omega) (by omega)
    obtain ⟨y2, hy2, _⟩ := at_of (xs := ws) (i := 4 + (p : Int)) (by omega) (by omega)
    have hs1 : 0 ≤ y % sz := Int.emod_nonneg _ (by omega)
    have hs2 : y % sz < sz := Int.emod_lt_of_pos _ h0
    obtain ⟨m, hm⟩ : ∃ m : Nat, 1 + y % sz = (m : Int) := ⟨(1 + y % sz).toNat, by omega⟩
    obtain ⟨r, names, hv, hr, hnl, hnv, _⟩ := values_eq y2 m (by omega)
    obtain ⟨kvs, more, s10a, e1, ⟨k1, k1h⟩, k2⟩ := ladder_in s0 s1 s2 (.val (.lst (ls.map D.tup))) s11 ws hw (m : Int) (p : Int) (by omega) (by omega) (by omega) names (by omega) hnv ls [] [] s10 ⟨fun _ h => (nomatch h), fun _ h => (nomatch h)⟩ (by simp; omega) (by simp; omega) (fun l h => by
      obtain ⟨h1, h2⟩ := hL l h
      have hne : l ≠ [] := by intro z; subst z; simp at h1; omega
      refine ⟨l.dropLast, l.getLast hne, (List.dropLast_concat_getLast hne).symm, h2 _ (List.getLast_mem hne), by simp; omega⟩)
    obtain ⟨ls', sz', a, b, c, d, f, e2, ⟨k3, k3h⟩, k4⟩ := ladder_out s0 s1 s2 s11 ws hw hwp n (p + 1) more (m : Int) (.val (.lst names)) (.own (flatD kvs) true) (.val (.lst (more.map D.tup))) s10a (.val (.int (p : Int))) (by omega) (by omega) (by omega) (by omega) (by omega) (fun l h => by
      obtain ⟨i, d, rfl, hi, hd⟩ := k2 l h
      obtain ⟨h1, h2⟩ := hL i hi
      refine ⟨by simp [h1], fun x hx => ?_⟩
      rcases List.mem_append.mp hx with hx | hx
      · exact h2 x hx
      · simp at hx; subst hx; exact hd)
    refine ⟨ls', sz', a, b, c, d, f, ?_, ⟨by omega, k3h.trans k1h⟩, by rw [show p + (n + 1) = p + 1 + n by omega]; exact k4⟩
    have a1 : ∀ a b : Int, addD (.int a) (.int b) = some (.int (a + b)) := fun _ _ => rfl
    simp only [flatD, List.map_nil, List.nil_append] at e1
    simp only [List.range'_succ, List.map_cons, forR, bName, List.set_cons_succ, List.set_cons_zero]
    rw [show L_law_ladder_1 [s0, s1, s2, .val (.lst (ws.map D.int)), .val (.lst (ls.map D.tup)), .val (.int sz), .val (.int (p : Int)), s7, s8, s9, s10, s11] =
      .next [s0, s1, s2, .val (.lst (ws.map D.int)), .val (.lst (more.map D.tup)), .val (.int (m : Int)), .val (.int (p : Int)), .val (.lst names), .own (flatD kvs) true, .val (.lst (more.map D.tup)), s10a, s11] by
        simp [L_law_ladder_1, -addD, -rvD, a1, hy, hy2, h0, hm, hv, hr, e1]]
    exact e2
theorem ladder_eq (c : Int) (many width : Nat) (h1 : 0 < many) (h2 : many ≤ 40) (h3 : 0 < width) (h4 : width ≤ 4) : ∃ ls : List (List D), F_law_ladder [.val (.int c), .val (.int (many : Int)), .val (.int (width : Int))] = some (.val (.lst (ls.map D.tup))) ∧ ls.length = many ∧ Lines width ls ∧ (ls.map hdD).Nodup := by
  obtain ⟨ws, hs, hl, hp⟩ := stream_eq c 60 (by omega)
  have hs : F_law_stream [.val (.int c), .val (.int 60)] = some (.val (.lst (ws.map D.int))) := hs
  obtain ⟨y0, hy0, _⟩ := at_of (xs := ws) (i := 0) (by omega) (by omega)
  obtain ⟨y1, hy1, _⟩ := at_of (xs := ws) (i := 1) (by omega) (by omega)
  obtain ⟨r, vs, hv, hr, hvl, hvv, hvn⟩ := values_eq y0 many (by omega)
  have one : 1 ≤ sizeLine := by decide
  have hml : many ≤ sizeLine := Nat.le_trans h2 (by decide)
  have hc : compL (bName 0) (fun _ => some true) C_law_ladder_0 [.no] vs = some ((vs.map fun d => [d]).map D.tup) := by
    have := compL_map (b := bName 0) (e := C_law_ladder_0) (ρ := [.no]) (fun d : D => d) (fun d => D.tup [d]) vs fun d _ => ⟨[.val d], rfl, by simp [C_law_ladder_0, one]⟩
    rw [List.map_id'] at this
    rw [this, List.map_map]; rfl
  have hr2 : rng2 [.int 1, .int (width : Int)] = some ((List.range' 1 (width - 1)).map fun (k : Nat) => D.int (k : Int)) := by
    rw [rng2_int 1 (width : Int) (by omega) (by omega) (by omega) (by omega)]
    have e : ((width : Int) - 1).toNat = width - 1 := by omega
    rw [e, List.range'_eq_map_range, List.map_map]
    congr 1
  obtain ⟨ls, sz, a, b, c', d, e, e1, ⟨k1, k1h⟩, k2⟩ := ladder_out (.val (.int c)) (.val (.int (many : Int))) (.val (.int (width : Int))) .no ws hl hp (width - 1) 1 (vs.map fun d => [d]) (many : Int) .no .no .no .no .no (by omega) (by omega) (by omega) (by omega) (by simp; omega) (fun l h => by
    obtain ⟨x, hx, rfl⟩ := List.mem_map.mp h
    exact ⟨rfl, fun y hy => by simp at hy; subst hy; exact hvv y hx⟩)
  rw [show 1 + (width - 1) = width by omega] at k2
  have hm0 : 0 < (many : Int) := by omega
  obtain ⟨j, hj⟩ : ∃ j : Nat, y1 % (many : Int) = (j : Int) := ⟨(y1 % (many : Int)).toNat, by have := Int.emod_nonneg y1 (show (many : Int) ≠ 0 by omega); omega⟩
  have c1 : cutD (ls.map D.tup) (some (j : Int)) none = (ls.drop j).map D.tup := by rw [cut_from _ _ (by omega)]; simp
  have c2 : cutD (ls.map D.tup) none (some (j : Int)) = (ls.take j).map D.tup := by rw [cut_to _ _ (by omega)]; simp
  have ad := addD_lst ((ls.drop j).map D.tup) ((ls.take j).map D.tup) (by simp at k1 ⊢; omega)
  have hnd : ((ls.drop j ++ ls.take j).map hdD).Nodup := by
    have hp : (ls.drop j ++ ls.take j).Perm ls := by
      refine List.perm_append_comm.trans ?_
      rw [List.take_append_drop]
    refine ((hp.map hdD).nodup_iff).mpr ?_
    rw [k1h, List.map_map]
    have : (hdD ∘ fun d => [d]) = fun d : D => d := rfl
    rw [this, List.map_id']
    exact hvn
  refine ⟨ls.drop j ++ ls.take j, ?_, by simp at k1 ⊢; omega, fun l h => ?_, hnd⟩
  · rw [List.map_append]
    simp [F_law_ladder, fnP, g_law_ladder, S_law_ladder_0, P_law_ladder_0, S_law_ladder_1, P_law_ladder_1, S_law_ladder_2, P_law_ladder_2, S_law_ladder_3, P_law_ladder_3, S_law_ladder_4, P_law_ladder_4, S_law_ladder_5, P_law_ladder_5, hs, -rvD, hy0, hy1, hv, hr, hvl, hml, compIn, hc, hr2, e1, -List.map_map, -List.map_append, -List.map_drop, -List.map_take, h1, hj, c1, c2, -addD, ad]
  · rcases List.mem_append.mp h with h | h
    · exact k2 l (List.mem_of_mem_drop h)
    · exact k2 l (List.mem_of_mem_take h)
def ldD (ls : List (List D)) : D := .lst (ls.map D.tup)
structure LdOk (w : Nat) (ls : List (List D)) : Prop where
  w0 : 0 < w
  w4 : w ≤ 4
  l0 : 0 < ls.length
  l9 : ls.length ≤ 40
  ln : Lines w ls
  nd : (ls.map hdD).Nodup
theorem ladders_run (c : Int) (ws : List Int) (hw : ws.length = 8) (hwp : ∀ y ∈ ws, 0 ≤ y ∧ y < 2147483647) (s1 : Sl) : ∀ (n k : Nat) (Ls : List (Nat × List (List D))) (s4 : Sl), k + n ≤ 3 → Ls.length = k → (∀ p ∈ Ls, LdOk p.1 p.2) →
    ∃ (Ls' : List (Nat × List (List D))) (s4' : Sl), forR (bName 4) L_law_ladders_0 ((List.range' k n).map fun (k : Nat) => D.int (k : Int)) [.val (.int c), s1, .val (.lst (ws.map D.int)), .own (Ls.map fun p => ldD p.2), s4] =
      .next [.val (.int c), s1, .val (.lst (ws.map D.int)), .own (Ls'.map fun p => ldD p.2), s4'] ∧ Ls'.length = k + n ∧ ∀ p ∈ Ls', LdOk p.1 p.2
  | 0, k, Ls, s4, _, h2, h3 => ⟨Ls, s4, rfl, h2, h3⟩
  | n + 1, k, Ls, s4, h1, h2, h3 => by
    obtain ⟨x, hx, hxm⟩ := at_of (xs := ws) (i := 4 + (k : Int)) (by omega) (by omega)
    obtain ⟨y, hy, hym⟩ := at_of (xs := ws) (i := 1 + (k : Int)) (by omega) (by omega)
    have hy0 := hwp y hym
    obtain ⟨m, hm⟩ : ∃ m : Nat, 1 + y % 8 = (m : Int) := ⟨(1 + y % 8).toNat, by omega⟩
    obtain ⟨w, hww⟩ : ∃ w : Nat, 1 + y / 8 % 4 = (w : Int) := ⟨(1 + y / 8 % 4).toNat, by omega⟩
    obtain ⟨ls, hl, hll, hln, hnd⟩ := ladder_eq (c + x) m w (by omega) (by omega) (by omega) (by omega)
    have hL : LdOk w ls := ⟨by omega, by omega, by omega, by omega, hln, hnd⟩
    obtain ⟨Ls', s4', e, k1, k2⟩ := ladders_run c ws hw hwp s1 n (k + 1) (Ls ++ [(w, ls)]) (.val (.int (k : Int))) (by omega) (by simp [h2]) (fun p hp => by
      rcases List.mem_append.mp hp with hp | hp
      · exact h3 p hp
      · simp at hp; subst hp; exact hL)
    refine ⟨Ls', s4', ?_, by omega, k2⟩
    have hz : Ls.length < sizeLine := Nat.lt_of_lt_of_le (show Ls.length < 100 by omega) (by decide)
    have a1 : ∀ a b : Int, addD (.int a) (.int b) = some (.int (a + b)) := fun _ _ => rfl
    simp only [List.map_append, List.map_cons, List.map_nil, ldD] at e
    simp only [List.range'_succ, List.map_cons, forR, bName, List.set_cons_succ, List.set_cons_zero]
    rw [show L_law_ladders_0 [.val (.int c), s1, .val (.lst (ws.map D.int)), .own (Ls.map fun p => ldD p.2), .val (.int (k : Int))] =
      .next [.val (.int c), s1, .val (.lst (ws.map D.int)), .own ((Ls.map fun p => ldD p.2) ++ [ldD ls]), .val (.int (k : Int))] by
        simp [L_law_ladders_0, -addD, a1, hx, hy, hm, hww, hl, hz, ldD, CDiv]]
    simp only [ldD] at e ⊢
    exact e
theorem ladders_eq (c : Int) : ∃ Ls : List (Nat × List (List D)), F_law_ladders [.val (.int c), .val (.int 3)] = some (.own (Ls.map fun p => ldD p.2)) ∧ 0 < Ls.length ∧ Ls.length ≤ 3 ∧ ∀ p ∈ Ls, LdOk p.1 p.2 := by
  obtain ⟨ws, hs, hl, hp⟩ := stream_eq c 8 (by omega)
  have hs : F_law_stream [.val (.int c), .val (.int 8)] = some (.val (.lst (ws.map D.int))) := hs
  obtain ⟨y, hy, _⟩ := at_of (xs := ws) (i := 0) (by omega) (by omega)
  obtain ⟨n, hn⟩ : ∃ n : Nat, 1 + y % 3 = (n : Int) := ⟨(1 + y % 3).toNat, by omega⟩
  have hr := rng1_nat n (by omega)
  obtain ⟨Ls, s4, e, k1, k2⟩ := ladders_run c ws hl hp (.val (.int 3)) n 0 [] .no (by omega) rfl (fun _ h => nomatch h)
  rw [← List.range_eq_range'] at e
  refine ⟨Ls, ?_, by omega, by omega, k2⟩
  simp at e
  simp [F_law_ladders, fnP, g_law_ladders, S_law_ladders_0, P_law_ladders_0, S_law_ladders_1, P_law_ladders_1, S_law_ladders_2, P_law_ladders_2, S_law_ladders_3, P_law_ladders_3, hs, hy, hn, hr, e]
def Vn (d : D) : Prop := d = .non ∨ IsV d
theorem Vn.key {d : D} (h : Vn d) : ∃ a, okK d = some (.at a) := by
  rcases h with rfl | h
  · exact ⟨_, rfl⟩
  · exact h.key
theorem Vn.ok {d : D} (h : Vn d) (n : Nat) : okD n d = true := by
  rcases h with rfl | ⟨i, rfl⟩ | ⟨x, rfl, _⟩ <;> cases n <;> rfl
theorem at_eq (l : List D) (k : Nat) (hk : k ≤ l.length) (hv : ∀ d ∈ l, IsV d) : ∃ d, F_law_at [.val (.tup l), .val (.int (k : Int))] = some (.val d) ∧ Vn d := by
  by_cases h : k = l.length
  · exact ⟨.non, by simp [F_law_at, fnP, g_law_at, h], .inl rfl⟩
  · obtain ⟨d, e, hd⟩ := atI_ok (xs := l) (i := (k : Int)) (by omega) (by omega)
    have h' : ¬ ((k : Int) = l.length) := by omega
    exact ⟨d, by simp [F_law_at, fnP, g_law_at, h', e], .inr (hv d hd)⟩
def KnOk (kvs : KDs) : Prop := (∀ p ∈ kvs, isAt p.1 = true) ∧ ∀ p ∈ kvs, ∃ b, p.2 = .bl b
theorem pick_turn (s0 s1 s2 s3 s11 : Sl) (up lo : Nat) (sh : Int) (bs : List Int) (kvs : KDs) (hk : KnOk kvs) (hkb : kvs.length < bs.length) (hkl : kvs.length < 1000) (vs : List D) (hvs : ∀ d ∈ vs, Vn d) (hvl : vs.length < 1000) (l : List D) (hl : ∀ d ∈ l, IsV d) (hu : up ≤ l.length) (ho : lo ≤ l.length) :
    ∃ kvs' vs' s11', L_law_pick_0 [s0, s1, s2, s3, .val (.int (up : Int)), .val (.int (lo : Int)), .val (.int sh), .val (.lst (bs.map D.int)), .own (flatD kvs) true, .own vs, .val (.tup l), s11] =
      .next [s0, s1, s2, s3, .val (.int (up : Int)), .val (.int (lo : Int)), .val (.int sh), .val (.lst (bs.map D.int)), .own (flatD kvs') true, .own vs', .val (.tup l), s11'] ∧ KnOk kvs' ∧ kvs'.length ≤ kvs.length + 1 ∧ (∀ d ∈ vs', Vn d) ∧ vs'.length ≤ vs.length + 1 := by
  obtain ⟨u, hu1, hu2⟩ := at_eq l up hu hl
  obtain ⟨o, ho1, ho2⟩ := at_eq l lo ho hl
  obtain ⟨a, ha⟩ := hu2.key
  obtain ⟨y, hy, _⟩ := at_of (xs := bs) (i := (kvs.length : Int)) (by omega) (by omega)
  have hal := allAt hk.1
  have hkz : kvs.length < sizeLine := Nat.lt_of_lt_of_le (show kvs.length < 100000 by omega) (by decide)
  have hvz : vs.length < sizeLine := Nat.lt_of_lt_of_le (show vs.length < 100000 by omega) (by decide)
  have hh := homL_at a hk.1
  have hin : inD true o (.lst vs) = some (.bl (!inDs o vs)) := by
    have h2 : vs.all (okD 12) = true := by rw [List.all_eq_true]; exact fun d hd => (hvs d hd).ok 12
    simp only [inD, deep_eq, ho2.ok 12, h2, Bool.and_self, if_true]
  have hvs' : ∀ d ∈ vs ++ [o], Vn d := fun d hd => by
    rcases List.mem_append.mp hd with hd | hd
    · exact hvs d hd
    · simp at hd; subst hd; exact ho2
  have hcall := ho1
  -- the dict behind the setdefault
  obtain ⟨kvs', b, hsd, hk', hkl', hh', hval⟩ : ∃ (kvs' : KDs) (b : Bool), dropX (sdX 8 (fun ρ => rdP ρ 11) (bin2 ltO (bin2 modD (bin2 ixD (fun ρ => rdP ρ 7) (bltO dlenD (fun ρ => consO (rdA ρ 8) ((fun _ => some []) ρ)))) (fun _ => some (.int (4)))) (fun ρ => rdP ρ 6)) [s0, s1, s2, s3, .val (.int (up : Int)), .val (.int (lo : Int)), .val (.int sh), .val (.lst (bs.map D.int)), .own (flatD kvs) true, .own vs, .val (.tup l), .val u]) = .next [s0, s1, s2, s3, .val (.int (up : Int)), .val (.int (lo : Int)), .val (.int sh), .val (.lst (bs.map D.int)), .own (flatD kvs') true, .own vs, .val (.tup l), .val u] ∧ KnOk kvs' ∧ kvs'.length ≤ kvs.length + 1 ∧ homL (.at a) kvs' = true ∧ valL kvs' (.at a) = some (.bl b) := by
    cases hv : valL kvs (.at a) with
    | some v =>
      obtain ⟨b, hb⟩ := hk.2 _ (valL_mem hv)
      refine ⟨kvs, b, ?_, hk, by omega, hh, by rw [hv]; simp at hb; rw [hb]⟩
      simp [dropX, sdX, ha, hal, hy, hh, hkz, hv]
    | none =>
      have hput := valL_put kvs (.at a) (.bl (decide (y % 4 < sh))) (.at a)
      rw [if_pos rfl] at hput
      have hk' : KnOk (putL kvs (.at a) (.bl (decide (y % 4 < sh)))) := ⟨fun q hq => by
        rcases putL_mem hq with h | rfl
        · exact hk.1 q h
        · rfl, fun q hq => by
        rcases putL_mem hq with h | rfl
        · exact hk.2 q h
        · exact ⟨_, rfl⟩⟩
      refine ⟨_, decide (y % 4 < sh), ?_, hk', putL_len _ _ _, homL_at a hk'.1, hput⟩
      simp [dropX, sdX, ha, hal, hy, hh, hkz, hv]
  simp only [callO, consO, rdA, Option.bind, Option.map, bin2, rdP] at hsd
  have hget : dgetD (.lst (flatD kvs') true) u = some (.bl b) := by rw [dgetD_flat, ha]; simp only [Option.bind, hh', if_true, hval]
  by_cases hb : b = true ∧ inDs o vs = false
  · refine ⟨kvs', vs ++ [o], .val u, ?_, hk', hkl', hvs', by simp⟩
    obtain ⟨rfl, hb2⟩ := hb
    simp only [L_law_pick_0, seqR, iteR, setR, callO, consO, rdA, List.getElem?_cons_succ, List.getElem?_cons_zero, List.set_cons_succ, List.set_cons_zero, Option.bind, Option.map, hu1, rvD_v, hsd, andO, truD, bin2, rdP, hget, ho1, hin, hb2, asB, Bool.not_false, appR, rdO, hvz, if_true]
  · refine ⟨kvs', vs, .val u, ?_, hk', hkl', hvs, by omega⟩
    cases b with
    | false => simp only [L_law_pick_0, seqR, iteR, setR, callO, consO, rdA, List.getElem?_cons_succ, List.getElem?_cons_zero, List.set_cons_succ, List.set_cons_zero, Option.bind, Option.map, hu1, rvD_v, hsd, andO, truD, bin2, rdP, hget]
    | true =>
      have hb2 : inDs o vs = true := by simpa using hb
      simp only [L_law_pick_0, seqR, iteR, setR, callO, consO, rdA, List.getElem?_cons_succ, List.getElem?_cons_zero, List.set_cons_succ, List.set_cons_zero, Option.bind, Option.map, hu1, rvD_v, hsd, andO, truD, bin2, rdP, hget, ho1, hin, hb2, asB, Bool.not_true]
theorem pick_run (s0 s1 s2 s3 : Sl) (up lo w : Nat) (sh : Int) (bs : List Int) (hu : up ≤ w) (ho : lo ≤ w) : ∀ (ls : List (List D)) (kvs : KDs) (vs : List D) (s10 s11 : Sl), Lines w ls → KnOk kvs → (∀ d ∈ vs, Vn d) → kvs.length + ls.length ≤ bs.length → kvs.length + ls.length < 1000 → vs.length + ls.length < 1000 →
    ∃ kvs' vs' s10' s11', forR (bName 10) L_law_pick_0 (ls.map D.tup) [s0, s1, s2, s3, .val (.int (up : Int)), .val (.int (lo : Int)), .val (.int sh), .val (.lst (bs.map D.int)), .own (flatD kvs) true, .own vs, s10, s11] =
      .next [s0, s1, s2, s3, .val (.int (up : Int)), .val (.int (lo : Int)), .val (.int sh), .val (.lst (bs.map D.int)), .own (flatD kvs') true, .own vs', s10', s11'] ∧ (∀ d ∈ vs', Vn d) ∧ vs'.length ≤ vs.length + ls.length
  | [], kvs, vs, s10, s11, _, _, hv, _, _, _ => ⟨kvs, vs, s10, s11, rfl, hv, by simp⟩
  | l :: ls, kvs, vs, s10, s11, hL, hk, hv, h1, h2, h3 => by
    simp only [List.length_cons] at h1 h2 h3
    obtain ⟨hll, hlv⟩ := hL l List.mem_cons_self
    obtain ⟨kvs1, vs1, t11, e1, k1, k2, k3, k4⟩ := pick_turn s0 s1 s2 s3 s11 up lo sh bs kvs hk (by omega) (by omega) vs hv (by omega) l hlv (by omega) (by omega)
    obtain ⟨kvs2, vs2, s10', s11', e2, k5, k6⟩ := pick_run s0 s1 s2 s3 up lo w sh bs hu ho ls kvs1 vs1 (.val (.tup l)) t11 (fun m hm => hL m (List.mem_cons_of_mem _ hm)) k1 k3 (by omega) (by omega) (by omega)
    refine ⟨kvs2, vs2, s10', s11', ?_, k5, by simp only [List.length_cons]; omega⟩
    simp only [List.map_cons, forR, bName, List.set_cons_succ, List.set_cons_zero, e1]
    exact e2
def LD (Ls : List (Nat × List (List D))) : D := .lst (Ls.map fun p => ldD p.2)
structure PkOk (Ls : List (Nat × List (List D))) (a lv : Nat) (v : D) (vs : List D) : Prop where
  ax : ∃ p, Ls[a]? = some p ∧ lv ≤ p.1
  v : v = .lst vs ∨ v = .tup vs
  vn : ∀ d ∈ vs, Vn d
  len : vs.length ≤ 50
theorem a0_gw : GZ "a0" := ⟨⟨⟨_, _, rfl, by decide +kernel⟩, by decide +kernel⟩, by decide +kernel⟩
theorem zz_gw : GZ "zz9" := ⟨⟨⟨_, _, rfl, by decide +kernel⟩, by decide +kernel⟩, by decide +kernel⟩
theorem tbl3 (g : Int) : ∃ d, atI [D.str "a0", .int 7, .str "zz9"] (g % 3) = some d ∧ IsV d := by
  obtain ⟨d, e, hd⟩ := atI_ok (xs := [D.str "a0", .int 7, .str "zz9"]) (i := g % 3) (by omega) (by simp; omega)
  refine ⟨d, e, ?_⟩
  simp only [List.mem_cons, List.not_mem_nil, or_false] at hd
  rcases hd with rfl | rfl | rfl
  · exact .inr ⟨_, rfl, a0_gw⟩
  · exact .inl ⟨_, rfl⟩
  · exact .inr ⟨_, rfl, zz_gw⟩
theorem pick_out (s0 s1 s2 s4 s6 s7 s8 s10 s11 : Sl) (j lo f : Int) (ws : List Int) (hf : atI (ws.map D.int) 5 = some (.int f)) (vs : List D) (hl : vs.length ≤ 46) :
    ∃ v, S_law_pick_11 [s0, s1, .val (.lst (ws.map D.int)), .val (.int j), s4, .val (.int lo), s6, s7, s8, .own vs, s10, s11] = .ret (.val (.tup [.int j, .int lo, v])) ∧ (v = .lst vs ∨ v = .tup vs) := by
  have hf' : ixD (.lst (ws.map D.int)) (.int 5) = some (.int f) := hf
  have hd : fdivD (.int f) (.int 6) = some (.int (f / 6)) := by simp [CDiv]
  generalize f / 6 = f2 at hd
  have hm : modD (.int f2) (.int 2) = some (.int (f2 % 2)) := rfl
  generalize f2 % 2 = f3 at hm
  have hq : eqO (.int f3) (.int 1) = some (.bl (decide (f3 = 1))) := by simp
  have z3 : 3 ≤ sizeLine := by decide
  have hz : vs.length ≤ sizeLine := Nat.le_trans hl (by decide)
  by_cases h : f3 = 1
  · refine ⟨.tup vs, ?_, .inr rfl⟩
    simp only [h, decide_true] at hq
    subst h
    simp only [S_law_pick_11, P_law_pick_11, seqR, iteR, bin2, rdP, rdV, List.getElem?_cons_succ, List.getElem?_cons_zero, Option.bind, Option.map, hf', hd, hm, hq, asB, consO, valO, bltO, rdA, pks, pk, tupD, hz, shortO, vals, List.length_cons, List.length_nil, z3, if_true, retO]
  · refine ⟨.lst vs, ?_, .inl rfl⟩
    simp only [h, decide_false] at hq
    simp only [S_law_pick_11, P_law_pick_11, S_law_pick_12, P_law_pick_12, seqR, iteR, bin2, rdP, rdV, List.getElem?_cons_succ, List.getElem?_cons_zero, Option.bind, Option.map, hf', hd, hm, hq, asB]
    simp [z3]
theorem pick_dup (s0 s1 s2 s4 s6 s7 s8 s10 s11 : Sl) (j lo f g x7 : Int) (ws : List Int) (hf : atI (ws.map D.int) 5 = some (.int f)) (hg : atI (ws.map D.int) 6 = some (.int g)) (h7 : atI (ws.map D.int) 7 = some (.int x7)) (vs : List D) (hvs : ∀ d ∈ vs, Vn d) (hl : vs.length ≤ 45) :
    ∃ v vs', S_law_pick_10 [s0, s1, .val (.lst (ws.map D.int)), .val (.int j), s4, .val (.int lo), s6, s7, s8, .own vs, s10, s11] = .ret (.val (.tup [.int j, .int lo, v])) ∧ (v = .lst vs' ∨ v = .tup vs') ∧ (∀ d ∈ vs', Vn d) ∧ vs'.length ≤ 50 := by
  have h7' : ixD (.lst (ws.map D.int)) (.int 7) = some (.int x7) := h7
  have hg' : ixD (.lst (ws.map D.int)) (.int 6) = some (.int g) := hg
  have hm : modD (.int x7) (.int 4) = some (.int (x7 % 4)) := rfl
  have hq : eqO (.int (x7 % 4)) (.int 1) = some (.bl (decide (x7 % 4 = 1))) := by simp
  have hn : neO (.lst vs) (.lst []) = some (.bl (!vs.isEmpty)) := by
    have h1 : okD 12 (.lst vs) = true := by
      show vs.all (okD 11) = true
      rw [List.all_eq_true]; exact fun d hd => (hvs d hd).ok 11
    have h2 : okD 12 (.lst []) = true := rfl
    have h3 : eqD (.lst vs) (.lst []) = vs.isEmpty := by cases vs <;> simp
    simp only [neO, deep_eq, h1, h2, h3, Bool.and_self, if_true]
  have hsh : shortO (some ([] : List D)) = some [] := rfl
  have hv0 : vals [] = some [] := rfl
  by_cases hc : x7 % 4 = 1 ∧ vs ≠ []
  · obtain ⟨hc1, hc2⟩ := hc
    rw [decide_eq_true hc1] at hq
    have hpos : 0 < vs.length := List.length_pos_iff.mpr hc2
    rw [show vs.isEmpty = false by cases vs with | nil => exact absurd rfl hc2 | cons _ _ => rfl] at hn
    have hlen : lenD [.lst vs] = some (.int (vs.length : Int)) := rfl
    have hmm := modD_pos g (vs.length : Int) (by omega)
    obtain ⟨d, hd, hdm⟩ := atI_ok (xs := vs) (i := g % (vs.length : Int)) (Int.emod_nonneg _ (by omega)) (Int.emod_lt_of_pos _ (by omega))
    have hd' : ixD (.lst vs) (.int (g % (vs.length : Int))) = some d := hd
    have hz : vs.length < sizeLine := Nat.lt_of_lt_of_le (show vs.length < 100 by omega) (by decide)
    obtain ⟨v, e, hv⟩ := pick_out s0 s1 s2 s4 s6 s7 s8 s10 s11 j lo f ws hf (vs ++ [d]) (by simp; omega)
    refine ⟨v, vs ++ [d], ?_, hv, fun x hx => ?_, by simp; omega⟩
    · simp only [S_law_pick_10, P_law_pick_10, seqR, iteR, andO, bin2, rdP, rdV, rdA, rdO, appR, List.getElem?_cons_succ, List.getElem?_cons_zero, List.set_cons_succ, List.set_cons_zero, Option.bind, Option.map, h7', hg', hm, hq, asB, lstO, hv0, hsh, hn, Bool.not_false, consO, valO, bltO, pks, pk, hlen, hmm, hd', hz, if_true]
      exact e
    · rcases List.mem_append.mp hx with hx | hx
      · exact hvs x hx
      · simp at hx; subst hx; exact hvs _ hdm
  · obtain ⟨v, e, hv⟩ := pick_out s0 s1 s2 s4 s6 s7 s8 s10 s11 j lo f ws hf vs (by omega)
    refine ⟨v, vs, ?_, hv, hvs, by omega⟩
    by_cases hc1 : x7 % 4 = 1
    · have hc2 : vs = [] := Classical.byContradiction fun h => hc ⟨hc1, h⟩
      rw [decide_eq_true hc1] at hq
      subst hc2
      simp only [S_law_pick_10, P_law_pick_10, seqR, iteR, andO, bin2, rdP, rdV, rdA, List.getElem?_cons_succ, List.getElem?_cons_zero, Option.bind, Option.map, h7', hm, hq, asB, lstO, hv0, hsh, hn, List.isEmpty_nil, Bool.not_true]
      exact e
    · rw [decide_eq_false hc1] at hq
      simp only [S_law_pick_10, P_law_pick_10, seqR, iteR, andO, bin2, rdP, rdV, rdA, List.getElem?_cons_succ, List.getElem?_cons_zero, Option.bind, Option.map, h7', hm, hq, asB]
      exact e
theorem pick_ins (s0 s1 s2 s4 s6 s7 s8 s10 s11 : Sl) (j lo f g x7 : Int) (ws : List Int) (hf : atI (ws.map D.int) 5 = some (.int f)) (hg : atI (ws.map D.int) 6 = some (.int g)) (h7 : atI (ws.map D.int) 7 = some (.int x7)) (vs : List D) (hvs : ∀ d ∈ vs, Vn d) (hl : vs.length ≤ 44) :
    ∃ v vs', S_law_pick_9 [s0, s1, .val (.lst (ws.map D.int)), .val (.int j), s4, .val (.int lo), s6, s7, s8, .own vs, s10, s11] = .ret (.val (.tup [.int j, .int lo, v])) ∧ (v = .lst vs' ∨ v = .tup vs') ∧ (∀ d ∈ vs', Vn d) ∧ vs'.length ≤ 50 := by
  have hf' : ixD (.lst (ws.map D.int)) (.int 5) = some (.int f) := hf
  have hg' : ixD (.lst (ws.map D.int)) (.int 6) = some (.int g) := hg
  have hm : modD (.int f) (.int 6) = some (.int (f % 6)) := rfl
  generalize f % 6 = f3 at hm
  have hq : eqO (.int f3) (.int 1) = some (.bl (decide (f3 = 1))) := by simp
  by_cases h : f3 = 1
  · simp only [h, decide_true] at hq
    subst h
    obtain ⟨d, hd, hdv⟩ := tbl3 g
    have hd' : ixD (.lst [D.str "a0", .int 7, .str "zz9"]) (.int (g % 3)) = some d := hd
    have hm3 : modD (.int g) (.int 3) = some (.int (g % 3)) := rfl
    generalize g % 3 = g3 at hd' hm3
    have ha : addD (.int (vs.length : Int)) (.int 1) = some (.int ((vs.length : Int) + 1)) := rfl
    have hmm : modD (.int g) (.int ((vs.length : Int) + 1)) = some (.int (g % ((vs.length : Int) + 1))) := by
      have : (0 : Int) < (vs.length : Int) + 1 := by omega
      simp [this]
    obtain ⟨k, hk⟩ : ∃ k : Nat, g % ((vs.length : Int) + 1) = (k : Int) := ⟨(g % ((vs.length : Int) + 1)).toNat, by have := Int.emod_nonneg g (show (vs.length : Int) + 1 ≠ 0 by omega); omega⟩
    have hkl : k ≤ vs.length := by have := Int.emod_lt_of_pos g (show (0 : Int) < (vs.length : Int) + 1 by omega); omega
    rw [hk] at hmm
    have hz : vs.length < sizeLine := Nat.lt_of_lt_of_le (show vs.length < 100 by omega) (by decide)
    have z3 : 3 ≤ sizeLine := by decide
    have hins : insR 9 (some (.int (k : Int))) (some d) [s0, s1, .val (.lst (ws.map D.int)), .val (.int j), s4, .val (.int lo), s6, s7, s8, .own vs, s10, s11] = .next [s0, s1, .val (.lst (ws.map D.int)), .val (.int j), s4, .val (.int lo), s6, s7, s8, .own (vs.take k ++ d :: vs.drop k), s10, s11] := by
      have hkl' : (k : Int) ≤ vs.length := by omega
      simp [insR, hkl', hz]
    have hvs2 : ∀ x ∈ vs.take k ++ d :: vs.drop k, Vn x := fun x hx => by
      rcases List.mem_append.mp hx with hx | hx
      · exact hvs x (List.mem_of_mem_take hx)
      · rcases List.mem_cons.mp hx with rfl | hx
        · exact .inr hdv
        · exact hvs x (List.mem_of_mem_drop hx)
    obtain ⟨v, vs', e, hv, hv1, hv2⟩ := pick_dup s0 s1 s2 s4 s6 s7 s8 s10 s11 j lo f g x7 ws hf hg h7 (vs.take k ++ d :: vs.drop k) hvs2 (by simp; omega)
    refine ⟨v, vs', ?_, hv, hv1, hv2⟩
    simp only [S_law_pick_9, P_law_pick_9, seqR, iteR, bin2, rdP, rdV, List.getElem?_cons_succ, List.getElem?_cons_zero, Option.bind, Option.map, hf', hg', hm, hq, hm3, hd', asB, consO, valO, bltO, rdA, pks, pk, lenD, shortO, vals, List.length_cons, List.length_nil, Nat.reduceAdd, z3, if_true, lstO, ha, hmm, hins]
    exact e
  · simp only [h, decide_false] at hq
    obtain ⟨v, vs', e, hv, hv1, hv2⟩ := pick_dup s0 s1 s2 s4 s6 s7 s8 s10 s11 j lo f g x7 ws hf hg h7 vs hvs (by omega)
    refine ⟨v, vs', ?_, hv, hv1, hv2⟩
    simp only [S_law_pick_9, P_law_pick_9, seqR, iteR, bin2, rdP, rdV, List.getElem?_cons_succ, List.getElem?_cons_zero, Option.bind, Option.map, hf', hm, hq, asB]
    exact e
theorem pick_eq (Ls : List (Nat × List (List D))) (h : ∀ p ∈ Ls, LdOk p.1 p.2) (h0 : 0 < Ls.length) (h3 : Ls.length ≤ 3) (c : Int) :
    ∃ (a lv : Nat) (v : D) (vs : List D), F_law_pick [.val (.int c), .val (LD Ls)] = some (.val (.tup [.int (a : Int), .int (lv : Int), v])) ∧ PkOk Ls a lv v vs := by
  obtain ⟨ws, hs, hl, hp⟩ := stream_eq c 8 (by omega)
  have hs : F_law_stream [.val (.int c), .val (.int 8)] = some (.val (.lst (ws.map D.int))) := hs
  obtain ⟨x0, hx0, _⟩ := at_of (xs := ws) (i := 0) (by omega) (by omega)
  obtain ⟨x1, hx1, _⟩ := at_of (xs := ws) (i := 1) (by omega) (by omega)
  obtain ⟨x2, hx2, _⟩ := at_of (xs := ws) (i := 2) (by omega) (by omega)
  obtain ⟨x3, hx3, _⟩ := at_of (xs := ws) (i := 3) (by omega) (by omega)
  obtain ⟨x4, hx4, _⟩ := at_of (xs := ws) (i := 4) (by omega) (by omega)
  obtain ⟨x5, hx5, _⟩ := at_of (xs := ws) (i := 5) (by omega) (by omega)
  obtain ⟨x6, hx6, _⟩ := at_of (xs := ws) (i := 6) (by omega) (by omega)
  obtain ⟨x7, hx7, _⟩ := at_of (xs := ws) (i := 7) (by omega) (by omega)
  have j0 : ixD (.lst (ws.map D.int)) (.int 0) = some (.int x0) := hx0
  have j1 : ixD (.lst (ws.map D.int)) (.int 1) = some (.int x1) := hx1
  have j2 : ixD (.lst (ws.map D.int)) (.int 2) = some (.int x2) := hx2
  have j3 : ixD (.lst (ws.map D.int)) (.int 3) = some (.int x3) := hx3
  have j4 : ixD (.lst (ws.map D.int)) (.int 4) = some (.int x4) := hx4
  have hL0 : (0 : Int) < (Ls.length : Int) := by omega
  have m0 : modD (.int x0) (.int (Ls.length : Int)) = some (.int (x0 % (Ls.length : Int))) := modD_pos _ _ hL0
  obtain ⟨a, ha⟩ : ∃ a : Nat, x0 % (Ls.length : Int) = (a : Int) := ⟨(x0 % (Ls.length : Int)).toNat, by have := Int.emod_nonneg x0 (show (Ls.length : Int) ≠ 0 by omega); omega⟩
  have hal : a < Ls.length := by have := Int.emod_lt_of_pos x0 hL0; omega
  rw [ha] at m0
  have hp' : Ls[a]? = some Ls[a] := List.getElem?_eq_getElem hal
  have hld := h _ (List.getElem_mem hal)
  generalize Ls[a] = p at hp' hld
  obtain ⟨w, ls⟩ := p
  have jl : ixD (LD Ls) (.int (a : Int)) = some (ldD ls) := by
    show atI (Ls.map fun p => ldD p.2) (a : Int) = some (ldD ls)
    exact atI_nat (by rw [List.getElem?_map, hp']; rfl)
  have l0 := hld.l0
  have l9 := hld.l9
  have w0 := hld.w0
  have w4 := hld.w4
  simp only at l0 l9 w0 w4
  obtain ⟨l, lr, hlr⟩ : ∃ l lr, ls = l :: lr := by
    cases ls with
    | nil => simp at l0
    | cons l lr => exact ⟨l, lr, rfl⟩
  have hlw : l.length = w := (hld.ln l (by show l ∈ ls; rw [hlr]; exact List.mem_cons_self)).1
  have jz : ixD (ldD ls) (.int 0) = some (.tup l) := by rw [hlr]; exact atI_zero _ _
  have a1 : addD (.int (l.length : Int)) (.int 1) = some (.int ((w : Int) + 1)) := by rw [hlw]; rfl
  have m1 : modD (.int x1) (.int ((w : Int) + 1)) = some (.int (x1 % ((w : Int) + 1))) := by
    have : (0 : Int) < (w : Int) + 1 := by omega
    simp [this]
  obtain ⟨up, hup, hupl⟩ : ∃ up : Nat, x1 % ((w : Int) + 1) = (up : Int) ∧ up ≤ w := ⟨(x1 % ((w : Int) + 1)).toNat, by have := Int.emod_nonneg x1 (show (w : Int) + 1 ≠ 0 by omega); omega, by have := Int.emod_lt_of_pos x1 (show (0 : Int) < (w : Int) + 1 by omega); omega⟩
  rw [hup] at m1
  have a2 : addD (.int (up : Int)) (.int 1) = some (.int ((up : Int) + 1)) := rfl
  have m2 : modD (.int x2) (.int ((up : Int) + 1)) = some (.int (x2 % ((up : Int) + 1))) := by
    have : (0 : Int) < (up : Int) + 1 := by omega
    simp [this]
  obtain ⟨lo, hlo, hlol⟩ : ∃ lo : Nat, x2 % ((up : Int) + 1) = (lo : Int) ∧ lo ≤ up := ⟨(x2 % ((up : Int) + 1)).toNat, by have := Int.emod_nonneg x2 (show (up : Int) + 1 ≠ 0 by omega); omega, by have := Int.emod_lt_of_pos x2 (show (0 : Int) < (up : Int) + 1 by omega); omega⟩
  rw [hlo] at m2
  have m3 : modD (.int x3) (.int 7) = some (.int (x3 % 7)) := rfl
  obtain ⟨sh, hsh⟩ : ∃ sh : Int, ixD (.lst [.int 1, .int 2, .int 3, .int 4, .int 2, .int 3, .int 0]) (.int (x3 % 7)) = some (.int sh) := by
    obtain ⟨d, e, hd⟩ := atI_ok (xs := [D.int 1, .int 2, .int 3, .int 4, .int 2, .int 3, .int 0]) (i := x3 % 7) (by omega) (by simp; omega)
    simp only [List.mem_cons, List.not_mem_nil, or_false] at hd
    rcases hd with rfl | rfl | rfl | rfl | rfl | rfl | rfl <;> exact ⟨_, e⟩
  generalize x3 % 7 = q3 at m3 hsh
  obtain ⟨bs, hb, hbl, _⟩ := stream_eq x4 ls.length (by omega)
  have hlen : lenD [ldD ls] = some (.int (ls.length : Int)) := by simp [ldD]
  have hlL : lenD [LD Ls] = some (.int (Ls.length : Int)) := by simp [LD]
  have hitem : seqItems (ldD ls) = some (ls.map D.tup) := rfl
  obtain ⟨kvs, vs, t10, t11, e1, k1, k2⟩ := pick_run (.val (.int c)) (.val (LD Ls)) (.val (.lst (ws.map D.int))) (.val (.int (a : Int))) up lo w sh bs (by omega) (by omega) ls [] [] .no .no hld.ln ⟨fun _ h => (nomatch h), fun _ h => (nomatch h)⟩ (fun _ h => nomatch h) (by simp; omega) (by simp; omega) (by simp; omega)
  simp only [flatD, List.length_nil, Nat.zero_add] at e1 k2
  obtain ⟨v, vs', e2, g1, g2, g3⟩ := pick_ins (.val (.int c)) (.val (LD Ls)) (.val (.int 0)) (.val (.int (up : Int))) (.val (.int sh)) (.val (.lst (bs.map D.int))) (.own (flatD kvs) true) t10 t11 (a : Int) (lo : Int) x5 x6 x7 ws hx5 hx6 hx7 vs k1 (by omega)
  refine ⟨a, lo, v, vs', ?_, ⟨⟨_, hp', by simp; omega⟩, g1, g2, g3⟩⟩
  generalize LD Ls = L at *
  generalize ldD ls = lD at *
  have z7 : 7 ≤ sizeLine := by decide
  have hlt : lenD [.tup l] = some (.int (l.length : Int)) := rfl
  have z0 : 0 ≤ sizeLine := by decide
  have f1 : S_law_pick_5 [.val (.int c), .val L, .val (.lst (ws.map D.int)), .val (.int (a : Int)), .val (.int (up : Int)), .val (.int (lo : Int)), .val (.int sh), .no, .no, .no, .no, .no] = .ret (.val (.tup [.int (a : Int), .int (lo : Int), v])) := by
    simp only [S_law_pick_5, P_law_pick_5, S_law_pick_6, P_law_pick_6, S_law_pick_7, P_law_pick_7, S_law_pick_8, P_law_pick_8, seqR, bin2, rdP, rdA, List.getElem?_cons_succ, List.getElem?_cons_zero, List.set_cons_succ, List.set_cons_zero, Option.bind, Option.map, consO, valO, bltO, pks, pk, callO, rvD_v, j4, jl, hlen, hb, setR, setRG, setRF, vals, shortO, List.length_nil, z0, if_true, forO, hitem, e1]
    exact e2
  have f0 : S_law_pick_0 [.val (.int c), .val L, .no, .no, .no, .no, .no, .no, .no, .no, .no, .no] = .ret (.val (.tup [.int (a : Int), .int (lo : Int), v])) := by
    simp only [S_law_pick_0, P_law_pick_0, S_law_pick_1, P_law_pick_1, S_law_pick_2, P_law_pick_2, S_law_pick_3, P_law_pick_3, S_law_pick_4, P_law_pick_4, seqR, bin2, rdP, rdA, List.getElem?_cons_succ, List.getElem?_cons_zero, List.set_cons_succ, List.set_cons_zero, Option.bind, Option.map, consO, valO, bltO, pks, pk, callO, rvD_v, hs, j0, hlL, m0, j1, jl, jz, hlt, a1, m1, j2, a2, m2, lstO, shortO, vals, List.length_cons, List.length_nil, Nat.reduceAdd, z7, if_true, j3, m3, hsh, setR]
    exact f1
  exact fn_ret rfl f0
def axB (n : Nat) : D → Bool
  | .int i => decide (0 ≤ i) && decide (i < n)
  | _ => false
def lvB (w : Nat) : D → Bool
  | .int i => decide (0 ≤ i) && decide (i ≤ w)
  | _ => false
theorem is_axis_eq (Ls : List (Nat × List (List D))) (d : D) (h : Sm d) : F_is_axis [.val (LD Ls), .val d] = some (.val (.bl (axB Ls.length d))) := by
  have hw := is_whole_eq d h
  have hl : lenD [LD Ls] = some (.int (Ls.length : Int)) := by simp [LD]
  generalize LD Ls = L at *
  cases d with
  | int i =>
    by_cases h0 : 0 ≤ i
    · by_cases h1 : i < Ls.length <;> simp [F_is_axis, fnP, g_is_axis, hw, wholeD, -lenD, hl, axB, h0, h1]
    · simp [F_is_axis, fnP, g_is_axis, hw, wholeD, -lenD, hl, axB, h0]
  | lst xs b => cases b with
    | true => exact h.elim
    | false => simp [F_is_axis, fnP, g_is_axis, hw, wholeD, axB]
  | ty n => exact h.elim
  | _ => simp [F_is_axis, fnP, g_is_axis, hw, wholeD, axB]
theorem whole_of_eq {w : Nat} {ls : List (List D)} (h : LdOk w ls) : F_whole_of [.val (ldD ls)] = some (.val (.int (w : Int))) := by
  obtain ⟨l, lr, rfl⟩ : ∃ l lr, ls = l :: lr := by
    cases ls with
    | nil => have := h.l0; simp at this
    | cons l lr => exact ⟨l, lr, rfl⟩
  have hl := (h.ln l List.mem_cons_self).1
  have e := atI_zero (D.tup l) (lr.map D.tup)
  simp [F_whole_of, fnP, g_whole_of, ldD, e, hl]
theorem is_level_eq {w : Nat} {ls : List (List D)} (hl : LdOk w ls) (d : D) (h : Sm d) : F_is_level [.val (ldD ls), .val d] = some (.val (.bl (lvB w d))) := by
  have hw := is_whole_eq d h
  have ho := whole_of_eq hl
  generalize ldD ls = L at *
  cases d with
  | int i =>
    by_cases h0 : 0 ≤ i
    · by_cases h1 : i ≤ w <;> simp [F_is_level, fnP, g_is_level, hw, ho, wholeD, lvB, h0, h1]
    · simp [F_is_level, fnP, g_is_level, hw, ho, wholeD, lvB, h0]
  | lst xs b => cases b with
    | true => exact h.elim
    | false => simp [F_is_level, fnP, g_is_level, hw, wholeD, lvB]
  | ty n => exact h.elim
  | _ => simp [F_is_level, fnP, g_is_level, hw, wholeD, lvB]
theorem pick_go (L a l v : D) : F_is_pick [.val L, .val (.tup [a, l, v])] = match S_is_pick_1 [.val L, .val (.tup [a, l, v])] with | Res.ret r => some r | Res.next _ => some (Rv.val D.non) | _ => none := by
  have e : S_is_pick_0 [.val L, .val (.tup [a, l, v])] = S_is_pick_1 [.val L, .val (.tup [a, l, v])] := by
    simp [S_is_pick_0, P_is_pick_0]
  show (match S_is_pick_0 [.val L, .val (.tup [a, l, v])] with | Res.ret r => some r | Res.next _ => some (Rv.val D.non) | _ => none) = _
  rw [e]
theorem pick_ax (Ls : List (Nat × List (List D))) (h : ∀ p ∈ Ls, LdOk p.1 p.2) (a : Nat) (p : Nat × List (List D)) (hp : Ls[a]? = some p) (l v : D) (hl : Sm l) :
    S_is_pick_1 [.val (LD Ls), .val (.tup [.int (a : Int), l, v])] = if lvB p.1 l then S_is_pick_2 [.val (LD Ls), .val (.tup [.int (a : Int), l, v])] else .ret (.val (.bl false)) := by
  have hal : a < Ls.length := by
    rcases Nat.lt_or_ge a Ls.length with h | h
    · exact h
    · rw [List.getElem?_eq_none h] at hp; cases hp
  have e := is_axis_eq Ls (.int (a : Int)) trivial
  have e2 : axB Ls.length (.int (a : Int)) = true := by simp [axB, hal]
  rw [e2] at e
  have jl : ixD (LD Ls) (.int (a : Int)) = some (ldD p.2) := by
    show atI (Ls.map fun p => ldD p.2) (a : Int) = some (ldD p.2)
    exact atI_nat (by rw [List.getElem?_map, hp]; rfl)
  have e3 := is_level_eq (h p (List.mem_of_getElem? hp)) l hl
  generalize LD Ls = L at *
  generalize ldD p.2 = lD at *
  have i0 : ixD (.tup [.int (a : Int), l, v]) (.int 0) = some (.int (a : Int)) := rfl
  have i1 : ixD (.tup [.int (a : Int), l, v]) (.int 1) = some l := rfl
  cases hb : lvB p.1 l with
  | true =>
    rw [hb] at e3
    simp [S_is_pick_1, P_is_pick_1, -ixD, i0, i1, e, jl, e3]
  | false =>
    rw [hb] at e3
    simp [S_is_pick_1, P_is_pick_1, -ixD, i0, i1, e, jl, e3]
def vnB (d : D) : Bool := isN d || valD d
theorem vals_eq (Ls : List (Nat × List (List D))) (h : ∀ p ∈ Ls, LdOk p.1 p.2) (a : Nat) (p : Nat × List (List D)) (hp : Ls[a]? = some p) (l v : D) (hl : Sm l) (hb : lvB p.1 l = true) (vs : List D) (hv : v = .lst vs ∨ v = .tup vs) (hs : ∀ d ∈ vs, Sm d) (hz : vs.length ≤ 1000) : F_is_pick [.val (LD Ls), .val (.tup [.int (a : Int), l, v])] = some (.val (.bl (vs.all vnB))) := by
  rw [pick_go, pick_ax Ls h a p hp l v hl, hb, if_pos rfl]
  have two : 2 ≤ sizeLine := by decide
  have hz' : vs.length ≤ sizeLine := Nat.le_trans hz (by decide)
  generalize LD Ls = L at *
  have hc : compL (bName 0) (fun _ => some true) C_is_pick_0 [.no] vs = some ((vs.map vnB).map D.bl) := by
    have := compL_map (b := bName 0) (e := C_is_pick_0) (ρ := [.no]) (fun d : D => d) (fun d => D.bl (vnB d)) vs fun d hd => ⟨[.val d], rfl, by
      have e := is_value_eq d (hs d hd)
      cases hn : isN d with
      | true => simp [C_is_pick_0, -isN, hn, vnB]
      | false => simp [C_is_pick_0, -isN, hn, vnB, e, valD]⟩
    rw [List.map_id'] at this
    rw [this, List.map_map]; rfl
  have i2 : ixD (.tup [.int (a : Int), l, v]) (.int 2) = some v := rfl
  rcases hv with rfl | rfl <;> simp [S_is_pick_2, P_is_pick_2, S_is_pick_3, P_is_pick_3, -ixD, i2, two, hz', compIn, hc, -List.map_map]
theorem GW_word {z : Str} (h : GZ z) : wordD (.str z) = true := h.1.word h.2
theorem Vn.sm {d : D} (h : Vn d) : Sm d := by
  rcases h with rfl | ⟨i, rfl⟩ | ⟨x, rfl, hx⟩
  · trivial
  · trivial
  · show x.length ≤ 100
    rw [len_cps]; have := hx.2; omega
theorem Vn.vn {d : D} (h : Vn d) : vnB d = true := by
  rcases h with rfl | ⟨i, rfl⟩ | ⟨x, rfl, hx⟩
  · rfl
  · rfl
  · show (false || (false || wordD (.str x))) = true
    rw [GW_word hx]; rfl
theorem is_picks_eq (L : D) (xs : List D) (f : D → Bool) (hz : xs.length ≤ 1000) (h : ∀ d ∈ xs, F_is_pick [.val L, .val d] = some (.val (.bl (f d)))) : F_is_picks [.val L, .val (.lst xs)] = some (.val (.bl (xs.all f))) := by
  have hz' : xs.length ≤ sizeLine := Nat.le_trans hz (by decide)
  have hc : compL (bName 0) (fun _ => some true) C_is_picks_0 [.no, .val L] xs = some ((xs.map f).map D.bl) := by
    have := compL_map (b := bName 0) (e := C_is_picks_0) (ρ := [.no, .val L]) (fun d : D => d) (fun d => D.bl (f d)) xs fun d hd => ⟨[.val d, .val L], rfl, by simp [C_is_picks_0, h d hd]⟩
    rw [List.map_id'] at this
    rw [this, List.map_map]; rfl
  simp [F_is_picks, fnP, g_is_picks, hz', compIn, hc, -List.map_map]
def PK (Ls : List (Nat × List (List D))) (d : D) : Prop := ∃ (a lv : Nat) (v : D) (vs : List D), d = .tup [.int (a : Int), .int (lv : Int), v] ∧ PkOk Ls a lv v vs
theorem PK.good {Ls : List (Nat × List (List D))} (h : ∀ p ∈ Ls, LdOk p.1 p.2) {d : D} (hd : PK Ls d) : F_is_pick [.val (LD Ls), .val d] = some (.val (.bl true)) := by
  obtain ⟨a, lv, v, vs, rfl, k⟩ := hd
  obtain ⟨p, hp, hlv⟩ := k.ax
  have := vals_eq Ls h a p hp (.int (lv : Int)) v trivial (by simp [lvB, hlv]) vs k.v (fun d hd => (k.vn d hd).sm) (by have := k.len; omega)
  rw [this]
  have e : vs.all vnB = true := by rw [List.all_eq_true]; exact fun d hd => (k.vn d hd).vn
  rw [e]
theorem PK.ok {Ls : List (Nat × List (List D))} {d : D} (hd : PK Ls d) : okD 11 d = true := by
  obtain ⟨a, lv, v, vs, rfl, k⟩ := hd
  have hv : okD 10 v = true := by
    have e : vs.all (okD 9) = true := by rw [List.all_eq_true]; exact fun d hd => (k.vn d hd).ok 9
    rcases k.v with rfl | rfl <;> exact e
  show [D.int (a : Int), D.int (lv : Int), v].all (okD 10) = true
  simp only [List.all_cons, List.all_nil, hv]; rfl
theorem copied_run (s0 : Sl) (Ls : List (Nat × List (List D))) : ∀ (ps : List D) (acc : List D) (s2 s3 s4 : Sl), (∀ d ∈ ps, PK Ls d) → acc.length + ps.length < 1000 → ∃ s2' s3' s4', forR (bTup 3 (bCons (bName 2) (bCons (bName 3) (bCons (bName 4) bNil)))) L_law_copied_0 ps [s0, .own acc, s2, s3, s4] = .next [s0, .own (acc ++ ps), s2', s3', s4']
  | [], acc, s2, s3, s4, _, _ => ⟨s2, s3, s4, by simp [forR]⟩
  | d :: ps, acc, s2, s3, s4, h, hl => by
    simp only [List.length_cons] at hl
    obtain ⟨a, lv, v, vs, rfl, k⟩ := h d List.mem_cons_self
    obtain ⟨t2, t3, t4, e⟩ := copied_run s0 Ls ps (acc ++ [.tup [.int (a : Int), .int (lv : Int), v]]) (.val (.int (a : Int))) (.val (.int (lv : Int))) (.val v) (fun d hd => h d (List.mem_cons_of_mem _ hd)) (by simp; omega)
    refine ⟨t2, t3, t4, ?_⟩
    have hz : acc.length < sizeLine := Nat.lt_of_lt_of_le (show acc.length < 100000 by omega) (by decide)
    have z3 : 3 ≤ sizeLine := by decide
    have hvz : vs.length ≤ sizeLine := Nat.le_trans k.len (by decide)
    rw [List.append_assoc] at e
    rcases k.v with rfl | rfl <;> simp [forR, L_law_copied_0, hz, z3, hvz] at e ⊢ <;> exact e
theorem copied_eq (Ls : List (Nat × List (List D))) (ps : List D) (h : ∀ d ∈ ps, PK Ls d) (hl : ps.length < 100) : F_law_copied [.val (.lst ps)] = some (.own ps) := by
  obtain ⟨a, b, c, e⟩ := copied_run (.val (.lst ps)) Ls ps [] .no .no .no h (by simp; omega)
  simp at e
  simp [F_law_copied, fnP, g_law_copied, e]
theorem ldD_ok {w : Nat} {ls : List (List D)} (h : LdOk w ls) : okD 11 (ldD ls) = true := by
  show (ls.map D.tup).all (okD 10) = true
  rw [List.all_map, List.all_eq_true]
  intro l hl
  obtain ⟨_, h2⟩ := h.ln l hl
  show l.all (okD 9) = true
  rw [List.all_eq_true]
  intro d hd
  rcases h2 d hd with ⟨i, rfl⟩ | ⟨x, rfl, _⟩ <;> rfl
theorem LD_ok {Ls : List (Nat × List (List D))} (h : ∀ p ∈ Ls, LdOk p.1 p.2) : okD 12 (LD Ls) = true := by
  show (Ls.map fun p => ldD p.2).all (okD 11) = true
  rw [List.all_map, List.all_eq_true]
  exact fun p hp => ldD_ok (h p hp)
theorem LD_eq {Ls : List (Nat × List (List D))} (h : ∀ p ∈ Ls, LdOk p.1 p.2) : eqO (LD Ls) (LD Ls) = some (.bl true) := by
  have h1 := LD_ok h
  have h2 := eqD_refl 12 (LD Ls) h1
  simp only [eqO, deep_eq, h1, h2, Bool.and_self, if_true]
theorem IsV.at {d : D} (h : IsV d) : ∃ a, d = aD a ∧ a ≠ .non := by
  rcases h with ⟨i, rfl⟩ | ⟨x, rfl, _⟩
  · exact ⟨.int i, rfl, fun z => by cases z⟩
  · exact ⟨.str x, rfl, fun z => by cases z⟩
theorem Vn.at {d : D} (h : Vn d) : ∃ a, d = aD a := by
  rcases h with rfl | h
  · exact ⟨.non, rfl⟩
  · obtain ⟨a, e, _⟩ := h.at; exact ⟨a, e⟩
theorem ats_of {P : At → Prop} : ∀ {l : List D}, (∀ d ∈ l, ∃ a, d = aD a ∧ P a) → ∃ m : List At, l = m.map aD ∧ ∀ a ∈ m, P a
  | [], _ => ⟨[], rfl, fun _ h => nomatch h⟩
  | d :: l, h => by
    obtain ⟨a, rfl, pa⟩ := h d List.mem_cons_self
    obtain ⟨m, rfl, pm⟩ := ats_of fun x hx => h x (List.mem_cons_of_mem _ hx)
    refine ⟨a :: m, rfl, fun x hx => ?_⟩
    rcases List.mem_cons.mp hx with rfl | hx
    · exact pa
    · exact pm x hx
structure LaOk (w : Nat) (la : List (List At)) : Prop where
  w0 : 0 < w
  w4 : w ≤ 4
  l0 : 0 < la.length
  l9 : la.length ≤ 40
  len : ∀ l ∈ la, l.length = w
  vs : ∀ l ∈ la, ∀ a ∈ l, a ≠ .non
  nd : (la.map hd0).Nodup
theorem lines_of {w : Nat} : ∀ {ls : List (List D)}, Lines w ls → ∃ la : List (List At), ls = la.map (fun l => l.map aD) ∧ (∀ l ∈ la, l.length = w) ∧ ∀ l ∈ la, ∀ a ∈ l, a ≠ .non
  | [], _ => ⟨[], rfl, fun _ h => (nomatch h), fun _ h => (nomatch h)⟩
  | l :: ls, h => by
    obtain ⟨h1, h2⟩ := h l List.mem_cons_self
    obtain ⟨m, rfl, hm⟩ := ats_of (P := fun a => a ≠ .non) fun d hd => (h2 d hd).at
    obtain ⟨la, rfl, a1, a2⟩ := lines_of fun x hx => h x (List.mem_cons_of_mem _ hx)
    refine ⟨m :: la, rfl, fun x hx => ?_, fun x hx => ?_⟩
    · rcases List.mem_cons.mp hx with rfl | hx
      · simpa using h1
      · exact a1 x hx
    · rcases List.mem_cons.mp hx with rfl | hx
      · exact hm
      · exact a2 x hx
theorem nodup_of_map {α β : Type} {f : α → β} {l : List α} (h : (l.map f).Nodup) : l.Nodup := by
  rw [List.nodup_iff_pairwise_ne, List.pairwise_map] at h
  exact List.nodup_iff_pairwise_ne.mpr (h.imp fun hne e => hne (by rw [e]))
theorem hdD_at (l : List At) : hdD (l.map aD) = aD (hd0 l) := by cases l <;> rfl
theorem LdOk.at {w : Nat} {ls : List (List D)} (h : LdOk w ls) : ∃ la : List (List At), ls = la.map (fun l => l.map aD) ∧ ldD ls = .lst (la.map lnD) ∧ LaOk w la := by
  obtain ⟨la, rfl, h1, h2⟩ := lines_of h.ln
  refine ⟨la, rfl, ?_, h.w0, h.w4, by simpa using h.l0, by simpa using h.l9, h1, h2, ?_⟩
  · unfold ldD; rw [List.map_map]; rfl
  · have := h.nd
    rw [List.map_map] at this
    have e : (hdD ∘ fun l => List.map aD l) = aD ∘ hd0 := funext fun l => hdD_at l
    rw [e, ← List.map_map] at this
    exact nodup_of_map this
structure AP where
  a : Nat
  lv : Nat
  tp : Bool
  vs : List At
def valsD (q : AP) : D := if q.tp then .tup (q.vs.map aD) else .lst (q.vs.map aD)
def pkD (q : AP) : D := .tup [.int (q.a : Int), .int (q.lv : Int), valsD q]
theorem PK.at {Ls : List (Nat × List (List D))} {d : D} (h : PK Ls d) : ∃ q : AP, d = pkD q ∧ q.vs.length ≤ 50 ∧ ∃ p, Ls[q.a]? = some p ∧ q.lv ≤ p.1 := by
  obtain ⟨a, lv, v, vs, rfl, k⟩ := h
  obtain ⟨m, rfl, _⟩ := ats_of (P := fun _ => True) fun d hd => (by obtain ⟨a, e⟩ := (k.vn d hd).at; exact ⟨a, e, trivial⟩)
  have hl := k.len
  rw [List.length_map] at hl
  rcases k.v with rfl | rfl
  · exact ⟨⟨a, lv, false, m⟩, rfl, hl, k.ax⟩
  · exact ⟨⟨a, lv, true, m⟩, rfl, hl, k.ax⟩
theorem picks_of {Ls : List (Nat × List (List D))} : ∀ {ps : List D}, (∀ d ∈ ps, PK Ls d) → ∃ qs : List AP, ps = qs.map pkD ∧ ∀ q ∈ qs, q.vs.length ≤ 50 ∧ ∃ p, Ls[q.a]? = some p ∧ q.lv ≤ p.1
  | [], _ => ⟨[], rfl, fun _ h => nomatch h⟩
  | d :: ps, h => by
    obtain ⟨q, rfl, h1⟩ := (h d List.mem_cons_self).at
    obtain ⟨qs, rfl, h2⟩ := picks_of fun x hx => h x (List.mem_cons_of_mem _ hx)
    refine ⟨q :: qs, rfl, fun x hx => ?_⟩
    rcases List.mem_cons.mp hx with rfl | hx
    · exact h1
    · exact h2 x hx
theorem in_atsT (a : At) (l : List At) : inD true (aD a) (.tup (l.map aD)) = some (.bl (!decide (a ∈ l))) := (in_ats a l).2
theorem in_vals (a : At) (q : AP) : inD true (aD a) (valsD q) = some (.bl (!decide (a ∈ q.vs))) := by
  unfold valsD
  cases q.tp
  · exact (in_ats a q.vs).2
  · exact in_atsT a q.vs
def askB (qs : List AP) (x : Nat) (l : List At) : Bool := qs.all fun q => if q.a = x then decide (l.getD q.lv .non ∈ q.vs) else true
def keep (x : Nat) : List AP → List (List At) → List (List At)
  | [], la => la
  | q :: qs, la => keep x qs (if q.a = x then la.filter (fun l => decide (l.getD q.lv .non ∈ q.vs)) else la)
theorem keep_eq (x : Nat) : ∀ (qs : List AP) (la : List (List At)), keep x qs la = la.filter (askB qs x)
  | [], la => by
    unfold keep
    rw [List.filter_eq_self.mpr]
    intro l _; rfl
  | q :: qs, la => by
    unfold keep
    rw [keep_eq x qs]
    by_cases h : q.a = x
    · rw [if_pos h, List.filter_filter]
      refine List.filter_congr fun l _ => ?_
      unfold askB
      rw [List.all_cons, if_pos h, Bool.and_comm]
    · rw [if_neg h]
      refine List.filter_congr fun l _ => ?_
      unfold askB
      rw [List.all_cons, if_neg h, Bool.true_and]
theorem picked_run (s0 s1 : Sl) (x : Nat) : ∀ (qs : List AP) (la : List (List At)) (s4 s5 : Sl), (∀ q ∈ qs, q.vs.length ≤ 50) → la.length ≤ 1000 → (∀ l ∈ la, l.length ≤ 4) →
    ∃ s4' s5', forR (bName 4) L_picked_0 (qs.map pkD) [s0, s1, .val (.int (x : Int)), .val (.lst (la.map lnD)), s4, s5] = .next [s0, s1, .val (.int (x : Int)), .val (.lst ((keep x qs la).map lnD)), s4', s5']
  | [], la, s4, s5, _, _, _ => ⟨s4, s5, rfl⟩
  | q :: qs, la, s4, s5, hq, hl, h4 => by
    have hq1 := hq q List.mem_cons_self
    have i0 : ixD (pkD q) (.int 0) = some (.int (q.a : Int)) := rfl
    have i1 : ixD (pkD q) (.int 1) = some (.int (q.lv : Int)) := rfl
    have i2 : ixD (pkD q) (.int 2) = some (valsD q) := rfl
    have hsi : seqItems (valsD q) = some (q.vs.map aD) := by unfold valsD; cases q.tp <;> rfl
    have q1 : shortO (some (q.vs.map aD)) = some (q.vs.map aD) := short_le _ (by simp; omega)
    have q2 : shortO (some (la.map lnD)) = some (la.map lnD) := short_le _ (by simp; omega)
    have e0 : eqO (.int (q.a : Int)) (.int (x : Int)) = some (.bl (decide (q.a = x))) := by simp; omega
    simp only [List.map_cons, forR, bName, List.set_cons_succ, List.set_cons_zero]
    by_cases hx : q.a = x
    · rw [decide_eq_true hx] at e0
      have hc := compL_map (b := bName 0) (e := C_picked_0) (ρ := [.no]) aD (fun a => .tup [aD a, .bl true]) q.vs fun a _ => ⟨[.val (aD a)], rfl, by
        have hsh : shortO (some [aD a, .bl true]) = some [aD a, .bl true] := short_le _ (by simp)
        simp only [C_picked_0, consO, valO, vals, rdV, List.getElem?_cons_zero, Option.bind, Option.map, hsh]⟩
      have hf := foldPut_at (q.vs.map fun a => (a, D.bl true)) [] (fun _ h => nomatch h) (by simp; omega)
      rw [List.map_map] at hf
      have hd : ∀ a, dinD false (aD a) (.lst (flatD (mkD [] (q.vs.map fun a => (a, D.bl true)))) true) = some (.bl (decide (a ∈ q.vs))) := fun a => by
        rw [mkD_din, List.map_map]
        have : ((fun x : At × D => x.1) ∘ fun a => (a, D.bl true)) = fun a : At => a := rfl
        rw [this, List.map_id']
        cases decide (a ∈ q.vs) <;> rfl
      have e1 : (q.vs.map fun a => D.tup [aD a, .bl true]) = q.vs.map ((fun p => D.tup [aD p.1, p.2]) ∘ fun a => (a, D.bl true)) := rfl
      rw [e1] at hc
      generalize mkD [] (q.vs.map fun a => (a, D.bl true)) = KV at *
      generalize q.vs.map ((fun p => D.tup [aD p.1, p.2]) ∘ fun a => (a, D.bl true)) = PS at *
      have hc2 := compL_filter (b := bName 0) (t := B_picked_0) (e := C_picked_1) (ρ := [.no, .val (pkD q), .lent (flatD KV) true]) lnD lnD (fun l => decide (l.getD q.lv .non ∈ q.vs)) la fun l hm => ⟨[.val (lnD l), .val (pkD q), .lent (flatD KV) true], rfl, by
        have h1 := line_at_eq l q.lv (by have := h4 l hm; omega)
        have h2 := hd (l.getD q.lv .non)
        simp only [B_picked_0, callO, consO, valO, rdA, rdP, bin2, asB, List.getElem?_cons_succ, List.getElem?_cons_zero, Option.bind, Option.map, i1, h1, rvD_v, h2], rfl⟩
      obtain ⟨a, b, e⟩ := picked_run s0 s1 x qs (la.filter (fun l => decide (l.getD q.lv .non ∈ q.vs))) (.val (pkD q)) (.own (flatD KV) true) (fun y hy => hq y (List.mem_cons_of_mem _ hy)) (Nat.le_trans (List.length_filter_le _ _) hl) (fun l hm => h4 l (List.mem_filter.mp hm).1)
      refine ⟨a, b, ?_⟩
      have hb : L_picked_0 [s0, s1, .val (.int (x : Int)), .val (.lst (la.map lnD)), .val (pkD q), s5] = .next [s0, s1, .val (.int (x : Int)), .val (.lst ((la.filter (fun l => decide (l.getD q.lv .non ∈ q.vs))).map lnD)), .val (pkD q), .own (flatD KV) true] := by
        generalize (la.filter (fun l => decide (l.getD q.lv .non ∈ q.vs))).map lnD = L2 at *
        generalize la.map lnD = L at *
        generalize q.vs.map aD = VS at *
        generalize pkD q = PQ at *
        have hin1 : ∀ ρ : VE, compIn 1 [] ρ = [.no] := fun _ => rfl
        have hsl : seqItems (.lst L) = some L := rfl
        have hin2 : compIn 1 [4, 5] [s0, s1, .val (.int (x : Int)), .val (.lst L), .val PQ, .own (flatD KV) true] = [.no, .val PQ, .lent (flatD KV) true] := rfl
        simp only [L_picked_0, seqR, iteR, asB, bin2, rdP, rdQ, setR, setRG, dictF, lstO, compF, hin1, hin2, List.getElem?_cons_succ, List.getElem?_cons_zero, List.set_cons_succ, List.set_cons_zero, Option.bind, Option.map, i0, e0, i2, hsi, q1, hc, hf, hsl, q2, hc2]
      rw [hb]
      unfold keep
      rw [if_pos hx]
      exact e
    · rw [decide_eq_false hx] at e0
      obtain ⟨a, b, e⟩ := picked_run s0 s1 x qs la (.val (pkD q)) s5 (fun y hy => hq y (List.mem_cons_of_mem _ hy)) hl h4
      refine ⟨a, b, ?_⟩
      have hb : L_picked_0 [s0, s1, .val (.int (x : Int)), .val (.lst (la.map lnD)), .val (pkD q), s5] = .next [s0, s1, .val (.int (x : Int)), .val (.lst (la.map lnD)), .val (pkD q), s5] := by
        generalize la.map lnD = L at *
        generalize pkD q = PQ at *
        simp only [L_picked_0, seqR, iteR, asB, bin2, rdP, List.getElem?_cons_succ, List.getElem?_cons_zero, Option.bind, i0, e0]
      rw [hb]
      unfold keep
      rw [if_neg hx]
      exact e
theorem picked_eq (L : D) (qs : List AP) (x w : Nat) (la : List (List At)) (hL : ixD L (.int (x : Int)) = some (.lst (la.map lnD))) (h : LaOk w la) (hq : ∀ q ∈ qs, q.vs.length ≤ 50) : F_picked [.val L, .val (.lst (qs.map pkD)), .val (.int (x : Int))] = some (.own ((srtG ltA ((la.filter (askB qs x)).map hd0)).map aD)) := by
  have h9 := h.l9
  have hw := h.w0
  obtain ⟨a, b, e⟩ := picked_run (.val L) (.val (.lst (qs.map pkD))) x qs la .no .no hq (by omega) (fun l hl => by rw [h.len l hl]; exact h.w4)
  rw [keep_eq] at e
  have hfl := List.length_filter_le (askB qs x) la
  have hc := compL_map (b := bName 0) (e := C_picked_2) (ρ := [.no]) lnD (fun l => aD (hd0 l)) (la.filter (askB qs x)) fun l hm => ⟨[.val (lnD l)], rfl, by
    have h1 := hd_at l (by have := h.len l (List.mem_filter.mp hm).1; rintro rfl; simp at this; omega)
    simp only [C_picked_2, rdP, bin2, List.getElem?_cons_zero, Option.bind, h1]⟩
  rw [show ((la.filter (askB qs x)).map fun l => aD (hd0 l)) = ((la.filter (askB qs x)).map hd0).map aD by rw [List.map_map]; rfl] at hc
  have hv := values_in_order_eq (.val (.lst (((la.filter (askB qs x)).map hd0).map aD))) ((la.filter (askB qs x)).map hd0) (.inl rfl) (by rw [List.length_map]; omega)
  rw [ded_srt (List.Nodup.sublist (List.filter_sublist.map _) h.nd)] at hv
  have q1 : shortO (some ((la.filter (askB qs x)).map lnD)) = some ((la.filter (askB qs x)).map lnD) := short_le _ (by rw [List.length_map]; omega)
  generalize (srtG ltA ((la.filter (askB qs x)).map hd0)).map aD = W at *
  generalize ((la.filter (askB qs x)).map hd0).map aD = HS at *
  generalize (la.filter (askB qs x)).map lnD = L2 at *
  generalize la.map lnD = L1 at *
  generalize qs.map pkD = PP at *
  refine fn_ret rfl ?_
  show g_picked [.val L, .val (.lst PP), .val (.int (x : Int)), .no, .no, .no] = _
  have hin : ∀ ρ : VE, compIn 1 [] ρ = [.no] := fun _ => rfl
  simp only [g_picked, seqR, setR, forO, retF, bin2, rdP, rdQ, seqItems, callF, consO, valO, lstO, compF, hin, List.getElem?_cons_succ, List.getElem?_cons_zero, List.set_cons_succ, List.set_cons_zero, Option.bind, Option.map, hL, e, q1, hc, hv, rvF]
theorem law_at_eq (l : List At) (j : Nat) (hj : j ≤ l.length) : F_law_at [.val (lnD l), .val (.int (j : Int))] = some (.val (aD (l.getD j .non))) := by
  have hlen : lenD [lnD l] = some (.int (l.length : Int)) := by simp [lnD]
  by_cases h : j = l.length
  · have e : l.getD j .non = .non := by simp [List.getD, List.getElem?_eq_none (show l.length ≤ j by omega)]
    rw [e]
    simp [F_law_at, fnP, g_law_at, -ixD, -lenD, hlen, h, aD]
  · have : ixD (lnD l) (.int (j : Int)) = some (aD (l.getD j .non)) := by
      show atI (l.map aD) (j : Int) = _
      exact atI_nat (by simp [List.getElem?_eq_getElem (show j < l.length by omega), List.getD])
    have h' : ¬ (j : Int) = (l.length : Int) := by omega
    simp [F_law_at, fnP, g_law_at, -ixD, -lenD, hlen, this, h']
theorem asked_run (l : List At) (s1 : Sl) (x : Nat) : ∀ (qs : List AP) (s3 s4 s5 : Sl), (∀ q ∈ qs, q.a = x → q.lv ≤ l.length) →
    (∃ s3' s4' s5', askB qs x l = true ∧ forR (bTup 3 (bCons (bName 3) (bCons (bName 4) (bCons (bName 5) bNil)))) L_law_asked_0 (qs.map pkD) [.val (lnD l), s1, .val (.int (x : Int)), s3, s4, s5] = .next [.val (lnD l), s1, .val (.int (x : Int)), s3', s4', s5']) ∨
    (askB qs x l = false ∧ forR (bTup 3 (bCons (bName 3) (bCons (bName 4) (bCons (bName 5) bNil)))) L_law_asked_0 (qs.map pkD) [.val (lnD l), s1, .val (.int (x : Int)), s3, s4, s5] = .ret (.val (.bl false)))
  | [], s3, s4, s5, _ => .inl ⟨s3, s4, s5, rfl, rfl⟩
  | q :: qs, s3, s4, s5, hq => by
    have e0 : eqO (.int (q.a : Int)) (.int (x : Int)) = some (.bl (decide (q.a = x))) := by simp; omega
    have hb : bTup 3 (bCons (bName 3) (bCons (bName 4) (bCons (bName 5) bNil))) (pkD q) [.val (lnD l), s1, .val (.int (x : Int)), s3, s4, s5] = some [.val (lnD l), s1, .val (.int (x : Int)), .val (.int (q.a : Int)), .val (.int (q.lv : Int)), .val (valsD q)] := rfl
    have ih := asked_run l s1 x qs (.val (.int (q.a : Int))) (.val (.int (q.lv : Int))) (.val (valsD q)) fun y hy => hq y (List.mem_cons_of_mem _ hy)
    simp only [List.map_cons, forR, hb]
    by_cases hx : q.a = x
    · rw [decide_eq_true hx] at e0
      have h1 := law_at_eq l q.lv (hq q List.mem_cons_self hx)
      have h2 := in_vals (l.getD q.lv .non) q
      by_cases hm : l.getD q.lv .non ∈ q.vs
      · rw [decide_eq_true hm] at h2
        have e1 : L_law_asked_0 [.val (lnD l), s1, .val (.int (x : Int)), .val (.int (q.a : Int)), .val (.int (q.lv : Int)), .val (valsD q)] = .next [.val (lnD l), s1, .val (.int (x : Int)), .val (.int (q.a : Int)), .val (.int (q.lv : Int)), .val (valsD q)] := by
          simp only [L_law_asked_0, seqR, iteR, andO, asB, bin2, rdP, rdA, callO, consO, List.getElem?_cons_succ, List.getElem?_cons_zero, Option.bind, Option.map, e0, h1, rvD_v, h2, Bool.not_true]
        rw [e1]
        have hk : askB (q :: qs) x l = askB qs x l := by unfold askB; rw [List.all_cons, if_pos hx, decide_eq_true hm, Bool.true_and]
        rw [hk]
        exact ih
      · rw [decide_eq_false hm] at h2
        have e1 : L_law_asked_0 [.val (lnD l), s1, .val (.int (x : Int)), .val (.int (q.a : Int)), .val (.int (q.lv : Int)), .val (valsD q)] = .ret (.val (.bl false)) := by
          simp only [L_law_asked_0, seqR, iteR, andO, asB, bin2, rdP, rdA, callO, consO, retO, List.getElem?_cons_succ, List.getElem?_cons_zero, Option.bind, Option.map, e0, h1, rvD_v, h2, Bool.not_false]
        rw [e1]
        exact .inr ⟨by unfold askB; rw [List.all_cons, if_pos hx, decide_eq_false hm, Bool.false_and], rfl⟩
    · rw [decide_eq_false hx] at e0
      have e1 : L_law_asked_0 [.val (lnD l), s1, .val (.int (x : Int)), .val (.int (q.a : Int)), .val (.int (q.lv : Int)), .val (valsD q)] = .next [.val (lnD l), s1, .val (.int (x : Int)), .val (.int (q.a : Int)), .val (.int (q.lv : Int)), .val (valsD q)] := by
        simp only [L_law_asked_0, seqR, iteR, andO, asB, bin2, rdP, List.getElem?_cons_succ, List.getElem?_cons_zero, Option.bind, e0]
      rw [e1]
      have hk : askB (q :: qs) x l = askB qs x l := by unfold askB; rw [List.all_cons, if_neg hx, Bool.true_and]
      rw [hk]
      exact ih
theorem asked_eq (l : List At) (x : Nat) (qs : List AP) (hq : ∀ q ∈ qs, q.a = x → q.lv ≤ l.length) : F_law_asked [.val (lnD l), .val (.lst (qs.map pkD)), .val (.int (x : Int))] = some (.val (.bl (askB qs x l))) := by
  have h := asked_run l (.val (.lst (qs.map pkD))) x qs .no .no .no hq
  refine fn_ret rfl ?_
  show g_law_asked [.val (lnD l), .val (.lst (qs.map pkD)), .val (.int (x : Int)), .no, .no, .no] = _
  generalize qs.map pkD = P at *
  rcases h with ⟨a, b, c, e1, e2⟩ | ⟨e1, e2⟩
  · rw [e1]
    simp only [g_law_asked, seqR, forO, rdQ, seqItems, retO, List.getElem?_cons_succ, List.getElem?_cons_zero, Option.bind, e2]
  · rw [e1]
    simp only [g_law_asked, seqR, forO, rdQ, seqItems, retO, List.getElem?_cons_succ, List.getElem?_cons_zero, Option.bind, e2]
theorem ahead_eq (a b : At) (ha : a ≠ .non) (hb : b ≠ .non) : F_law_ahead [.val (aD a), .val (aD b)] = some (.val (.bl (ltA a b))) := by
  cases a with
  | non => exact absurd rfl ha
  | int i => cases b with
    | non => exact absurd rfl hb
    | int j => simp [F_law_ahead, fnP, g_law_ahead, aD, ltA]
    | str y => simp [F_law_ahead, fnP, g_law_ahead, aD, ltA]
  | str x => cases b with
    | non => exact absurd rfl hb
    | int j => simp [F_law_ahead, fnP, g_law_ahead, aD, ltA]
    | str y => simp [F_law_ahead, fnP, g_law_ahead, aD, ltA]
theorem good_run (s : Sl) (fs es : List At) (hs : s = .val (.lst (fs.map aD)) ∨ s = .lent (fs.map aD)) (s1 s2 s3 : Sl) (hp : fs.Pairwise fun a b => ltA a b = true) (hm : ∀ a ∈ fs, a ∈ es) (hn : ∀ a ∈ fs, a ≠ .non) : ∀ (ks : List Nat) (s5 : Sl), (∀ k ∈ ks, k < fs.length) → ∃ s5', forR (bName 5) L_law_good_0 (ks.map fun (k : Nat) => D.int (k : Int)) [s, s1, s2, s3, .val (.lst (es.map aD)), s5] = .next [s, s1, s2, s3, .val (.lst (es.map aD)), s5']
  | [], s5, _ => ⟨s5, rfl⟩
  | k :: ks, s5, hk => by
    have hk1 := hk k List.mem_cons_self
    obtain ⟨s5', e⟩ := good_run s fs es hs s1 s2 s3 hp hm hn ks (.val (.int (k : Int))) fun i hi => hk i (List.mem_cons_of_mem _ hi)
    refine ⟨s5', ?_⟩
    have hmk := List.getElem_mem hk1
    have x1 : ixD (.lst (fs.map aD)) (.int (k : Int)) = some (aD fs[k]) := atI_nat (by simp [hk1])
    have x2 : isD [aD fs[k], .tup [.ty "int", .ty "str"]] = some (.bl true) := by
      have := hn _ hmk
      cases hf : fs[k] with
      | non => exact absurd hf this
      | int i => simp [aD, tysOf]
      | str y => simp [aD, tysOf]
    have x3 := (in_ats fs[k] es).2
    rw [decide_eq_true (hm _ hmk)] at x3
    have hsh : shortO (some [D.ty "int", .ty "str"]) = some [D.ty "int", .ty "str"] := short_le _ (by simp)
    have hv : vals [Sl.val (.ty "int"), Sl.val (.ty "str")] = some [D.ty "int", .ty "str"] := rfl
    have hb : L_law_good_0 [s, s1, s2, s3, .val (.lst (es.map aD)), .val (.int (k : Int))] = .next [s, s1, s2, s3, .val (.lst (es.map aD)), .val (.int (k : Int))] := by
      by_cases h0 : 0 < k
      · have g : gtD (.int (k : Int)) (.int 0) = some (.bl true) := by show some (D.bl (decide (0 < (k : Int)))) = _; rw [decide_eq_true (by omega)]
        have x4 : ixD (.lst (fs.map aD)) (.int ((k : Int) - 1)) = some (aD (fs[k - 1]'(by omega))) := by
          show atI (fs.map aD) ((k : Int) - 1) = _
          rw [show ((k : Int) - 1) = ((k - 1 : Nat) : Int) by omega]
          exact atI_nat (by simp [show k - 1 < fs.length by omega])
        have x5 := ahead_eq (fs[k - 1]'(by omega)) fs[k] (hn _ (List.getElem_mem _)) (hn _ hmk)
        rw [List.pairwise_iff_getElem.mp hp (k - 1) k (by omega) hk1 (by omega)] at x5
        have a1 : subD (.int (k : Int)) (.int 1) = some (.int ((k : Int) - 1)) := rfl
        generalize aD (fs[k - 1]'(by omega)) = A0 at *
        generalize aD fs[k] = A1 at *
        generalize fs.map aD = F at *
        generalize es.map aD = G at *
        rcases hs with rfl | rfl <;> simp only [L_law_good_0, seqR, iteR, orB, andO, notO, asB, truD, bin2, rdP, rdA, callO, consO, valO, bltO, pks, pk, List.getElem?_cons_succ, List.getElem?_cons_zero, Option.bind, Option.map, x1, hv, hsh, x2, x3, g, a1, x4, x5, rvD_v, Bool.not_true]
      · have g : gtD (.int (k : Int)) (.int 0) = some (.bl false) := by show some (D.bl (decide (0 < (k : Int)))) = _; rw [decide_eq_false (by omega)]
        generalize aD fs[k] = A1 at *
        generalize fs.map aD = F at *
        generalize es.map aD = G at *
        rcases hs with rfl | rfl <;> simp only [L_law_good_0, seqR, iteR, orB, andO, notO, asB, truD, bin2, rdP, rdA, callO, consO, valO, bltO, pks, pk, List.getElem?_cons_succ, List.getElem?_cons_zero, Option.bind, Option.map, x1, hv, hsh, x2, x3, g, Bool.not_true]
    simp only [List.map_cons, forR, bName, List.set_cons_succ, List.set_cons_zero]
    rw [hb]
    exact e
theorem good_eq (s : Sl) (w x : Nat) (la : List (List At)) (h : LaOk w la) (qs : List AP) (hq : ∀ q ∈ qs, q.a = x → q.lv ≤ w) (hs : s = .val (.lst ((srtG ltA ((la.filter (askB qs x)).map hd0)).map aD)) ∨ s = .lent ((srtG ltA ((la.filter (askB qs x)).map hd0)).map aD)) :
    F_law_good [s, .val (.lst (la.map lnD)), .val (.lst (qs.map pkD)), .val (.int (x : Int))] = some (.val (.bl true)) := by
  have h9 := h.l9
  have hw := h.w0
  have hfl := List.length_filter_le (askB qs x) la
  have q1 : shortO (some (la.map lnD)) = some (la.map lnD) := short_le _ (by simp; omega)
  have hc := compL_filter (b := bName 0) (t := B_law_good_0) (e := C_law_good_0) (ρ := [.no, .val (.lst (qs.map pkD)), .val (.int (x : Int))]) lnD (fun l => aD (hd0 l)) (askB qs x) la fun l hm => ⟨[.val (lnD l), .val (.lst (qs.map pkD)), .val (.int (x : Int))], rfl, by
    have h1 := asked_eq l x qs (fun q hq' ha => by rw [h.len l hm]; exact hq q hq' ha)
    simp only [B_law_good_0, callO, consO, rdA, truD, List.getElem?_cons_succ, List.getElem?_cons_zero, Option.bind, Option.map, h1, rvD_v], by
    have h1 := hd_at l (by have := h.len l hm; rintro rfl; simp at this; omega)
    simp only [C_law_good_0, rdP, bin2, List.getElem?_cons_zero, Option.bind, h1]⟩
  rw [show ((la.filter (askB qs x)).map fun l => aD (hd0 l)) = ((la.filter (askB qs x)).map hd0).map aD by rw [List.map_map]; rfl] at hc
  have hpm := srtG_perm ltA ((la.filter (askB qs x)).map hd0)
  have hst := (ded_strict TO_A _ none (srtG_pair TO_A ((la.filter (askB qs x)).map hd0)) fun _ hq => nomatch hq).1
  rw [ded_srt (List.Nodup.sublist (List.filter_sublist.map _) h.nd)] at hst
  have hnn : ∀ a ∈ (la.filter (askB qs x)).map hd0, a ≠ .non := fun a ha => by
    obtain ⟨l, hl, rfl⟩ := List.mem_map.mp ha
    have hm := (List.mem_filter.mp hl).1
    refine h.vs l hm _ ?_
    have hll := h.len l hm
    cases l with
    | nil => simp at hll; omega
    | cons b r => exact List.mem_cons_self
  have hel : ((la.filter (askB qs x)).map hd0).length ≤ 40 := by rw [List.length_map]; omega
  have hfe := hpm.length_eq
  have hmem : ∀ a ∈ srtG ltA ((la.filter (askB qs x)).map hd0), a ∈ (la.filter (askB qs x)).map hd0 := fun a ha => hpm.subset ha
  generalize srtG ltA ((la.filter (askB qs x)).map hd0) = FS at *
  generalize (la.filter (askB qs x)).map hd0 = ES at *
  obtain ⟨s5, er⟩ := good_run s FS ES hs (.val (.lst (la.map lnD))) (.val (.lst (qs.map pkD))) (.val (.int (x : Int))) hst hmem (fun a ha => hnn a (hmem a ha)) (List.range FS.length) .no fun k hk => List.mem_range.mp hk
  have hr := rng1_nat FS.length (by omega)
  have f1 : isD [.lst (FS.map aD), .ty "list"] = some (.bl true) := by simp
  have f2 : lenD [.lst (FS.map aD)] = some (.int (FS.length : Int)) := by simp
  have f3 : lenD [.lst (ES.map aD)] = some (.int (FS.length : Int)) := by simp [hfe]
  have f4 : neO (.int (FS.length : Int)) (.int (FS.length : Int)) = some (.bl false) := by simp
  have hv : vals [Sl.val (.int (FS.length : Int))] = some [.int (FS.length : Int)] := rfl
  have hin : compIn 1 [2, 3] [s, .val (.lst (la.map lnD)), .val (.lst (qs.map pkD)), .val (.int (x : Int)), .no, .no] = [.no, .val (.lst (qs.map pkD)), .val (.int (x : Int))] := rfl
  refine fn_ret rfl ?_
  show S_law_good_0 [s, .val (.lst (la.map lnD)), .val (.lst (qs.map pkD)), .val (.int (x : Int)), .no, .no] = _
  generalize (List.range FS.length).map (fun (k : Nat) => D.int (k : Int)) = RR at *
  generalize FS.map aD = F at *
  generalize ES.map aD = G at *
  generalize (FS.length : Int) = N at *
  generalize la.map lnD = L at *
  generalize qs.map pkD = P at *
  rcases hs with rfl | rfl <;> simp only [S_law_good_0, P_law_good_0, S_law_good_1, P_law_good_1, S_law_good_2, P_law_good_2, S_law_good_3, P_law_good_3, seqR, iteR, setR, forO, retO, orB, notO, asB, truD, bin2, rdP, rdQ, rdA, seqItems, lstO, bltO, consO, valO, pks, pk, compF, hin, List.getElem?_cons_succ, List.getElem?_cons_zero, List.set_cons_succ, List.set_cons_zero, Option.bind, Option.map, q1, hc, f1, f2, f3, f4, hv, hr, er, Bool.not_true]
theorem axis_turn (s0 s1 s6 s8 : Sl) (Ls : List (Nat × List (List D))) (hLs : ∀ p ∈ Ls, LdOk p.1 p.2) (qs : List AP) (hq : ∀ q ∈ qs, q.vs.length ≤ 50 ∧ ∃ p, Ls[q.a]? = some p ∧ q.lv ≤ p.1) (x : Nat) (hx : x < Ls.length) :
    ∃ s8', L_law_0 [s0, s1, .val (LD Ls), .val (LD Ls), .val (.lst (qs.map pkD)), .val (.lst (qs.map pkD)), s6, .val (.int (x : Int)), s8] = .next [s0, s1, .val (LD Ls), .val (LD Ls), .val (.lst (qs.map pkD)), .val (.lst (qs.map pkD)), s6, .val (.int (x : Int)), s8'] := by
  obtain ⟨la, _, hld, hla⟩ := (hLs _ (List.getElem_mem hx)).at
  have hix : ixD (LD Ls) (.int (x : Int)) = some (.lst (la.map lnD)) := by
    show atI (Ls.map fun p => ldD p.2) (x : Int) = _
    rw [← hld]
    exact atI_nat (by simp [hx])
  have hlv : ∀ q ∈ qs, q.a = x → q.lv ≤ Ls[x].1 := fun q hm e => by
    obtain ⟨_, p, hp, hl⟩ := hq q hm
    rw [e, List.getElem?_eq_getElem hx] at hp
    cases hp
    exact hl
  have hpk := picked_eq (LD Ls) qs x Ls[x].1 la hix hla fun q hm => (hq q hm).1
  have hg1 := good_eq (.lent ((srtG ltA ((la.filter (askB qs x)).map hd0)).map aD)) Ls[x].1 x la hla qs hlv (.inr rfl)
  have hg2 := good_eq (.val (.lst ((srtG ltA ((la.filter (askB qs x)).map hd0)).map aD))) Ls[x].1 x la hla qs hlv (.inl rfl)
  have hwl : ((srtG ltA ((la.filter (askB qs x)).map hd0)).map aD).length ≤ 40 := by
    rw [List.length_map, (srtG_perm ltA _).length_eq, List.length_map]
    exact Nat.le_trans (List.length_filter_le _ _) hla.l9
  generalize (srtG ltA ((la.filter (askB qs x)).map hd0)).map aD = W at *
  have hz : W.length < sizeLine := Nat.lt_of_lt_of_le (show W.length < 100 by omega) (by decide)
  refine ⟨.own (W ++ [.str "a"]), ?_⟩
  generalize la.map lnD = LX at *
  generalize qs.map pkD = P at *
  generalize LD Ls = L at *
  simp only [L_law_0, seqR, iteR, setRF, appR, notO, truD, bin2, rdP, rdA, rdO, callO, callF, consO, valO, List.getElem?_cons_succ, List.getElem?_cons_zero, List.set_cons_succ, List.set_cons_zero, Option.bind, Option.map, hpk, rvF, hix, hg1, rvD_v, rvD_o, hz, if_true, hg2, Bool.not_true]
theorem axes_run (s0 s1 s6 : Sl) (Ls : List (Nat × List (List D))) (hLs : ∀ p ∈ Ls, LdOk p.1 p.2) (qs : List AP) (hq : ∀ q ∈ qs, q.vs.length ≤ 50 ∧ ∃ p, Ls[q.a]? = some p ∧ q.lv ≤ p.1) : ∀ (xs : List Nat) (s7 s8 : Sl), (∀ x ∈ xs, x < Ls.length) →
    ∃ s7' s8', forR (bName 7) L_law_0 (xs.map fun (k : Nat) => D.int (k : Int)) [s0, s1, .val (LD Ls), .val (LD Ls), .val (.lst (qs.map pkD)), .val (.lst (qs.map pkD)), s6, s7, s8] = .next [s0, s1, .val (LD Ls), .val (LD Ls), .val (.lst (qs.map pkD)), .val (.lst (qs.map pkD)), s6, s7', s8']
  | [], s7, s8, _ => ⟨s7, s8, rfl⟩
  | x :: xs, s7, s8, h => by
    obtain ⟨a, e⟩ := axis_turn s0 s1 s6 s8 Ls hLs qs hq x (h x List.mem_cons_self)
    obtain ⟨b, c, e2⟩ := axes_run s0 s1 s6 Ls hLs qs hq xs (.val (.int (x : Int))) a fun y hy => h y (List.mem_cons_of_mem _ hy)
    refine ⟨b, c, ?_⟩
    simp only [List.map_cons, forR, bName, List.set_cons_succ, List.set_cons_zero]
    rw [e]
    exact e2
theorem law_true (ns : List Int) (hl : ns.length ≤ 63) : F_law [.val (.lst (ns.map D.int))] = some (.val (.bl true)) := by
  have h0 : F_law_cell_at [.val (.lst (ns.map D.int)), .val (.int 0)] = some (.val (.int (ns.getD 0 0))) := cell_at_eq _ ns (.inl rfl) 0 (by omega)
  generalize ns.getD 0 0 = c0 at h0
  obtain ⟨ws, hs, hwl, _⟩ := stream_eq c0 3 (by omega)
  obtain ⟨y0, y1, y2, rfl⟩ := three hwl
  have hs : F_law_stream [.val (.int c0), .val (.int 3)] = some (.val (.lst [.int y0, .int y1, .int y2])) := hs
  obtain ⟨Ls, hL, L0, L3, hLs⟩ := ladders_eq c0
  have hz : Ls.length ≤ sizeLine := Nat.le_trans L3 (by decide)
  have hk : compL (bName 0) (fun _ => some true) C_law_0 [.no] (Ls.map fun p => ldD p.2) = some (Ls.map fun p => ldD p.2) :=
    compL_map (b := bName 0) (e := C_law_0) (ρ := [.no]) (fun p : Nat × List (List D) => ldD p.2) (fun p => ldD p.2) Ls fun p hp => ⟨[.val (ldD p.2)], rfl, by
      have : p.2.length ≤ sizeLine := Nat.le_trans (hLs p hp).l9 (by decide)
      simp [C_law_0, ldD, this]⟩
  have hcut : slD (.lst (ns.map D.int)) (some 1) (some 9) = some (.lst (((ns.drop 1).take 8).map D.int)) := by
    show some (D.lst (cutD (ns.map D.int) (some 1) (some 9))) = _
    rw [cutD_map, cut_mid _ _ _ (by omega) (by omega)]; rfl
  obtain ⟨m, hm, hm3⟩ : ∃ m : Nat, y2 % 3 = (m : Int) ∧ m < 3 := ⟨(y2 % 3).toNat, by omega, by omega⟩
  obtain ⟨vs, hvs, hvl, _⟩ := stream_eq y1 m (by omega)
  have ad := addD_lst (((ns.drop 1).take 8).map D.int) (vs.map D.int) (by simp; omega)
  obtain ⟨ps, hpc, hpl, hps⟩ := comp_gen (e := C_law_1) (b := bName 0) (ρ := [.no, .val (LD Ls)]) (P := PK Ls) (((ns.drop 1).take 8).map D.int ++ vs.map D.int) (fun d hd => by
    obtain ⟨i, rfl⟩ : ∃ i, d = .int i := by
      rcases List.mem_append.mp hd with hd | hd
      · obtain ⟨i, _, rfl⟩ := List.mem_map.mp hd; exact ⟨i, rfl⟩
      · obtain ⟨i, _, rfl⟩ := List.mem_map.mp hd; exact ⟨i, rfl⟩
    obtain ⟨a, lv, v, vs, e, k⟩ := pick_eq Ls hLs L0 L3 i
    refine ⟨[.val (.int i), .val (LD Ls)], .tup [.int (a : Int), .int (lv : Int), v], rfl, ?_, a, lv, v, vs, rfl, k⟩
    generalize LD Ls = L at *
    simp [C_law_1, e])
  have hpl' : ps.length ≤ 10 := by rw [hpl]; simp; omega
  have hIz : (((ns.drop 1).take 8).map D.int ++ vs.map D.int).length ≤ sizeLine := Nat.le_trans (show _ ≤ 10 by simp; omega) (by decide)
  have hgood := is_picks_eq (LD Ls) ps (fun _ => true) (by omega) (fun d hd => (hps d hd).good hLs)
  have hall : ps.all (fun _ => true) = true := by simp
  rw [hall] at hgood
  have hcp := copied_eq Ls ps hps (by omega)
  have hle := LD_eq hLs
  have hpe : eqO (.lst ps) (.lst ps) = some (.bl true) := by
    have h1 : okD 12 (.lst ps) = true := by
      show ps.all (okD 11) = true
      rw [List.all_eq_true]; exact fun d hd => (hps d hd).ok
    have h2 := eqD_refl 12 (.lst ps) h1
    simp only [eqO, deep_eq, h1, h2, Bool.and_self, if_true]
  obtain ⟨qs, eq, hq⟩ := picks_of hps
  have hisb : isD [.bl true, .ty "bool"] = some (.bl true) := by simp
  have hqi : seqItems (LD Ls) = some (Ls.map fun p => ldD p.2) := rfl
  have hLD : D.lst (Ls.map fun p => ldD p.2) = LD Ls := rfl
  have hLl : (Ls.map fun p => ldD p.2).length ≤ sizeLine := by simpa using hz
  have hr := rng1_nat Ls.length (by omega)
  have hlL : lenD [LD Ls] = some (.int (Ls.length : Int)) := by simp [LD]
  have hv : vals [Sl.val (.int (Ls.length : Int))] = some [.int (Ls.length : Int)] := rfl
  obtain ⟨s7, s8, ht⟩ := axes_run (.val (.lst (ns.map D.int))) (.val (.lst [.int y0, .int y1, .int y2])) (.val (.bl true)) Ls hLs qs hq (List.range Ls.length) .no .no fun x hx => List.mem_range.mp hx
  rw [← eq] at ht
  generalize (List.range Ls.length).map (fun (k : Nat) => D.int (k : Int)) = RR at *
  generalize ((ns.drop 1).take 8).map D.int = T at *
  have hci : seqItems (.lst (T ++ vs.map D.int)) = some (T ++ vs.map D.int) := rfl
  generalize T ++ vs.map D.int = I at *
  have j1 : ixD (.lst [D.int y0, .int y1, .int y2]) (.int 1) = some (.int y1) := rfl
  have j2 : ixD (.lst [D.int y0, .int y1, .int y2]) (.int 2) = some (.int y2) := rfl
  have n3 : modD (.int y2) (.int 3) = some (.int (m : Int)) := by rw [← hm]; rfl
  have t4 : S_law_4 [.val (.lst (ns.map D.int)), .val (.lst [.int y0, .int y1, .int y2]), .val (LD Ls), .val (LD Ls), .val (.lst ps), .no, .no, .no, .no] = .ret (.val (.bl true)) := by
    generalize LD Ls = L at *
    simp only [S_law_4, P_law_4, S_law_5, P_law_5, S_law_6, P_law_6, S_law_7, P_law_7, S_law_8, P_law_8, seqR, iteR, setR, forO, retO, orB, notO, andO, blO, asB, truD, bin2, rdP, rdA, rdV, callO, consO, valO, bltO, pks, pk, List.getElem?_cons_succ, List.getElem?_cons_zero, List.set_cons_succ, List.set_cons_zero, Option.bind, Option.map, hcp, rvD_o, rvD_v, hgood, hisb, Bool.not_true, hlL, hv, hr, ht, hpe, hle]
  refine fn_ret rfl ?_
  have hin0 : ∀ ρ : VE, compIn 1 [] ρ = [.no] := fun _ => rfl
  have t2 : S_law_2 [.val (.lst (ns.map D.int)), .val (.lst [.int y0, .int y1, .int y2]), .val (LD Ls), .no, .no, .no, .no, .no, .no] = .ret (.val (.bl true)) := by
    have q1 : shortO (some (Ls.map fun p => ldD p.2)) = some (Ls.map fun p => ldD p.2) := short_le _ (by simp; omega)
    have q2 : shortO (some I) = some I := by
      show (if I.length ≤ sizeLine then some I else none) = _
      rw [if_pos hIz]
    have hin3 : ∀ a b c : Sl, compIn 1 [3] [a, b, c, .val (LD Ls), .no, .no, .no, .no, .no] = [.no, .val (LD Ls)] := fun _ _ _ => rfl
    generalize (Ls.map fun p => ldD p.2) = LL at *
    generalize LD Ls = L at *
    generalize ns.map D.int = NS at *
    simp only [S_law_2, P_law_2, S_law_3, P_law_3, seqR, setR, lstO, compF, hin0, hin3, rdQ, rdP, consO, valO, callO, bin2, sl3, asI, List.getElem?_cons_succ, List.getElem?_cons_zero, List.set_cons_succ, List.set_cons_zero, Option.bind, Option.map, hqi, q1, hk, hLD, hcut, j1, j2, n3, hvs, rvD_v, ad, hci, q2, hpc, t4]
  simp only [g_law, S_law_0, P_law_0, S_law_1, P_law_1, List.length_cons, List.length_nil, Nat.reduceAdd, Nat.reduceSub, List.replicate, List.cons_append, List.nil_append, seqR, setR, callO, consO, valO, rdA, List.getElem?_cons_succ, List.getElem?_cons_zero, List.set_cons_succ, List.set_cons_zero, Option.bind, Option.map, h0, rvD_v, hs, hL, rvD_o, hLD]
  exact t2
def top (i : Nat) : Stmt := PySem.Challenge.pw_cubebook_k22_picked.main.body.getD i (.Pass ⟨0, 0, 0, 0⟩)
abbrev s_is_whole : Stmt := top 4
abbrev s_is_word : Stmt := top 5
abbrev s_is_value : Stmt := top 6
abbrev s_value_rank : Stmt := top 8
abbrev s_key_rank : Stmt := top 9
abbrev s_in_order : Stmt := top 10
abbrev s_whole_of : Stmt := top 12
abbrev s_line_at : Stmt := top 13
abbrev s_values_in_order : Stmt := top 14
abbrev s_is_axis : Stmt := top 16
abbrev s_is_level : Stmt := top 17
abbrev s_is_pick : Stmt := top 19
abbrev s_is_picks : Stmt := top 20
abbrev s_picked : Stmt := top 21
abbrev s_law_cell_at : Stmt := top 23
abbrev s_law_stream : Stmt := top 24
abbrev s_law_word : Stmt := top 25
abbrev s_law_words : Stmt := top 26
abbrev s_law_values : Stmt := top 27
abbrev s_law_ladder : Stmt := top 28
abbrev s_law_ladders : Stmt := top 29
abbrev s_law_at : Stmt := top 30
abbrev s_law_pick : Stmt := top 31
abbrev s_law_copied : Stmt := top 32
abbrev s_law_ahead : Stmt := top 33
abbrev s_law_asked : Stmt := top 34
abbrev s_law_good : Stmt := top 35
abbrev s_law : Stmt := top 36
structure AD where
  a_is_whole : Addr
  d_is_whole : FuncData
  a_is_word : Addr
  d_is_word : FuncData
  a_is_value : Addr
  d_is_value : FuncData
  a_value_rank : Addr
  d_value_rank : FuncData
  a_key_rank : Addr
  d_key_rank : FuncData
  a_in_order : Addr
  d_in_order : FuncData
  a_whole_of : Addr
  d_whole_of : FuncData
  a_line_at : Addr
  d_line_at : FuncData
  a_values_in_order : Addr
  d_values_in_order : FuncData
  a_is_axis : Addr
  d_is_axis : FuncData
  a_is_level : Addr
  d_is_level : FuncData
  a_is_pick : Addr
  d_is_pick : FuncData
  a_is_picks : Addr
  d_is_picks : FuncData
  a_picked : Addr
  d_picked : FuncData
  a_law_cell_at : Addr
  d_law_cell_at : FuncData
  a_law_stream : Addr
  d_law_stream : FuncData
  a_law_word : Addr
  d_law_word : FuncData
  a_law_words : Addr
  d_law_words : FuncData
  a_law_values : Addr
  d_law_values : FuncData
  a_law_ladder : Addr
  d_law_ladder : FuncData
  a_law_ladders : Addr
  d_law_ladders : FuncData
  a_law_at : Addr
  d_law_at : FuncData
  a_law_pick : Addr
  d_law_pick : FuncData
  a_law_copied : Addr
  d_law_copied : FuncData
  a_law_ahead : Addr
  d_law_ahead : FuncData
  a_law_asked : Addr
  d_law_asked : FuncData
  a_law_good : Addr
  d_law_good : FuncData
  a_law : Addr
  d_law : FuncData
structure Tx (K : PySem.W.Frag) (mg : Str → Option Value) (d : AD) : Prop where
  m_is_whole : mg "is_whole" = some (.ref d.a_is_whole)
  F_is_whole : Fun K "is_whole" "is_whole" s_is_whole d.a_is_whole d.d_is_whole
  b_is_whole : Binds K d.d_is_whole ["thing"] []
  m_is_word : mg "is_word" = some (.ref d.a_is_word)
  F_is_word : Fun K "is_word" "is_word" s_is_word d.a_is_word d.d_is_word
  b_is_word : Binds K d.d_is_word ["thing"] []
  m_is_value : mg "is_value" = some (.ref d.a_is_value)
  F_is_value : Fun K "is_value" "is_value" s_is_value d.a_is_value d.d_is_value
  b_is_value : Binds K d.d_is_value ["thing"] []
  m_value_rank : mg "value_rank" = some (.ref d.a_value_rank)
  F_value_rank : Fun K "value_rank" "value_rank" s_value_rank d.a_value_rank d.d_value_rank
  b_value_rank : Binds K d.d_value_rank ["thing"] []
  m_key_rank : mg "key_rank" = some (.ref d.a_key_rank)
  F_key_rank : Fun K "key_rank" "key_rank" s_key_rank d.a_key_rank d.d_key_rank
  b_key_rank : Binds K d.d_key_rank ["key"] []
  m_in_order : mg "in_order" = some (.ref d.a_in_order)
  F_in_order : Fun K "in_order" "in_order" s_in_order d.a_in_order d.d_in_order
  b_in_order : Binds K d.d_in_order ["keys"] []
  m_whole_of : mg "whole_of" = some (.ref d.a_whole_of)
  F_whole_of : Fun K "whole_of" "whole_of" s_whole_of d.a_whole_of d.d_whole_of
  b_whole_of : Binds K d.d_whole_of ["ladder"] []
  m_line_at : mg "line_at" = some (.ref d.a_line_at)
  F_line_at : Fun K "line_at" "line_at" s_line_at d.a_line_at d.d_line_at
  b_line_at : Binds K d.d_line_at ["line", "level"] []
  m_values_in_order : mg "values_in_order" = some (.ref d.a_values_in_order)
  F_values_in_order : Fun K "values_in_order" "values_in_order" s_values_in_order d.a_values_in_order d.d_values_in_order
  b_values_in_order : Binds K d.d_values_in_order ["values"] []
  m_is_axis : mg "is_axis" = some (.ref d.a_is_axis)
  F_is_axis : Fun K "is_axis" "is_axis" s_is_axis d.a_is_axis d.d_is_axis
  b_is_axis : Binds K d.d_is_axis ["ladders", "thing"] []
  m_is_level : mg "is_level" = some (.ref d.a_is_level)
  F_is_level : Fun K "is_level" "is_level" s_is_level d.a_is_level d.d_is_level
  b_is_level : Binds K d.d_is_level ["ladder", "thing"] []
  m_is_pick : mg "is_pick" = some (.ref d.a_is_pick)
  F_is_pick : Fun K "is_pick" "is_pick" s_is_pick d.a_is_pick d.d_is_pick
  b_is_pick : Binds K d.d_is_pick ["ladders", "thing"] []
  m_is_picks : mg "is_picks" = some (.ref d.a_is_picks)
  F_is_picks : Fun K "is_picks" "is_picks" s_is_picks d.a_is_picks d.d_is_picks
  b_is_picks : Binds K d.d_is_picks ["ladders", "thing"] []
  m_picked : mg "picked" = some (.ref d.a_picked)
  F_picked : Fun K "picked" "picked" s_picked d.a_picked d.d_picked
  b_picked : Binds K d.d_picked ["ladders", "picks", "axis"] []
  m_law_cell_at : mg "_law_cell_at" = some (.ref d.a_law_cell_at)
  F_law_cell_at : Fun K "_law_cell_at" "_law_cell_at" s_law_cell_at d.a_law_cell_at d.d_law_cell_at
  b_law_cell_at : Binds K d.d_law_cell_at ["_law_script", "_law_k"] []
  m_law_stream : mg "_law_stream" = some (.ref d.a_law_stream)
  F_law_stream : Fun K "_law_stream" "_law_stream" s_law_stream d.a_law_stream d.d_law_stream
  b_law_stream : Binds K d.d_law_stream ["_law_cell", "_law_many"] []
  m_law_word : mg "_law_word" = some (.ref d.a_law_word)
  F_law_word : Fun K "_law_word" "_law_word" s_law_word d.a_law_word d.d_law_word
  b_law_word : Binds K d.d_law_word ["_law_cell", "_law_size"] []
  m_law_words : mg "_law_words" = some (.ref d.a_law_words)
  F_law_words : Fun K "_law_words" "_law_words" s_law_words d.a_law_words d.d_law_words
  b_law_words : Binds K d.d_law_words ["_law_cell", "_law_many"] []
  m_law_values : mg "_law_values" = some (.ref d.a_law_values)
  F_law_values : Fun K "_law_values" "_law_values" s_law_values d.a_law_values d.d_law_values
  b_law_values : Binds K d.d_law_values ["_law_cell", "_law_many"] []
  m_law_ladder : mg "_law_ladder" = some (.ref d.a_law_ladder)
  F_law_ladder : Fun K "_law_ladder" "_law_ladder" s_law_ladder d.a_law_ladder d.d_law_ladder
  b_law_ladder : Binds K d.d_law_ladder ["_law_cell", "_law_many", "_law_width"] []
  m_law_ladders : mg "_law_ladders" = some (.ref d.a_law_ladders)
  F_law_ladders : Fun K "_law_ladders" "_law_ladders" s_law_ladders d.a_law_ladders d.d_law_ladders
  b_law_ladders : Binds K d.d_law_ladders ["_law_cell", "_law_most"] []
  m_law_at : mg "_law_at" = some (.ref d.a_law_at)
  F_law_at : Fun K "_law_at" "_law_at" s_law_at d.a_law_at d.d_law_at
  b_law_at : Binds K d.d_law_at ["_law_line", "_law_level"] []
  m_law_pick : mg "_law_pick" = some (.ref d.a_law_pick)
  F_law_pick : Fun K "_law_pick" "_law_pick" s_law_pick d.a_law_pick d.d_law_pick
  b_law_pick : Binds K d.d_law_pick ["_law_cell", "_law_ladders_here"] []
  m_law_copied : mg "_law_copied" = some (.ref d.a_law_copied)
  F_law_copied : Fun K "_law_copied" "_law_copied" s_law_copied d.a_law_copied d.d_law_copied
  b_law_copied : Binds K d.d_law_copied ["_law_picks"] []
  m_law_ahead : mg "_law_ahead" = some (.ref d.a_law_ahead)
  F_law_ahead : Fun K "_law_ahead" "_law_ahead" s_law_ahead d.a_law_ahead d.d_law_ahead
  b_law_ahead : Binds K d.d_law_ahead ["_law_one", "_law_other"] []
  m_law_asked : mg "_law_asked" = some (.ref d.a_law_asked)
  F_law_asked : Fun K "_law_asked" "_law_asked" s_law_asked d.a_law_asked d.d_law_asked
  b_law_asked : Binds K d.d_law_asked ["_law_line", "_law_picks", "_law_axis"] []
  m_law_good : mg "_law_good" = some (.ref d.a_law_good)
  F_law_good : Fun K "_law_good" "_law_good" s_law_good d.a_law_good d.d_law_good
  b_law_good : Binds K d.d_law_good ["_law_found", "_law_ladder_here", "_law_picks", "_law_axis"] []
  m_law : mg "law" = some (.ref d.a_law)
  F_law : Fun K "law" "law" s_law d.a_law d.d_law
  b_law : Binds K d.d_law ["_law_script"] []
  n_all : mg "all" = none
  n_bool : mg "bool" = none
  n_dict : mg "dict" = none
  n_int : mg "int" = none
  n_isinstance : mg "isinstance" = none
  n_len : mg "len" = none
  n_list : mg "list" = none
  n_range : mg "range" = none
  n_sorted : mg "sorted" = none
  n_str : mg "str" = none
  n_tuple : mg "tuple" = none
  g_FIGURES : ∃ u, mg "FIGURES" = some u ∧ RelV (.str "0123456789") u
  g_LETTERS : ∃ u, mg "LETTERS" = some u ∧ RelV (.str "abcdefghijklmnopqrstuvwxyz") u
  g_LONGEST_WORD : ∃ u, mg "LONGEST_WORD" = some u ∧ RelV (.int (12)) u
section
variable {P : Program} {w : World} {K : PySem.W.Frag} {mg : Str → Option Value} {base : Heap} {d : AD}
theorem sc_is_whole : FnScope ["thing"] ["thing"] (defScope s_is_whole) := ⟨rfl, rfl, rfl, by decide +kernel, rfl, by decide +kernel, by decide +kernel⟩
theorem ok_is_whole (T : Tx K mg d) : FnOk P w K mg base CX0 1 d.a_is_whole d.d_is_whole ["thing"] (spD K F_is_whole) :=
  by
  refine fn_okJ (N := ["thing"]) (ps := ["thing"]) T.F_is_whole sc_is_whole (by decide) (g := g_is_whole) (fun cdv A outer s H E M H0 hr => ?_)
  refine j_conv (j_vs_cons (j_vs_ret (j_ve_and (j_ve_callB call_isD rc_is (by rfl) T.n_isinstance (by rfl) (j_va_cons (j_va 0) (j_va_cons (j_va_e (j_ve_tyn (n := "int") (by rfl) T.n_int (by rfl))) j_va_nil))) (j_ve_one (j_ve_not (j_ve_callB call_isD rc_is (by rfl) T.n_isinstance (by rfl) (j_va_cons (j_va 0) (j_va_cons (j_va_e (j_ve_tyn (n := "bool") (by rfl) T.n_bool (by rfl))) j_va_nil)))))))
      j_vs_nil) ?_
  rfl
theorem sc_is_word : FnScope ["thing"] ["thing"] (defScope s_is_word) := ⟨rfl, rfl, rfl, by decide +kernel, rfl, by decide +kernel, by decide +kernel⟩
theorem ok_is_word (T : Tx K mg d) : FnOk P w K mg base CX0 1 d.a_is_word d.d_is_word ["thing"] (spD K F_is_word) :=
  by
  refine fn_okJ (N := ["thing"]) (ps := ["thing"]) T.F_is_word sc_is_word (by decide) (g := g_is_word) (fun cdv A outer s H E M H0 hr => ?_)
  refine j_conv (j_vs_cons (j_vs_if (j_vt_not (j_vt_tru (j_p (j_ve_callB call_isD rc_is (by rfl) T.n_isinstance (by rfl) (j_va_cons (j_va 0) (j_va_cons (j_va_e (j_ve_tyn (n := "str") (by rfl) T.n_str (by rfl))) j_va_nil))))))
      (j_vs_cons (j_vs_ret j_ve_bl)
      j_vs_nil)
      j_vs_nil)
      (j_vs_cons (j_vs_if (j_pt (j_vw_or (j_vtc_lt hr.units (j_p (j_ve_callB call_len rc_len (by rfl) T.n_len (by rfl) (j_va_cons (j_va 0) j_va_nil))) (j_p j_ve_int)) (j_vw_or1 (j_vtc_gt hr.units (j_p (j_ve_callB call_len rc_len (by rfl) T.n_len (by rfl) (j_va_cons (j_va 0) j_va_nil))) (j_p (j_ve_glob (d := .int (12)) (by rfl) T.g_LONGEST_WORD (fun _ _ => by simp only [Den])))))))
      (j_vs_cons (j_vs_ret j_ve_bl)
      j_vs_nil)
      j_vs_nil)
      (j_vs_cons (j_vs_ret (j_ve_and (j_vc_in hr.units (j_p (j_ve_item (j_vp 0) (j_p j_ve_int) (fun _ _ => rfl))) (j_p (j_ve_glob (d := .str "abcdefghijklmnopqrstuvwxyz") (by rfl) T.g_LETTERS (fun _ _ => by simp only [Den])))) (j_ve_one (j_ve_callB (call_all rfl) rc_all (by rfl) T.n_all (by rfl) (j_va_cons (j_va_e (j_fd (j_vf_comp ["sign"] [] [] (show CompSc ["sign"] [] _ (defScope s_is_word) from ⟨rfl, by decide +kernel, by decide +kernel, by decide +kernel, by decide +kernel, by decide +kernel⟩) rfl rfl  (j_vi_seq (j_vq 0)) (fun _ _ _ _ _ _ _ => (j_vg_name (i := 0) (show ((["sign"] : List Str) ++ ([] : List Str)).Nodup by decide +kernel) rfl (Or.inl rfl))) (fun _ _ _ _ _ _ _ => j_vf_nil) (fun _ _ _ _ _ _ _ => (j_ve_or (j_vc_in hr.units (j_vp 0) (j_p (j_ve_glob (d := .str "abcdefghijklmnopqrstuvwxyz") (by rfl) T.g_LETTERS (fun _ _ => by simp only [Den])))) (j_ve_one (j_vc_in hr.units (j_vp 0) (j_p (j_ve_glob (d := .str "0123456789") (by rfl) T.g_FIGURES (fun _ _ => by simp only [Den]))))))) (by decide)))) j_va_nil)))))
      j_vs_nil))) ?_
  rfl
theorem sc_whole_of : FnScope ["ladder"] ["ladder"] (defScope s_whole_of) := ⟨rfl, rfl, rfl, by decide +kernel, rfl, by decide +kernel, by decide +kernel⟩
theorem ok_whole_of (T : Tx K mg d) : FnOk P w K mg base CX0 1 d.a_whole_of d.d_whole_of ["ladder"] (spD K F_whole_of) :=
  by
  refine fn_okJ (N := ["ladder"]) (ps := ["ladder"]) T.F_whole_of sc_whole_of (by decide) (g := g_whole_of) (fun cdv A outer s H E M H0 hr => ?_)
  refine j_conv (j_vs_cons (j_vs_ret (j_ve_callB call_len rc_len (by rfl) T.n_len (by rfl) (j_va_cons (j_va_e (j_ve_item (j_vp 0) (j_p j_ve_int) (fun _ _ => rfl))) j_va_nil)))
      j_vs_nil) ?_
  rfl
theorem sc_line_at : FnScope ["line", "level"] ["line", "level"] (defScope s_line_at) := ⟨rfl, rfl, rfl, by decide +kernel, rfl, by decide +kernel, by decide +kernel⟩
theorem ok_line_at (T : Tx K mg d) : FnOk P w K mg base CX0 1 d.a_line_at d.d_line_at ["line", "level"] (spD K F_line_at) :=
  by
  refine fn_okJ (N := ["line", "level"]) (ps := ["line", "level"]) T.F_line_at sc_line_at (by decide) (g := g_line_at) (fun cdv A outer s H E M H0 hr => ?_)
  refine j_conv (j_vs_cons (j_vs_ret (j_ve_ifExp (j_vtc_lt hr.units (j_vp 1) (j_p (j_ve_callB call_len rc_len (by rfl) T.n_len (by rfl) (j_va_cons (j_va 0) j_va_nil)))) (j_ve_item (j_vp 0) (j_vp 1) (fun _ _ => rfl)) j_ve_non))
      j_vs_nil) ?_
  rfl
theorem sc_law_cell_at : FnScope ["_law_script", "_law_k"] ["_law_script", "_law_k"] (defScope s_law_cell_at) := ⟨rfl, rfl, rfl, by decide +kernel, rfl, by decide +kernel, by decide +kernel⟩
theorem ok_law_cell_at (T : Tx K mg d) : FnOk P w K mg base CX0 1 d.a_law_cell_at d.d_law_cell_at ["_law_script", "_law_k"] (spD K F_law_cell_at) :=
  by
  refine fn_okJ (N := ["_law_script", "_law_k"]) (ps := ["_law_script", "_law_k"]) T.F_law_cell_at sc_law_cell_at (by decide) (g := g_law_cell_at) (fun cdv A outer s H E M H0 hr => ?_)
  refine j_conv (j_vs_cons (j_vs_if (j_vtc_lt hr.units (j_vp 1) (j_p (j_ve_callB call_len rc_len (by rfl) T.n_len (by rfl) (j_va_cons (j_va 0) j_va_nil))))
      (j_vs_cons (j_vs_ret (j_ve_item (j_vp 0) (j_vp 1) (fun _ _ => rfl)))
      j_vs_nil)
      j_vs_nil)
      (j_vs_cons (j_vs_ret j_ve_int)
      j_vs_nil)) ?_
  rfl
theorem sc_law_stream : FnScope ["_law_cell", "_law_many", "_law_number", "_law_found", "_law_k"] ["_law_cell", "_law_many"] (defScope s_law_stream) := ⟨rfl, rfl, rfl, by decide +kernel, rfl, by decide +kernel, by decide +kernel⟩
theorem ok_law_stream (T : Tx K mg d) : FnOk P w K mg base CX0 1 d.a_law_stream d.d_law_stream ["_law_cell", "_law_many"] (spD K F_law_stream) :=
  by
  refine fn_okJ (N := ["_law_cell", "_law_many", "_law_number", "_law_found", "_law_k"]) (ps := ["_law_cell", "_law_many"]) T.F_law_stream sc_law_stream (by decide) (g := g_law_stream) (fun cdv A outer s H E M H0 hr => ?_)
  refine j_conv (j_vs_cons (j_vs_set (i := 2) sc_law_stream.nd rfl (Or.inl rfl) (j_ve_add (j_p j_ve_int) (j_p (j_ve_mod (j_vp 0) (j_p j_ve_int)))))
      (j_vs_cons (j_vs_setF (i := 3) sc_law_stream.nd rfl (Or.inl rfl) (j_vf_lst j_va_nil))
      (j_vs_cons (j_vs_for PassesOwn.never rfl (j_vi_range1 (by rfl) T.n_range (j_va_cons (j_va_e (j_ve_add (j_vp 1) (j_p j_ve_int))) j_va_nil)) (j_vg_name (i := 4) sc_law_stream.nd rfl (Or.inl rfl))
      (j_vs_cons (j_vs_set (i := 2) sc_law_stream.nd rfl (Or.inl rfl) (j_ve_mod (j_p (j_ve_mul (j_vp 2) (j_p j_ve_int))) (j_p j_ve_int)))
      (j_vs_cons (j_vs_append (i := 3) rfl (by first | exact Or.inl rfl | exact Or.inr (Or.inl rfl)) (j_vv 2))
      j_vs_nil)))
      (j_vs_cons (j_vs_ret (j_ve_slice (j_vp 3) (j_vo_some (j_p j_ve_int)) j_vo_none))
      j_vs_nil)))) ?_
  rfl
theorem sc_law_at : FnScope ["_law_line", "_law_level"] ["_law_line", "_law_level"] (defScope s_law_at) := ⟨rfl, rfl, rfl, by decide +kernel, rfl, by decide +kernel, by decide +kernel⟩
theorem ok_law_at (T : Tx K mg d) : FnOk P w K mg base CX0 1 d.a_law_at d.d_law_at ["_law_line", "_law_level"] (spD K F_law_at) :=
  by
  refine fn_okJ (N := ["_law_line", "_law_level"]) (ps := ["_law_line", "_law_level"]) T.F_law_at sc_law_at (by decide) (g := g_law_at) (fun cdv A outer s H E M H0 hr => ?_)
  refine j_conv (j_vs_cons (j_vs_if (j_vtc_eq hr.units (j_vp 1) (j_p (j_ve_callB call_len rc_len (by rfl) T.n_len (by rfl) (j_va_cons (j_va 0) j_va_nil))))
      (j_vs_cons (j_vs_ret j_ve_non)
      j_vs_nil)
      j_vs_nil)
      (j_vs_cons (j_vs_ret (j_ve_item (j_vp 0) (j_vp 1) (fun _ _ => rfl)))
      j_vs_nil)) ?_
  rfl
theorem sc_law_copied : FnScope ["_law_picks", "_law_found", "_law_axis", "_law_level", "_law_values_here"] ["_law_picks"] (defScope s_law_copied) := ⟨rfl, rfl, rfl, by decide +kernel, rfl, by decide +kernel, by decide +kernel⟩
theorem ok_law_copied (T : Tx K mg d) : FnOk P w K mg base CX0 1 d.a_law_copied d.d_law_copied ["_law_picks"] (spD K F_law_copied) :=
  by
  refine fn_okJ (N := ["_law_picks", "_law_found", "_law_axis", "_law_level", "_law_values_here"]) (ps := ["_law_picks"]) T.F_law_copied sc_law_copied (by decide) (g := g_law_copied) (fun cdv A outer s H E M H0 hr => ?_)
  refine j_conv (j_vs_cons (j_vs_setF (i := 1) sc_law_copied.nd rfl (Or.inl rfl) (j_vf_lst j_va_nil))
      (j_vs_cons (j_vs_for PassesOwn.never rfl (j_vi_seq (j_vq 0)) (j_vg_tup (n := 3) rfl (j_vgs_cons (j_vg_name (i := 2) sc_law_copied.nd rfl (Or.inl rfl)) (j_vgs_cons (j_vg_name (i := 3) sc_law_copied.nd rfl (Or.inl rfl)) (j_vgs_cons (j_vg_name (i := 4) sc_law_copied.nd rfl (Or.inl rfl)) j_vgs_nil))))
      (j_vs_cons (j_vs_if (j_vt_tru (j_p (j_ve_callB call_isD rc_is (by rfl) T.n_isinstance (by rfl) (j_va_cons (j_va 4) (j_va_cons (j_va_e (j_ve_tyn (n := "list") (by rfl) T.n_list (by rfl))) j_va_nil)))))
      (j_vs_cons (j_vs_append (i := 1) rfl (by first | exact Or.inl rfl | exact Or.inr (Or.inl rfl)) (j_ve_tup (j_va_cons (j_va_e (j_vv 2)) (j_va_cons (j_va_e (j_vv 3)) (j_va_cons (j_va_e (j_fd (j_vf_callTy call_list_of rc_list (by rfl) T.n_list (by rfl) (j_va_cons (j_va 4) j_va_nil)))) j_va_nil)))))
      j_vs_nil)
      (j_vs_cons (j_vs_append (i := 1) rfl (by first | exact Or.inl rfl | exact Or.inr (Or.inl rfl)) (j_ve_tup (j_va_cons (j_va_e (j_vv 2)) (j_va_cons (j_va_e (j_vv 3)) (j_va_cons (j_va_e (j_vv 4)) j_va_nil)))))
      j_vs_nil))
      j_vs_nil))
      (j_vs_cons (j_vret 1)
      j_vs_nil))) ?_
  rfl
theorem sc_law_ahead : FnScope ["_law_one", "_law_other"] ["_law_one", "_law_other"] (defScope s_law_ahead) := ⟨rfl, rfl, rfl, by decide +kernel, rfl, by decide +kernel, by decide +kernel⟩
theorem ok_law_ahead (T : Tx K mg d) : FnOk P w K mg base CX0 1 d.a_law_ahead d.d_law_ahead ["_law_one", "_law_other"] (spD K F_law_ahead) :=
  by
  refine fn_okJ (N := ["_law_one", "_law_other"]) (ps := ["_law_one", "_law_other"]) T.F_law_ahead sc_law_ahead (by decide) (g := g_law_ahead) (fun cdv A outer s H E M H0 hr => ?_)
  refine j_conv (j_vs_cons (j_vs_if (j_vtc_ne hr.units (j_p (j_ve_callB call_isD rc_is (by rfl) T.n_isinstance (by rfl) (j_va_cons (j_va 0) (j_va_cons (j_va_e (j_ve_tyn (n := "str") (by rfl) T.n_str (by rfl))) j_va_nil)))) (j_p (j_ve_callB call_isD rc_is (by rfl) T.n_isinstance (by rfl) (j_va_cons (j_va 1) (j_va_cons (j_va_e (j_ve_tyn (n := "str") (by rfl) T.n_str (by rfl))) j_va_nil)))))
      (j_vs_cons (j_vs_ret (j_ve_callB call_isD rc_is (by rfl) T.n_isinstance (by rfl) (j_va_cons (j_va 1) (j_va_cons (j_va_e (j_ve_tyn (n := "str") (by rfl) T.n_str (by rfl))) j_va_nil))))
      j_vs_nil)
      j_vs_nil)
      (j_vs_cons (j_vs_ret (j_vc_lt hr.units (j_vp 0) (j_vp 1)))
      j_vs_nil)) ?_
  rfl
theorem sc_is_value : FnScope ["thing"] ["thing"] (defScope s_is_value) := ⟨rfl, rfl, rfl, by decide +kernel, rfl, by decide +kernel, by decide +kernel⟩
theorem ok_is_value (T : Tx K mg d) : FnOk P w K mg base CX0 2 d.a_is_value d.d_is_value ["thing"] (spD K F_is_value) :=
  by
  refine fn_okJ (N := ["thing"]) (ps := ["thing"]) T.F_is_value sc_is_value (by decide) (g := g_is_value) (fun cdv A outer s H E M H0 hr => ?_)
  refine j_conv (j_vs_cons (j_vs_ret (j_ve_or (j_ve_call (ok_is_whole T) (hr.mono (by decide)) (by rfl) T.m_is_whole T.F_is_whole.kp T.b_is_whole (E := E0) pass0 (j_va_cons (j_va 0) j_va_nil)) (j_ve_one (j_ve_call (ok_is_word T) (hr.mono (by decide)) (by rfl) T.m_is_word T.F_is_word.kp T.b_is_word (E := E0) pass0 (j_va_cons (j_va 0) j_va_nil)))))
      j_vs_nil) ?_
  rfl
theorem sc_value_rank : FnScope ["thing"] ["thing"] (defScope s_value_rank) := ⟨rfl, rfl, rfl, by decide +kernel, rfl, by decide +kernel, by decide +kernel⟩
theorem ok_value_rank (T : Tx K mg d) : FnOk P w K mg base CX0 2 d.a_value_rank d.d_value_rank ["thing"] (spD K F_value_rank) :=
  by
  refine fn_okJ (N := ["thing"]) (ps := ["thing"]) T.F_value_rank sc_value_rank (by decide) (g := g_value_rank) (fun cdv A outer s H E M H0 hr => ?_)
  refine j_conv (j_vs_cons (j_vs_if (j_vt_isN (j_vp 0))
      (j_vs_cons (j_vs_ret (j_ve_tup (j_va_cons (j_va_e j_ve_int) (j_va_cons (j_va_e j_ve_int) j_va_nil))))
      j_vs_nil)
      j_vs_nil)
      (j_vs_cons (j_vs_if (j_vt_tru (j_p (j_ve_call (ok_is_whole T) (hr.mono (by decide)) (by rfl) T.m_is_whole T.F_is_whole.kp T.b_is_whole (E := E0) pass0 (j_va_cons (j_va 0) j_va_nil))))
      (j_vs_cons (j_vs_ret (j_ve_tup (j_va_cons (j_va_e j_ve_int) (j_va_cons (j_va_e (j_vv 0)) j_va_nil))))
      j_vs_nil)
      j_vs_nil)
      (j_vs_cons (j_vs_ret (j_ve_tup (j_va_cons (j_va_e j_ve_int) (j_va_cons (j_va_e (j_vv 0)) j_va_nil))))
      j_vs_nil))) ?_
  rfl
theorem sc_is_axis : FnScope ["ladders", "thing"] ["ladders", "thing"] (defScope s_is_axis) := ⟨rfl, rfl, rfl, by decide +kernel, rfl, by decide +kernel, by decide +kernel⟩
theorem ok_is_axis (T : Tx K mg d) : FnOk P w K mg base CX0 2 d.a_is_axis d.d_is_axis ["ladders", "thing"] (spD K F_is_axis) :=
  by
  refine fn_okJ (N := ["ladders", "thing"]) (ps := ["ladders", "thing"]) T.F_is_axis sc_is_axis (by decide) (g := g_is_axis) (fun cdv A outer s H E M H0 hr => ?_)
  refine j_conv (j_vs_cons (j_vs_ret (j_ve_and (j_ve_call (ok_is_whole T) (hr.mono (by decide)) (by rfl) T.m_is_whole T.F_is_whole.kp T.b_is_whole (E := E0) pass0 (j_va_cons (j_va 1) j_va_nil)) (j_ve_one (j_vc_chain op_le (op_ltD hr.units) (r2_b0 _) r2_lt (j_p j_ve_int) (j_vp 1) (j_p (j_ve_callB call_len rc_len (by rfl) T.n_len (by rfl) (j_va_cons (j_va 0) j_va_nil)))))))
      j_vs_nil) ?_
  rfl
theorem sc_is_level : FnScope ["ladder", "thing"] ["ladder", "thing"] (defScope s_is_level) := ⟨rfl, rfl, rfl, by decide +kernel, rfl, by decide +kernel, by decide +kernel⟩
theorem ok_is_level (T : Tx K mg d) : FnOk P w K mg base CX0 2 d.a_is_level d.d_is_level ["ladder", "thing"] (spD K F_is_level) :=
  by
  refine fn_okJ (N := ["ladder", "thing"]) (ps := ["ladder", "thing"]) T.F_is_level sc_is_level (by decide) (g := g_is_level) (fun cdv A outer s H E M H0 hr => ?_)
  refine j_conv (j_vs_cons (j_vs_ret (j_ve_and (j_ve_call (ok_is_whole T) (hr.mono (by decide)) (by rfl) T.m_is_whole T.F_is_whole.kp T.b_is_whole (E := E0) pass0 (j_va_cons (j_va 1) j_va_nil)) (j_ve_one (j_vc_chain op_le op_le (r2_b0 _) (r2_b0 _) (j_p j_ve_int) (j_vp 1) (j_p (j_ve_call (ok_whole_of T) (hr.mono (by decide)) (by rfl) T.m_whole_of T.F_whole_of.kp T.b_whole_of (E := E0) pass0 (j_va_cons (j_va 0) j_va_nil)))))))
      j_vs_nil) ?_
  rfl
theorem sc_law_word : FnScope ["_law_cell", "_law_size", "_law_signs", "_law_found", "_law_number"] ["_law_cell", "_law_size"] (defScope s_law_word) := ⟨rfl, rfl, rfl, by decide +kernel, rfl, by decide +kernel, by decide +kernel⟩
theorem ok_law_word (T : Tx K mg d) : FnOk P w K mg base CX0 2 d.a_law_word d.d_law_word ["_law_cell", "_law_size"] (spD K F_law_word) :=
  by
  refine fn_okJ (N := ["_law_cell", "_law_size", "_law_signs", "_law_found", "_law_number"]) (ps := ["_law_cell", "_law_size"]) T.F_law_word sc_law_word (by decide) (g := g_law_word) (fun cdv A outer s H E M H0 hr => ?_)
  refine j_conv (j_vs_cons (j_vs_set (i := 2) sc_law_word.nd rfl (Or.inl rfl) j_ve_str)
      (j_vs_cons (j_vs_set (i := 3) sc_law_word.nd rfl (Or.inl rfl) j_ve_str)
      (j_vs_cons (j_vs_for PassesOwn.never rfl (j_vi_seq (j_q (j_ve_call (ok_law_stream T) (hr.mono (by decide)) (by rfl) T.m_law_stream T.F_law_stream.kp T.b_law_stream (E := E0) pass0 (j_va_cons (j_va 0) (j_va_cons (j_va 1) j_va_nil))))) (j_vg_name (i := 4) sc_law_word.nd rfl (Or.inl rfl))
      (j_vs_cons (j_vs_if (j_vtc_eq hr.units (j_vp 3) (j_p j_ve_str))
      (j_vs_cons (j_vs_set (i := 3) sc_law_word.nd rfl (Or.inl rfl) (j_ve_item (j_vp 2) (j_p (j_ve_mod (j_vp 4) (j_p j_ve_int))) (fun _ _ => rfl)))
      j_vs_nil)
      (j_vs_cons (j_vs_set (i := 3) sc_law_word.nd rfl (Or.inl rfl) (j_ve_add (j_vp 3) (j_p (j_ve_item (j_vp 2) (j_p (j_ve_mod (j_vp 4) (j_p j_ve_int))) (fun _ _ => rfl)))))
      j_vs_nil))
      j_vs_nil))
      (j_vs_cons (j_vs_ret (j_vv 3))
      j_vs_nil)))) ?_
  rfl
theorem sc_law_pick : FnScope ["_law_cell", "_law_ladders_here", "_law_row", "_law_axis", "_law_upper", "_law_lower", "_law_share", "_law_bits", "_law_known", "_law_values_here", "_law_line", "_law_value"] ["_law_cell", "_law_ladders_here"] (defScope s_law_pick) := ⟨rfl, rfl, rfl, by decide +kernel, rfl, by decide +kernel, by decide +kernel⟩
theorem ok_law_pick (T : Tx K mg d) : FnOk P w K mg base CX0 2 d.a_law_pick d.d_law_pick ["_law_cell", "_law_ladders_here"] (spD K F_law_pick) :=
  by
  refine fn_okJ (N := ["_law_cell", "_law_ladders_here", "_law_row", "_law_axis", "_law_upper", "_law_lower", "_law_share", "_law_bits", "_law_known", "_law_values_here", "_law_line", "_law_value"]) (ps := ["_law_cell", "_law_ladders_here"]) T.F_law_pick sc_law_pick (by decide) (g := g_law_pick) (fun cdv A outer s H E M H0 hr => ?_)
  refine j_conv (j_vs_cons (j_vs_set (i := 2) sc_law_pick.nd rfl (Or.inl rfl) (j_ve_call (ok_law_stream T) (hr.mono (by decide)) (by rfl) T.m_law_stream T.F_law_stream.kp T.b_law_stream (E := E0) pass0 (j_va_cons (j_va 0) (j_va_cons (j_va_e j_ve_int) j_va_nil))))
      (j_vs_cons (j_vs_set (i := 3) sc_law_pick.nd rfl (Or.inl rfl) (j_ve_mod (j_p (j_ve_item (j_vp 2) (j_p j_ve_int) (fun _ _ => rfl))) (j_p (j_ve_callB call_len rc_len (by rfl) T.n_len (by rfl) (j_va_cons (j_va 1) j_va_nil)))))
      (j_vs_cons (j_vs_set (i := 4) sc_law_pick.nd rfl (Or.inl rfl) (j_ve_mod (j_p (j_ve_item (j_vp 2) (j_p j_ve_int) (fun _ _ => rfl))) (j_p (j_ve_add (j_p (j_ve_callB call_len rc_len (by rfl) T.n_len (by rfl) (j_va_cons (j_va_e (j_ve_item (j_p (j_ve_item (j_vp 1) (j_vp 3) (fun _ _ => rfl))) (j_p j_ve_int) (fun _ _ => rfl))) j_va_nil))) (j_p j_ve_int)))))
      (j_vs_cons (j_vs_set (i := 5) sc_law_pick.nd rfl (Or.inl rfl) (j_ve_mod (j_p (j_ve_item (j_vp 2) (j_p j_ve_int) (fun _ _ => rfl))) (j_p (j_ve_add (j_vp 4) (j_p j_ve_int)))))
      (j_vs_cons (j_vs_set (i := 6) sc_law_pick.nd rfl (Or.inl rfl) (j_ve_item (j_p (j_fd (j_vf_lst (j_va_cons (j_va_e j_ve_int) (j_va_cons (j_va_e j_ve_int) (j_va_cons (j_va_e j_ve_int) (j_va_cons (j_va_e j_ve_int) (j_va_cons (j_va_e j_ve_int) (j_va_cons (j_va_e j_ve_int) (j_va_cons (j_va_e j_ve_int) j_va_nil)))))))))) (j_p (j_ve_mod (j_p (j_ve_item (j_vp 2) (j_p j_ve_int) (fun _ _ => rfl))) (j_p j_ve_int))) (fun _ _ => rfl)))
      (j_vs_cons (j_vs_set (i := 7) sc_law_pick.nd rfl (Or.inl rfl) (j_ve_call (ok_law_stream T) (hr.mono (by decide)) (by rfl) T.m_law_stream T.F_law_stream.kp T.b_law_stream (E := E0) pass0 (j_va_cons (j_va_e (j_ve_item (j_vp 2) (j_p j_ve_int) (fun _ _ => rfl))) (j_va_cons (j_va_e (j_ve_callB call_len rc_len (by rfl) T.n_len (by rfl) (j_va_cons (j_va_e (j_ve_item (j_vp 1) (j_vp 3) (fun _ _ => rfl))) j_va_nil))) j_va_nil))))
      (j_vs_cons (j_vs_setG (i := 8) sc_law_pick.nd rfl (Or.inl rfl) j_vd_new)
      (j_vs_cons (j_vs_setF (i := 9) sc_law_pick.nd rfl (Or.inl rfl) (j_vf_lst j_va_nil))
      (j_vs_cons (j_vs_for PassesOwn.never rfl (j_vi_seq (j_q (j_ve_item (j_vp 1) (j_vp 3) (fun _ _ => rfl)))) (j_vg_name (i := 10) sc_law_pick.nd rfl (Or.inl rfl))
      (j_vs_cons (j_vs_set (i := 11) sc_law_pick.nd rfl (Or.inl rfl) (j_ve_call (ok_law_at T) (hr.mono (by decide)) (by rfl) T.m_law_at T.F_law_at.kp T.b_law_at (E := E0) pass0 (j_va_cons (j_va 10) (j_va_cons (j_va 4) j_va_nil))))
      (j_vs_cons (j_vs_exprX (j_vx_sd (i := 8) hr.units (j_vp 11) (j_vc_lt hr.units (j_p (j_ve_mod (j_p (j_ve_item (j_vp 7) (j_p (j_ve_callB call_lenDc rc_dlen (by rfl) T.n_len (by rfl) (j_va_cons (j_va 8) j_va_nil))) (fun _ _ => rfl))) (j_p j_ve_int))) (j_vp 6))))
      (j_vs_cons (j_vs_if (j_pt (j_vw_and (j_vt_tru (j_p (j_ve_dix hr.units (j_vp 8) (j_vp 11) (fun _ _ => rfl)))) (j_vw_and1 (j_vtc_nin hr.units (j_p (j_ve_call (ok_law_at T) (hr.mono (by decide)) (by rfl) T.m_law_at T.F_law_at.kp T.b_law_at (E := E0) pass0 (j_va_cons (j_va 10) (j_va_cons (j_va 5) j_va_nil)))) (j_vp 9)))))
      (j_vs_cons (j_vs_append (i := 9) rfl (by first | exact Or.inl rfl | exact Or.inr (Or.inl rfl)) (j_ve_call (ok_law_at T) (hr.mono (by decide)) (by rfl) T.m_law_at T.F_law_at.kp T.b_law_at (E := E0) pass0 (j_va_cons (j_va 10) (j_va_cons (j_va 5) j_va_nil))))
      j_vs_nil)
      j_vs_nil)
      j_vs_nil))))
      (j_vs_cons (j_vs_if (j_vtc_eq hr.units (j_p (j_ve_mod (j_p (j_ve_item (j_vp 2) (j_p j_ve_int) (fun _ _ => rfl))) (j_p j_ve_int))) (j_p j_ve_int))
      (j_vs_cons (j_vs_insert (i := 9) (j_p (j_ve_mod (j_p (j_ve_item (j_vp 2) (j_p j_ve_int) (fun _ _ => rfl))) (j_p (j_ve_add (j_p (j_ve_callB call_len rc_len (by rfl) T.n_len (by rfl) (j_va_cons (j_va 9) j_va_nil))) (j_p j_ve_int))))) (j_ve_item (j_p (j_fd (j_vf_lst (j_va_cons (j_va_e j_ve_str) (j_va_cons (j_va_e j_ve_int) (j_va_cons (j_va_e j_ve_str) j_va_nil)))))) (j_p (j_ve_mod (j_p (j_ve_item (j_vp 2) (j_p j_ve_int) (fun _ _ => rfl))) (j_p j_ve_int))) (fun _ _ => rfl)))
      j_vs_nil)
      j_vs_nil)
      (j_vs_cons (j_vs_if (j_pt (j_vw_and (j_vtc_eq hr.units (j_p (j_ve_mod (j_p (j_ve_item (j_vp 2) (j_p j_ve_int) (fun _ _ => rfl))) (j_p j_ve_int))) (j_p j_ve_int)) (j_vw_and1 (j_vtc_ne hr.units (j_vp 9) (j_p (j_fd (j_vf_lst j_va_nil)))))))
      (j_vs_cons (j_vs_append (i := 9) rfl (by first | exact Or.inl rfl | exact Or.inr (Or.inl rfl)) (j_ve_item (j_vp 9) (j_p (j_ve_mod (j_p (j_ve_item (j_vp 2) (j_p j_ve_int) (fun _ _ => rfl))) (j_p (j_ve_callB call_len rc_len (by rfl) T.n_len (by rfl) (j_va_cons (j_va 9) j_va_nil))))) (fun _ _ => rfl)))
      j_vs_nil)
      j_vs_nil)
      (j_vs_cons (j_vs_if (j_vtc_eq hr.units (j_p (j_ve_mod (j_p (j_ve_fdiv (j_p (j_ve_item (j_vp 2) (j_p j_ve_int) (fun _ _ => rfl))) (j_p j_ve_int))) (j_p j_ve_int))) (j_p j_ve_int))
      (j_vs_cons (j_vs_ret (j_ve_tup (j_va_cons (j_va_e (j_vv 3)) (j_va_cons (j_va_e (j_vv 5)) (j_va_cons (j_va_e (j_ve_callTy call_tuple_of rc_tuple (by rfl) T.n_tuple (by rfl) (j_va_cons (j_va 9) j_va_nil))) j_va_nil)))))
      j_vs_nil)
      j_vs_nil)
      (j_vs_cons (j_vs_frz 9 (j_vs_ret (j_ve_tup (j_va_cons (j_va_e (j_vv 3)) (j_va_cons (j_va_e (j_vv 5)) (j_va_cons (j_va_e (j_vv 9)) j_va_nil))))))
      j_vs_nil))))))))))))) ?_
  rfl
theorem sc_law_asked : FnScope ["_law_line", "_law_picks", "_law_axis", "_law_at_here", "_law_level", "_law_values_here"] ["_law_line", "_law_picks", "_law_axis"] (defScope s_law_asked) := ⟨rfl, rfl, rfl, by decide +kernel, rfl, by decide +kernel, by decide +kernel⟩
theorem ok_law_asked (T : Tx K mg d) : FnOk P w K mg base CX0 2 d.a_law_asked d.d_law_asked ["_law_line", "_law_picks", "_law_axis"] (spD K F_law_asked) :=
  by
  refine fn_okJ (N := ["_law_line", "_law_picks", "_law_axis", "_law_at_here", "_law_level", "_law_values_here"]) (ps := ["_law_line", "_law_picks", "_law_axis"]) T.F_law_asked sc_law_asked (by decide) (g := g_law_asked) (fun cdv A outer s H E M H0 hr => ?_)
  refine j_conv (j_vs_cons (j_vs_for PassesOwn.never rfl (j_vi_seq (j_vq 1)) (j_vg_tup (n := 3) rfl (j_vgs_cons (j_vg_name (i := 3) sc_law_asked.nd rfl (Or.inl rfl)) (j_vgs_cons (j_vg_name (i := 4) sc_law_asked.nd rfl (Or.inl rfl)) (j_vgs_cons (j_vg_name (i := 5) sc_law_asked.nd rfl (Or.inl rfl)) j_vgs_nil))))
      (j_vs_cons (j_vs_if (j_pt (j_vw_and (j_vtc_eq hr.units (j_vp 3) (j_vp 2)) (j_vw_and1 (j_vtc_nin hr.units (j_p (j_ve_call (ok_law_at T) (hr.mono (by decide)) (by rfl) T.m_law_at T.F_law_at.kp T.b_law_at (E := E0) pass0 (j_va_cons (j_va 0) (j_va_cons (j_va 4) j_va_nil)))) (j_vp 5)))))
      (j_vs_cons (j_vs_ret j_ve_bl)
      j_vs_nil)
      j_vs_nil)
      j_vs_nil))
      (j_vs_cons (j_vs_ret j_ve_bl)
      j_vs_nil)) ?_
  rfl
theorem sc_key_rank : FnScope ["key"] ["key"] (defScope s_key_rank) := ⟨rfl, rfl, rfl, by decide +kernel, rfl, by decide +kernel, by decide +kernel⟩
theorem ok_key_rank (T : Tx K mg d) : FnOk P w K mg base CX0 3 d.a_key_rank d.d_key_rank ["key"] (spD K F_key_rank) :=
  by
  refine fn_okJ (N := ["key"]) (ps := ["key"]) T.F_key_rank sc_key_rank (by decide) (g := g_key_rank) (fun cdv A outer s H E M H0 hr => ?_)
  refine j_conv (j_vs_cons (j_vs_ret (j_ve_callTy call_tuple_of rc_tuple (by rfl) T.n_tuple (by rfl) (j_va_cons (j_va_e (j_fd (j_vf_comp ["thing"] [] [] (show CompSc ["thing"] [] _ (defScope s_key_rank) from ⟨rfl, by decide +kernel, by decide +kernel, by decide +kernel, by decide +kernel, by decide +kernel⟩) rfl rfl  (j_vi_seq (j_vq 0)) (fun _ _ _ _ _ _ _ => (j_vg_name (i := 0) (show ((["thing"] : List Str) ++ ([] : List Str)).Nodup by decide +kernel) rfl (Or.inl rfl))) (fun _ _ _ _ _ _ _ => j_vf_nil) (fun _ _ _ _ _ _ _ => (j_ve_call (ok_value_rank T) (hr.mono (by decide)) (by rfl) T.m_value_rank T.F_value_rank.kp T.b_value_rank (E := E0) pass0 (j_va_cons (j_va 0) j_va_nil))) (by decide)))) j_va_nil)))
      j_vs_nil) ?_
  rfl
theorem sc_is_pick : FnScope ["ladders", "thing"] ["ladders", "thing"] (defScope s_is_pick) := ⟨rfl, rfl, rfl, by decide +kernel, rfl, by decide +kernel, by decide +kernel⟩
theorem ok_is_pick (T : Tx K mg d) : FnOk P w K mg base CX0 3 d.a_is_pick d.d_is_pick ["ladders", "thing"] (spD K F_is_pick) :=
  by
  refine fn_okJ (N := ["ladders", "thing"]) (ps := ["ladders", "thing"]) T.F_is_pick sc_is_pick (by decide) (g := g_is_pick) (fun cdv A outer s H E M H0 hr => ?_)
  refine j_conv (j_vs_cons (j_vs_if (j_pt (j_vw_or (j_vt_not (j_vt_tru (j_p (j_ve_callB call_isD rc_is (by rfl) T.n_isinstance (by rfl) (j_va_cons (j_va 1) (j_va_cons (j_va_e (j_ve_tyn (n := "tuple") (by rfl) T.n_tuple (by rfl))) j_va_nil)))))) (j_vw_or1 (j_vtc_ne hr.units (j_p (j_ve_callB call_len rc_len (by rfl) T.n_len (by rfl) (j_va_cons (j_va 1) j_va_nil))) (j_p j_ve_int)))))
      (j_vs_cons (j_vs_ret j_ve_bl)
      j_vs_nil)
      j_vs_nil)
      (j_vs_cons (j_vs_if (j_pt (j_vw_or (j_vt_not (j_vt_tru (j_p (j_ve_call (ok_is_axis T) (hr.mono (by decide)) (by rfl) T.m_is_axis T.F_is_axis.kp T.b_is_axis (E := E0) pass0 (j_va_cons (j_va 0) (j_va_cons (j_va_e (j_ve_item (j_vp 1) (j_p j_ve_int) (fun _ _ => rfl))) j_va_nil)))))) (j_vw_or1 (j_vt_not (j_vt_tru (j_p (j_ve_call (ok_is_level T) (hr.mono (by decide)) (by rfl) T.m_is_level T.F_is_level.kp T.b_is_level (E := E0) pass0 (j_va_cons (j_va_e (j_ve_item (j_vp 0) (j_p (j_ve_item (j_vp 1) (j_p j_ve_int) (fun _ _ => rfl))) (fun _ _ => rfl))) (j_va_cons (j_va_e (j_ve_item (j_vp 1) (j_p j_ve_int) (fun _ _ => rfl))) j_va_nil)))))))))
      (j_vs_cons (j_vs_ret j_ve_bl)
      j_vs_nil)
      j_vs_nil)
      (j_vs_cons (j_vs_if (j_vt_not (j_vt_tru (j_p (j_ve_callB call_isD rc_is (by rfl) T.n_isinstance (by rfl) (j_va_cons (j_va_e (j_ve_item (j_vp 1) (j_p j_ve_int) (fun _ _ => rfl))) (j_va_cons (j_va_e (j_ve_tup (j_va_cons (j_va_e (j_ve_tyn (n := "list") (by rfl) T.n_list (by rfl))) (j_va_cons (j_va_e (j_ve_tyn (n := "tuple") (by rfl) T.n_tuple (by rfl))) j_va_nil)))) j_va_nil))))))
      (j_vs_cons (j_vs_ret j_ve_bl)
      j_vs_nil)
      j_vs_nil)
      (j_vs_cons (j_vs_ret (j_ve_callB (call_all rfl) rc_all (by rfl) T.n_all (by rfl) (j_va_cons (j_va_e (j_fd (j_vf_comp ["value"] [] [] (show CompSc ["value"] [] _ (defScope s_is_pick) from ⟨rfl, by decide +kernel, by decide +kernel, by decide +kernel, by decide +kernel, by decide +kernel⟩) rfl rfl  (j_vi_seq (j_q (j_ve_item (j_vp 1) (j_p j_ve_int) (fun _ _ => rfl)))) (fun _ _ _ _ _ _ _ => (j_vg_name (i := 0) (show ((["value"] : List Str) ++ ([] : List Str)).Nodup by decide +kernel) rfl (Or.inl rfl))) (fun _ _ _ _ _ _ _ => j_vf_nil) (fun _ _ _ _ _ _ _ => (j_ve_or (j_ve_isN (j_vp 0)) (j_ve_one (j_ve_call (ok_is_value T) (hr.mono (by decide)) (by rfl) T.m_is_value T.F_is_value.kp T.b_is_value (E := E0) pass0 (j_va_cons (j_va 0) j_va_nil))))) (by decide)))) j_va_nil)))
      j_vs_nil)))) ?_
  rfl
theorem sc_law_words : FnScope ["_law_cell", "_law_many", "_law_signs", "_law_way", "_law_base", "_law_size", "_law_at_here", "_law_found", "_law_k", "_law_word_here", "_law_sign"] ["_law_cell", "_law_many"] (defScope s_law_words) := ⟨rfl, rfl, rfl, by decide +kernel, rfl, by decide +kernel, by decide +kernel⟩
theorem ok_law_words (T : Tx K mg d) : FnOk P w K mg base CX0 3 d.a_law_words d.d_law_words ["_law_cell", "_law_many"] (spD K F_law_words) :=
  by
  refine fn_okJ (N := ["_law_cell", "_law_many", "_law_signs", "_law_way", "_law_base", "_law_size", "_law_at_here", "_law_found", "_law_k", "_law_word_here", "_law_sign"]) (ps := ["_law_cell", "_law_many"]) T.F_law_words sc_law_words (by decide) (g := g_law_words) (fun cdv A outer s H E M H0 hr => ?_)
  refine j_conv (j_vs_cons (j_vs_set (i := 2) sc_law_words.nd rfl (Or.inl rfl) j_ve_str)
      (j_vs_cons (j_vs_set (i := 3) sc_law_words.nd rfl (Or.inl rfl) (j_ve_call (ok_law_stream T) (hr.mono (by decide)) (by rfl) T.m_law_stream T.F_law_stream.kp T.b_law_stream (E := E0) pass0 (j_va_cons (j_va 0) (j_va_cons (j_va_e j_ve_int) j_va_nil))))
      (j_vs_cons (j_vs_set (i := 4) sc_law_words.nd rfl (Or.inl rfl) (j_ve_call (ok_law_word T) (hr.mono (by decide)) (by rfl) T.m_law_word T.F_law_word.kp T.b_law_word (E := E0) pass0 (j_va_cons (j_va 0) (j_va_cons (j_va_e j_ve_int) j_va_nil))))
      (j_vs_cons (j_vs_set (i := 5) sc_law_words.nd rfl (Or.inl rfl) (j_ve_add (j_p j_ve_int) (j_p (j_ve_mod (j_p (j_ve_item (j_vp 3) (j_p j_ve_int) (fun _ _ => rfl))) (j_p j_ve_int)))))
      (j_vs_cons (j_vs_set (i := 6) sc_law_words.nd rfl (Or.inl rfl) (j_ve_mod (j_p (j_ve_item (j_vp 3) (j_p j_ve_int) (fun _ _ => rfl))) (j_vp 5)))
      (j_vs_cons (j_vs_setF (i := 7) sc_law_words.nd rfl (Or.inl rfl) (j_vf_lst j_va_nil))
      (j_vs_cons (j_vs_for PassesOwn.never rfl (j_vi_range1 (by rfl) T.n_range (j_va_cons (j_va_e (j_vv 1)) j_va_nil)) (j_vg_name (i := 8) sc_law_words.nd rfl (Or.inl rfl))
      (j_vs_cons (j_vs_if (j_vtc_eq hr.units (j_p (j_ve_mod (j_p (j_ve_item (j_vp 3) (j_p j_ve_int) (fun _ _ => rfl))) (j_p j_ve_int))) (j_p j_ve_int))
      (j_vs_cons (j_vs_set (i := 9) sc_law_words.nd rfl (Or.inl rfl) (j_ve_call (ok_law_word T) (hr.mono (by decide)) (by rfl) T.m_law_word T.F_law_word.kp T.b_law_word (E := E0) pass0 (j_va_cons (j_va_e (j_ve_add (j_p (j_ve_item (j_vp 3) (j_p j_ve_int) (fun _ _ => rfl))) (j_p (j_ve_mul (j_p j_ve_int) (j_vp 8))))) (j_va_cons (j_va_e (j_ve_add (j_p j_ve_int) (j_p (j_ve_mod (j_p (j_ve_add (j_p (j_ve_item (j_vp 3) (j_p j_ve_int) (fun _ _ => rfl))) (j_p (j_ve_mul (j_p j_ve_int) (j_vp 8))))) (j_p j_ve_int))))) j_va_nil))))
      (j_vs_cons (j_vs_append (i := 7) rfl (by first | exact Or.inl rfl | exact Or.inr (Or.inl rfl)) (j_ve_add (j_p (j_ve_slice (j_vp 9) j_vo_none (j_vo_some (j_p (j_ve_neg (j_p j_ve_int)))))) (j_p (j_ve_item (j_vp 2) (j_p (j_ve_mod (j_p (j_ve_add (j_p (j_ve_item (j_vp 3) (j_p j_ve_int) (fun _ _ => rfl))) (j_vp 8))) (j_p j_ve_int))) (fun _ _ => rfl)))))
      j_vs_nil))
      (j_vs_cons (j_vs_if (j_vtc_eq hr.units (j_p (j_ve_mod (j_p (j_ve_item (j_vp 3) (j_p j_ve_int) (fun _ _ => rfl))) (j_p j_ve_int))) (j_p j_ve_int))
      (j_vs_cons (j_vs_append (i := 7) rfl (by first | exact Or.inl rfl | exact Or.inr (Or.inl rfl)) (j_ve_slice (j_vp 4) j_vo_none (j_vo_some (j_p (j_ve_add (j_p j_ve_int) (j_p (j_ve_mod (j_p (j_ve_add (j_p (j_ve_item (j_vp 3) (j_p j_ve_int) (fun _ _ => rfl))) (j_vp 8))) (j_p j_ve_int))))))))
      j_vs_nil)
      (j_vs_cons (j_vs_set (i := 10) sc_law_words.nd rfl (Or.inl rfl) (j_ve_item (j_vp 2) (j_p (j_ve_mod (j_p (j_ve_add (j_p (j_ve_item (j_vp 3) (j_p j_ve_int) (fun _ _ => rfl))) (j_vp 8))) (j_p j_ve_int))) (fun _ _ => rfl)))
      (j_vs_cons (j_vs_if (j_vtc_eq hr.units (j_vp 6) (j_p j_ve_int))
      (j_vs_cons (j_vs_set (i := 10) sc_law_words.nd rfl (Or.inl rfl) (j_ve_item (j_vp 2) (j_p (j_ve_mod (j_p (j_ve_add (j_p (j_ve_item (j_vp 3) (j_p j_ve_int) (fun _ _ => rfl))) (j_vp 8))) (j_p j_ve_int))) (fun _ _ => rfl)))
      j_vs_nil)
      j_vs_nil)
      (j_vs_cons (j_vs_append (i := 7) rfl (by first | exact Or.inl rfl | exact Or.inr (Or.inl rfl)) (j_ve_add (j_p (j_ve_add (j_p (j_ve_slice (j_vp 4) j_vo_none (j_vo_some (j_vp 6)))) (j_vp 10))) (j_p (j_ve_slice (j_vp 4) (j_vo_some (j_p (j_ve_add (j_vp 6) (j_p j_ve_int)))) (j_vo_some (j_vp 5))))))
      j_vs_nil))))
      j_vs_nil))
      j_vs_nil))
      (j_vs_cons (j_vret 7)
      j_vs_nil)))))))) ?_
  rfl
theorem sc_law_good : FnScope ["_law_found", "_law_ladder_here", "_law_picks", "_law_axis", "_law_due", "_law_k"] ["_law_found", "_law_ladder_here", "_law_picks", "_law_axis"] (defScope s_law_good) := ⟨rfl, rfl, rfl, by decide +kernel, rfl, by decide +kernel, by decide +kernel⟩
theorem ok_law_good (T : Tx K mg d) : FnOk P w K mg base CX0 3 d.a_law_good d.d_law_good ["_law_found", "_law_ladder_here", "_law_picks", "_law_axis"] (spD K F_law_good) :=
  by
  refine fn_okJ (N := ["_law_found", "_law_ladder_here", "_law_picks", "_law_axis", "_law_due", "_law_k"]) (ps := ["_law_found", "_law_ladder_here", "_law_picks", "_law_axis"]) T.F_law_good sc_law_good (by decide) (g := g_law_good) (fun cdv A outer s H E M H0 hr => ?_)
  refine j_conv (j_vs_cons (j_vs_setCompV (i := 4) ["_law_line"] ["_law_picks", "_law_axis"] [2, 3] (show CompSc ["_law_line"] ["_law_picks", "_law_axis"] _ (defScope s_law_good) from ⟨rfl, by decide +kernel, by decide +kernel, by decide +kernel, by decide +kernel, by decide +kernel⟩) rfl rfl sc_law_good.nd rfl rfl (j_vi_seq (j_vq 1)) (fun _ _ _ _ _ _ _ => (j_vg_name (i := 0) (show ((["_law_line"] : List Str) ++ (["_law_picks", "_law_axis"] : List Str)).Nodup by decide +kernel) rfl (Or.inl rfl))) (fun _ _ _ _ _ _ _ => (j_vf_one (j_vt_tru (j_p (j_ve_call (ok_law_asked T) (hr.mono (by decide)) (by rfl) T.m_law_asked T.F_law_asked.kp T.b_law_asked (E := E0) pass0 (j_va_cons (j_va 0) (j_va_cons (j_va 1) (j_va_cons (j_va 2) j_va_nil)))))))) (fun _ _ _ _ _ _ _ => (j_ve_item (j_vp 0) (j_p j_ve_int) (fun _ _ => rfl))) (by decide))
      (j_vs_cons (j_vs_if (j_pt (j_vw_or (j_vt_not (j_vt_tru (j_p (j_ve_callB call_isD rc_is (by rfl) T.n_isinstance (by rfl) (j_va_cons (j_va 0) (j_va_cons (j_va_e (j_ve_tyn (n := "list") (by rfl) T.n_list (by rfl))) j_va_nil)))))) (j_vw_or1 (j_vtc_ne hr.units (j_p (j_ve_callB call_len rc_len (by rfl) T.n_len (by rfl) (j_va_cons (j_va 0) j_va_nil))) (j_p (j_ve_callB call_len rc_len (by rfl) T.n_len (by rfl) (j_va_cons (j_va 4) j_va_nil)))))))
      (j_vs_cons (j_vs_ret j_ve_bl)
      j_vs_nil)
      j_vs_nil)
      (j_vs_cons (j_vs_for PassesOwn.never rfl (j_vi_range1 (by rfl) T.n_range (j_va_cons (j_va_e (j_ve_callB call_len rc_len (by rfl) T.n_len (by rfl) (j_va_cons (j_va 0) j_va_nil))) j_va_nil)) (j_vg_name (i := 5) sc_law_good.nd rfl (Or.inl rfl))
      (j_vs_cons (j_vs_if (j_pt (j_vw_or (j_vt_not (j_vt_tru (j_p (j_ve_callB call_isD rc_is (by rfl) T.n_isinstance (by rfl) (j_va_cons (j_va_e (j_ve_item (j_vp 0) (j_vp 5) (fun _ _ => rfl))) (j_va_cons (j_va_e (j_ve_tup (j_va_cons (j_va_e (j_ve_tyn (n := "int") (by rfl) T.n_int (by rfl))) (j_va_cons (j_va_e (j_ve_tyn (n := "str") (by rfl) T.n_str (by rfl))) j_va_nil)))) j_va_nil)))))) (j_vw_or1 (j_vtc_nin hr.units (j_p (j_ve_item (j_vp 0) (j_vp 5) (fun _ _ => rfl))) (j_vp 4)))))
      (j_vs_cons (j_vs_ret j_ve_bl)
      j_vs_nil)
      j_vs_nil)
      (j_vs_cons (j_vs_if (j_pt (j_vw_and (j_vtc_gt hr.units (j_vp 5) (j_p j_ve_int)) (j_vw_and1 (j_vt_not (j_vt_tru (j_p (j_ve_call (ok_law_ahead T) (hr.mono (by decide)) (by rfl) T.m_law_ahead T.F_law_ahead.kp T.b_law_ahead (E := E0) pass0 (j_va_cons (j_va_e (j_ve_item (j_vp 0) (j_p (j_ve_sub (j_vp 5) (j_p j_ve_int))) (fun _ _ => rfl))) (j_va_cons (j_va_e (j_ve_item (j_vp 0) (j_vp 5) (fun _ _ => rfl))) j_va_nil)))))))))
      (j_vs_cons (j_vs_ret j_ve_bl)
      j_vs_nil)
      j_vs_nil)
      j_vs_nil)))
      (j_vs_cons (j_vs_ret j_ve_bl)
      j_vs_nil)))) ?_
  rfl
theorem sc_is_picks : FnScope ["ladders", "thing"] ["ladders", "thing"] (defScope s_is_picks) := ⟨rfl, rfl, rfl, by decide +kernel, rfl, by decide +kernel, by decide +kernel⟩
theorem ok_is_picks (T : Tx K mg d) : FnOk P w K mg base CX0 4 d.a_is_picks d.d_is_picks ["ladders", "thing"] (spD K F_is_picks) :=
  by
  refine fn_okJ (N := ["ladders", "thing"]) (ps := ["ladders", "thing"]) T.F_is_picks sc_is_picks (by decide) (g := g_is_picks) (fun cdv A outer s H E M H0 hr => ?_)
  refine j_conv (j_vs_cons (j_vs_ret (j_ve_and (j_ve_callB call_isD rc_is (by rfl) T.n_isinstance (by rfl) (j_va_cons (j_va 1) (j_va_cons (j_va_e (j_ve_tyn (n := "list") (by rfl) T.n_list (by rfl))) j_va_nil))) (j_ve_one (j_ve_callB (call_all rfl) rc_all (by rfl) T.n_all (by rfl) (j_va_cons (j_va_e (j_fd (j_vf_comp ["pick"] ["ladders"] [0] (show CompSc ["pick"] ["ladders"] _ (defScope s_is_picks) from ⟨rfl, by decide +kernel, by decide +kernel, by decide +kernel, by decide +kernel, by decide +kernel⟩) rfl rfl  (j_vi_seq (j_vq 1)) (fun _ _ _ _ _ _ _ => (j_vg_name (i := 0) (show ((["pick"] : List Str) ++ (["ladders"] : List Str)).Nodup by decide +kernel) rfl (Or.inl rfl))) (fun _ _ _ _ _ _ _ => j_vf_nil) (fun _ _ _ _ _ _ _ => (j_ve_call (ok_is_pick T) (hr.mono (by decide)) (by rfl) T.m_is_pick T.F_is_pick.kp T.b_is_pick (E := E0) pass0 (j_va_cons (j_va 1) (j_va_cons (j_va 0) j_va_nil)))) (by decide)))) j_va_nil)))))
      j_vs_nil) ?_
  rfl
theorem sc_law_values : FnScope ["_law_cell", "_law_many", "_law_way", "_law_base", "_law_words_here"] ["_law_cell", "_law_many"] (defScope s_law_values) := ⟨rfl, rfl, rfl, by decide +kernel, rfl, by decide +kernel, by decide +kernel⟩
theorem ok_law_values (T : Tx K mg d) : FnOk P w K mg base CX0 4 d.a_law_values d.d_law_values ["_law_cell", "_law_many"] (spD K F_law_values) :=
  by
  refine fn_okJ (N := ["_law_cell", "_law_many", "_law_way", "_law_base", "_law_words_here"]) (ps := ["_law_cell", "_law_many"]) T.F_law_values sc_law_values (by decide) (g := g_law_values) (fun cdv A outer s H E M H0 hr => ?_)
  refine j_conv (j_vs_cons (j_vs_set (i := 2) sc_law_values.nd rfl (Or.inr rfl) (j_ve_call (ok_law_stream T) (hr.mono (by decide)) (by rfl) T.m_law_stream T.F_law_stream.kp T.b_law_stream (E := E0) pass0 (j_va_cons (j_va 0) (j_va_cons (j_va_e j_ve_int) j_va_nil))))
      (j_vs_cons (j_vs_set (i := 3) sc_law_values.nd rfl (Or.inr rfl) (j_ve_mul (j_p (j_ve_mod (j_p (j_ve_mul (j_vp 0) (j_p (j_ve_item (j_vp 2) (j_p j_ve_int) (fun _ _ => rfl))))) (j_p (j_ve_pow (j_p j_ve_int) (j_p j_ve_int))))) (j_p (j_ve_item (j_p (j_fd (j_vf_lst (j_va_cons (j_va_e j_ve_int) (j_va_cons (j_va_e (j_ve_neg (j_p j_ve_int))) j_va_nil))))) (j_p (j_ve_mod (j_p (j_ve_item (j_vp 2) (j_p j_ve_int) (fun _ _ => rfl))) (j_p j_ve_int))) (fun _ _ => rfl)))))
      (j_vs_cons (j_vs_if (j_pt (j_vw_or (j_vtc_eq hr.units (j_p (j_ve_mod (j_p (j_ve_item (j_vp 2) (j_p j_ve_int) (fun _ _ => rfl))) (j_p j_ve_int))) (j_p j_ve_int)) (j_vw_or1 (j_vtc_gt hr.units (j_vp 1) (j_p j_ve_int)))))
      (j_vs_cons (j_vs_retF (j_vf_comp ["_law_k"] ["_law_base"] [3] (show CompSc ["_law_k"] ["_law_base"] _ (defScope s_law_values) from ⟨rfl, by decide +kernel, by decide +kernel, by decide +kernel, by decide +kernel, by decide +kernel⟩) rfl rfl  (j_vi_range1 (by rfl) T.n_range (j_va_cons (j_va_e (j_vv 1)) j_va_nil)) (fun _ _ _ _ _ _ _ => (j_vg_name (i := 0) (show ((["_law_k"] : List Str) ++ (["_law_base"] : List Str)).Nodup by decide +kernel) rfl (Or.inl rfl))) (fun _ _ _ _ _ _ _ => j_vf_nil) (fun _ _ _ _ _ _ _ => (j_ve_add (j_vp 1) (j_vp 0))) (by decide)))
      j_vs_nil)
      j_vs_nil)
      (j_vs_cons (j_vs_set (i := 4) sc_law_values.nd rfl (Or.inr rfl) (j_ve_call (ok_law_words T) (hr.mono (by decide)) (by rfl) T.m_law_words T.F_law_words.kp T.b_law_words (E := E0) pass0 (j_va_cons (j_va_e (j_ve_item (j_vp 2) (j_p j_ve_int) (fun _ _ => rfl))) (j_va_cons (j_va 1) j_va_nil))))
      (j_vs_cons (j_vs_if (j_vtc_eq hr.units (j_p (j_ve_mod (j_p (j_ve_item (j_vp 2) (j_p j_ve_int) (fun _ _ => rfl))) (j_p j_ve_int))) (j_p j_ve_int))
      (j_vs_cons (j_vs_ret (j_vv 4))
      j_vs_nil)
      j_vs_nil)
      (j_vs_cons (j_vs_retF (j_vf_comp ["_law_k"] ["_law_base", "_law_words_here", "_law_way"] [3, 4, 2] (show CompSc ["_law_k"] ["_law_base", "_law_words_here", "_law_way"] _ (defScope s_law_values) from ⟨rfl, by decide +kernel, by decide +kernel, by decide +kernel, by decide +kernel, by decide +kernel⟩) rfl rfl  (j_vi_range1 (by rfl) T.n_range (j_va_cons (j_va_e (j_vv 1)) j_va_nil)) (fun _ _ _ _ _ _ _ => (j_vg_name (i := 0) (show ((["_law_k"] : List Str) ++ (["_law_base", "_law_words_here", "_law_way"] : List Str)).Nodup by decide +kernel) rfl (Or.inl rfl))) (fun _ _ _ _ _ _ _ => j_vf_nil) (fun _ _ _ _ _ _ _ => (j_ve_item (j_p (j_fd (j_vf_lst (j_va_cons (j_va_e (j_ve_add (j_vp 1) (j_vp 0))) (j_va_cons (j_va_e (j_ve_item (j_vp 2) (j_vp 0) (fun _ _ => rfl))) j_va_nil))))) (j_p (j_ve_mod (j_p (j_ve_add (j_p (j_ve_fdiv (j_p (j_ve_item (j_vp 3) (j_p j_ve_int) (fun _ _ => rfl))) (j_p j_ve_int))) (j_vp 0))) (j_p j_ve_int))) (fun _ _ => rfl))) (by decide)))
      j_vs_nil)))))) ?_
  rfl
theorem sc_law_ladder : FnScope ["_law_cell", "_law_many", "_law_width", "_law_row", "_law_lines", "_law_size", "_law_place", "_law_names", "_law_parents", "_law_longer", "_law_line", "_law_at_here"] ["_law_cell", "_law_many", "_law_width"] (defScope s_law_ladder) := ⟨rfl, rfl, rfl, by decide +kernel, rfl, by decide +kernel, by decide +kernel⟩
theorem ok_law_ladder (T : Tx K mg d) : FnOk P w K mg base CX0 5 d.a_law_ladder d.d_law_ladder ["_law_cell", "_law_many", "_law_width"] (spD K F_law_ladder) :=
  by
  refine fn_okJ (N := ["_law_cell", "_law_many", "_law_width", "_law_row", "_law_lines", "_law_size", "_law_place", "_law_names", "_law_parents", "_law_longer", "_law_line", "_law_at_here"]) (ps := ["_law_cell", "_law_many", "_law_width"]) T.F_law_ladder sc_law_ladder (by decide) (g := g_law_ladder) (fun cdv A outer s H E M H0 hr => ?_)
  refine j_conv (j_vs_cons (j_vs_set (i := 3) sc_law_ladder.nd rfl (Or.inl rfl) (j_ve_call (ok_law_stream T) (hr.mono (by decide)) (by rfl) T.m_law_stream T.F_law_stream.kp T.b_law_stream (E := E0) pass0 (j_va_cons (j_va 0) (j_va_cons (j_va_e j_ve_int) j_va_nil))))
      (j_vs_cons (j_vs_setCompV (i := 4) ["_law_value"] [] [] (show CompSc ["_law_value"] [] _ (defScope s_law_ladder) from ⟨rfl, by decide +kernel, by decide +kernel, by decide +kernel, by decide +kernel, by decide +kernel⟩) rfl rfl sc_law_ladder.nd rfl rfl (j_vi_seq (j_q (j_ve_call (ok_law_values T) (hr.mono (by decide)) (by rfl) T.m_law_values T.F_law_values.kp T.b_law_values (E := E0) pass0 (j_va_cons (j_va_e (j_ve_item (j_vp 3) (j_p j_ve_int) (fun _ _ => rfl))) (j_va_cons (j_va 1) j_va_nil))))) (fun _ _ _ _ _ _ _ => (j_vg_name (i := 0) (show ((["_law_value"] : List Str) ++ ([] : List Str)).Nodup by decide +kernel) rfl (Or.inl rfl))) (fun _ _ _ _ _ _ _ => j_vf_nil) (fun _ _ _ _ _ _ _ => (j_ve_tup (j_va_cons (j_va_e (j_vv 0)) j_va_nil))) (by decide))
      (j_vs_cons (j_vs_set (i := 5) sc_law_ladder.nd rfl (Or.inl rfl) (j_vv 1))
      (j_vs_cons (j_vs_for PassesOwn.never rfl (j_vi_range2 (by rfl) T.n_range (j_va_cons (j_va_e j_ve_int) (j_va_cons (j_va_e (j_vv 2)) j_va_nil))) (j_vg_name (i := 6) sc_law_ladder.nd rfl (Or.inl rfl))
      (j_vs_cons (j_vs_set (i := 5) sc_law_ladder.nd rfl (Or.inl rfl) (j_ve_add (j_p j_ve_int) (j_p (j_ve_mod (j_p (j_ve_item (j_vp 3) (j_vp 6) (fun _ _ => rfl))) (j_vp 5)))))
      (j_vs_cons (j_vs_set (i := 7) sc_law_ladder.nd rfl (Or.inl rfl) (j_ve_call (ok_law_values T) (hr.mono (by decide)) (by rfl) T.m_law_values T.F_law_values.kp T.b_law_values (E := E0) pass0 (j_va_cons (j_va_e (j_ve_item (j_vp 3) (j_p (j_ve_add (j_p j_ve_int) (j_vp 6))) (fun _ _ => rfl))) (j_va_cons (j_va 5) j_va_nil))))
      (j_vs_cons (j_vs_setG (i := 8) sc_law_ladder.nd rfl (Or.inl rfl) j_vd_new)
      (j_vs_cons (j_vs_setF (i := 9) sc_law_ladder.nd rfl (Or.inl rfl) (j_vf_lst j_va_nil))
      (j_vs_cons (j_vs_for PassesOwn.never rfl (j_vi_seq (j_vq 4)) (j_vg_name (i := 10) sc_law_ladder.nd rfl (Or.inl rfl))
      (j_vs_cons (j_vs_if (j_vtc_dnin hr.units (j_p (j_ve_item (j_vp 10) (j_p (j_ve_neg (j_p j_ve_int))) (fun _ _ => rfl))) (j_vp 8))
      (j_vs_cons (j_vs_dput (i := 8) hr.units (j_p (j_ve_item (j_vp 10) (j_p (j_ve_neg (j_p j_ve_int))) (fun _ _ => rfl))) (j_ve_item (j_vp 7) (j_p (j_ve_mod (j_p (j_ve_item (j_vp 3) (j_p (j_ve_add (j_p j_ve_int) (j_p (j_ve_mod (j_p (j_ve_add (j_p (j_ve_callB call_lenDc rc_dlen (by rfl) T.n_len (by rfl) (j_va_cons (j_va 8) j_va_nil))) (j_p (j_ve_mul (j_p j_ve_int) (j_vp 6))))) (j_p j_ve_int))))) (fun _ _ => rfl))) (j_vp 5))) (fun _ _ => rfl)))
      j_vs_nil)
      j_vs_nil)
      (j_vs_cons (j_vs_append (i := 9) rfl (by first | exact Or.inl rfl | exact Or.inr (Or.inl rfl)) (j_ve_add (j_vp 10) (j_p (j_ve_tup (j_va_cons (j_va_e (j_ve_dix hr.units (j_vp 8) (j_p (j_ve_item (j_vp 10) (j_p (j_ve_neg (j_p j_ve_int))) (fun _ _ => rfl))) (fun _ _ => rfl))) j_va_nil)))))
      j_vs_nil)))
      (j_vs_cons (j_vs_frz 9 (j_vs_set (i := 4) sc_law_ladder.nd rfl (Or.inl rfl) (j_vv 9)))
      j_vs_nil)))))))
      (j_vs_cons (j_vs_set (i := 11) sc_law_ladder.nd rfl (Or.inl rfl) (j_ve_mod (j_p (j_ve_item (j_vp 3) (j_p j_ve_int) (fun _ _ => rfl))) (j_vp 1)))
      (j_vs_cons (j_vs_ret (j_ve_add (j_p (j_ve_slice (j_vp 4) (j_vo_some (j_vp 11)) j_vo_none)) (j_p (j_ve_slice (j_vp 4) j_vo_none (j_vo_some (j_vp 11))))))
      j_vs_nil)))))) ?_
  rfl
theorem sc_in_order : FnScope ["keys", "told", "key"] ["keys"] (defScope s_in_order) := ⟨rfl, rfl, rfl, by decide +kernel, rfl, by decide +kernel, by decide +kernel⟩
theorem ok_in_order (T : Tx K mg d) : FnOk P w K mg base CX0 6 d.a_in_order d.d_in_order ["keys"] (spD K F_in_order) :=
  by
  refine fn_okJ (N := ["keys", "told", "key"]) (ps := ["keys"]) T.F_in_order sc_in_order (by decide) (g := g_in_order) (fun cdv A outer s H E M H0 hr => ?_)
  refine j_conv (j_vs_cons (j_vs_setF (i := 1) sc_in_order.nd rfl (Or.inl rfl) (j_vf_lst j_va_nil))
      (j_vs_cons (j_vs_for PassesOwn.never rfl (j_vi_seq (j_q (j_fd (j_vf_sortK (ok_key_rank T) (hr.mono (by decide)) (by rfl) T.n_sorted (by rfl) (by rfl) T.m_key_rank T.b_key_rank (j_vp 0))))) (j_vg_name (i := 2) sc_in_order.nd rfl (Or.inl rfl))
      (j_vs_cons (j_vs_if (j_pt (j_vw_or (j_vt_not (j_vt_tru (j_vp 1))) (j_vw_or1 (j_vtc_ne hr.units (j_p (j_ve_item (j_vp 1) (j_p (j_ve_neg (j_p j_ve_int))) (fun _ _ => rfl))) (j_vp 2)))))
      (j_vs_cons (j_vs_append (i := 1) rfl (by first | exact Or.inl rfl | exact Or.inr (Or.inl rfl)) (j_vv 2))
      j_vs_nil)
      j_vs_nil)
      j_vs_nil))
      (j_vs_cons (j_vret 1)
      j_vs_nil))) ?_
  rfl
theorem sc_law_ladders : FnScope ["_law_cell", "_law_most", "_law_row", "_law_ladders_here", "_law_k"] ["_law_cell", "_law_most"] (defScope s_law_ladders) := ⟨rfl, rfl, rfl, by decide +kernel, rfl, by decide +kernel, by decide +kernel⟩
theorem ok_law_ladders (T : Tx K mg d) : FnOk P w K mg base CX0 6 d.a_law_ladders d.d_law_ladders ["_law_cell", "_law_most"] (spD K F_law_ladders) :=
  by
  refine fn_okJ (N := ["_law_cell", "_law_most", "_law_row", "_law_ladders_here", "_law_k"]) (ps := ["_law_cell", "_law_most"]) T.F_law_ladders sc_law_ladders (by decide) (g := g_law_ladders) (fun cdv A outer s H E M H0 hr => ?_)
  refine j_conv (j_vs_cons (j_vs_set (i := 2) sc_law_ladders.nd rfl (Or.inl rfl) (j_ve_call (ok_law_stream T) (hr.mono (by decide)) (by rfl) T.m_law_stream T.F_law_stream.kp T.b_law_stream (E := E0) pass0 (j_va_cons (j_va 0) (j_va_cons (j_va_e j_ve_int) j_va_nil))))
      (j_vs_cons (j_vs_setF (i := 3) sc_law_ladders.nd rfl (Or.inl rfl) (j_vf_lst j_va_nil))
      (j_vs_cons (j_vs_for PassesOwn.never rfl (j_vi_range1 (by rfl) T.n_range (j_va_cons (j_va_e (j_ve_add (j_p j_ve_int) (j_p (j_ve_mod (j_p (j_ve_item (j_vp 2) (j_p j_ve_int) (fun _ _ => rfl))) (j_vp 1))))) j_va_nil)) (j_vg_name (i := 4) sc_law_ladders.nd rfl (Or.inl rfl))
      (j_vs_cons (j_vs_append (i := 3) rfl (by first | exact Or.inl rfl | exact Or.inr (Or.inl rfl)) (j_ve_call (ok_law_ladder T) (hr.mono (by decide)) (by rfl) T.m_law_ladder T.F_law_ladder.kp T.b_law_ladder (E := E0) pass0 (j_va_cons (j_va_e (j_ve_add (j_vp 0) (j_p (j_ve_item (j_vp 2) (j_p (j_ve_add (j_p j_ve_int) (j_vp 4))) (fun _ _ => rfl))))) (j_va_cons (j_va_e (j_ve_add (j_p j_ve_int) (j_p (j_ve_mod (j_p (j_ve_item (j_vp 2) (j_p (j_ve_add (j_p j_ve_int) (j_vp 4))) (fun _ _ => rfl))) (j_p j_ve_int))))) (j_va_cons (j_va_e (j_ve_add (j_p j_ve_int) (j_p (j_ve_mod (j_p (j_ve_fdiv (j_p (j_ve_item (j_vp 2) (j_p (j_ve_add (j_p j_ve_int) (j_vp 4))) (fun _ _ => rfl))) (j_p j_ve_int))) (j_p j_ve_int))))) j_va_nil)))))
      j_vs_nil))
      (j_vs_cons (j_vret 3)
      j_vs_nil)))) ?_
  rfl
theorem sc_values_in_order : FnScope ["values"] ["values"] (defScope s_values_in_order) := ⟨rfl, rfl, rfl, by decide +kernel, rfl, by decide +kernel, by decide +kernel⟩
theorem ok_values_in_order (T : Tx K mg d) : FnOk P w K mg base CX0 7 d.a_values_in_order d.d_values_in_order ["values"] (spD K F_values_in_order) :=
  by
  refine fn_okJ (N := ["values"]) (ps := ["values"]) T.F_values_in_order sc_values_in_order (by decide) (g := g_values_in_order) (fun cdv A outer s H E M H0 hr => ?_)
  refine j_conv (j_vs_cons (j_vs_retF (j_vf_comp ["key"] [] [] (show CompSc ["key"] [] _ (defScope s_values_in_order) from ⟨rfl, by decide +kernel, by decide +kernel, by decide +kernel, by decide +kernel, by decide +kernel⟩) rfl rfl  (j_vi_seq (j_q (j_ve_call (ok_in_order T) (hr.mono (by decide)) (by rfl) T.m_in_order T.F_in_order.kp T.b_in_order (E := E0) pass0 (j_va_cons (j_va_e (j_fd (j_vf_comp ["value"] [] [] (show CompSc ["value"] [] _ (defScope s_values_in_order) from ⟨rfl, by decide +kernel, by decide +kernel, by decide +kernel, by decide +kernel, by decide +kernel⟩) rfl rfl  (j_vi_seq (j_vq 0)) (fun _ _ _ _ _ _ _ => (j_vg_name (i := 0) (show ((["value"] : List Str) ++ ([] : List Str)).Nodup by decide +kernel) rfl (Or.inl rfl))) (fun _ _ _ _ _ _ _ => j_vf_nil) (fun _ _ _ _ _ _ _ => (j_ve_tup (j_va_cons (j_va_e (j_vv 0)) j_va_nil))) (by decide)))) j_va_nil)))) (fun _ _ _ _ _ _ _ => (j_vg_name (i := 0) (show ((["key"] : List Str) ++ ([] : List Str)).Nodup by decide +kernel) rfl (Or.inl rfl))) (fun _ _ _ _ _ _ _ => j_vf_nil) (fun _ _ _ _ _ _ _ => (j_ve_item (j_vp 0) (j_p j_ve_int) (fun _ _ => rfl))) (by decide)))
      j_vs_nil) ?_
  rfl
theorem sc_picked : FnScope ["ladders", "picks", "axis", "lines", "pick", "among"] ["ladders", "picks", "axis"] (defScope s_picked) := ⟨rfl, rfl, rfl, by decide +kernel, rfl, by decide +kernel, by decide +kernel⟩
theorem ok_picked (T : Tx K mg d) : FnOk P w K mg base CX0 8 d.a_picked d.d_picked ["ladders", "picks", "axis"] (spD K F_picked) :=
  by
  refine fn_okJ (N := ["ladders", "picks", "axis", "lines", "pick", "among"]) (ps := ["ladders", "picks", "axis"]) T.F_picked sc_picked (by decide) (g := g_picked) (fun cdv A outer s H E M H0 hr => ?_)
  refine j_conv (j_vs_cons (j_vs_set (i := 3) sc_picked.nd rfl (Or.inl rfl) (j_ve_item (j_vp 0) (j_vp 2) (fun _ _ => rfl)))
      (j_vs_cons (j_vs_for PassesOwn.never rfl (j_vi_seq (j_vq 1)) (j_vg_name (i := 4) sc_picked.nd rfl (Or.inr rfl))
      (j_vs_cons (j_vs_if (j_vtc_eq hr.units (j_p (j_ve_item (j_vp 4) (j_p j_ve_int) (fun _ _ => rfl))) (j_vp 2))
      (j_vs_cons (j_vs_setG (i := 5) sc_picked.nd rfl (Or.inr rfl) (j_vd_of rfl hr.units (by rfl) T.n_dict (j_p (j_fd (j_vf_comp ["value"] [] [] (show CompSc ["value"] [] _ (defScope s_picked) from ⟨rfl, by decide +kernel, by decide +kernel, by decide +kernel, by decide +kernel, by decide +kernel⟩) rfl rfl  (j_vi_seq (j_q (j_ve_item (j_vp 4) (j_p j_ve_int) (fun _ _ => rfl)))) (fun _ _ _ _ _ _ _ => (j_vg_name (i := 0) (show ((["value"] : List Str) ++ ([] : List Str)).Nodup by decide +kernel) rfl (Or.inl rfl))) (fun _ _ _ _ _ _ _ => j_vf_nil) (fun _ _ _ _ _ _ _ => (j_ve_tup (j_va_cons (j_va_e (j_vv 0)) (j_va_cons (j_va_e j_ve_bl) j_va_nil)))) (by decide))))))
      (j_vs_cons (j_vs_setCompV (i := 3) ["line"] ["pick", "among"] [4, 5] (show CompSc ["line"] ["pick", "among"] _ (defScope s_picked) from ⟨rfl, by decide +kernel, by decide +kernel, by decide +kernel, by decide +kernel, by decide +kernel⟩) rfl rfl sc_picked.nd rfl rfl (j_vi_seq (j_vq 3)) (fun _ _ _ _ _ _ _ => (j_vg_name (i := 0) (show ((["line"] : List Str) ++ (["pick", "among"] : List Str)).Nodup by decide +kernel) rfl (Or.inl rfl))) (fun _ _ _ _ _ _ _ => (j_vf_one (j_vtc_din hr.units (j_p (j_ve_call (ok_line_at T) (hr.mono (by decide)) (by rfl) T.m_line_at T.F_line_at.kp T.b_line_at (E := E0) pass0 (j_va_cons (j_va 0) (j_va_cons (j_va_e (j_ve_item (j_vp 1) (j_p j_ve_int) (fun _ _ => rfl))) j_va_nil)))) (j_vp 2)))) (fun _ _ _ _ _ _ _ => (j_vv 0)) (by decide))
      j_vs_nil))
      j_vs_nil)
      j_vs_nil))
      (j_vs_cons (j_vs_retF (j_vf_call (ok_values_in_order T) (hr.mono (by decide)) (by rfl) T.m_values_in_order T.F_values_in_order.kp T.b_values_in_order (E := E0) pass0 (j_va_cons (j_va_e (j_fd (j_vf_comp ["line"] [] [] (show CompSc ["line"] [] _ (defScope s_picked) from ⟨rfl, by decide +kernel, by decide +kernel, by decide +kernel, by decide +kernel, by decide +kernel⟩) rfl rfl  (j_vi_seq (j_vq 3)) (fun _ _ _ _ _ _ _ => (j_vg_name (i := 0) (show ((["line"] : List Str) ++ ([] : List Str)).Nodup by decide +kernel) rfl (Or.inl rfl))) (fun _ _ _ _ _ _ _ => j_vf_nil) (fun _ _ _ _ _ _ _ => (j_ve_item (j_vp 0) (j_p j_ve_int) (fun _ _ => rfl))) (by decide)))) j_va_nil)))
      j_vs_nil))) ?_
  rfl
theorem sc_law : FnScope ["_law_script", "_law_way", "_law_ladders_here", "_law_kept", "_law_picks", "_law_handed", "_law_told", "_law_axis", "_law_found"] ["_law_script"] (defScope s_law) := ⟨rfl, rfl, rfl, by decide +kernel, rfl, by decide +kernel, by decide +kernel⟩
theorem ok_law (T : Tx K mg d) : FnOk P w K mg base CX0 9 d.a_law d.d_law ["_law_script"] (spD K F_law) :=
  by
  refine fn_okJ (N := ["_law_script", "_law_way", "_law_ladders_here", "_law_kept", "_law_picks", "_law_handed", "_law_told", "_law_axis", "_law_found"]) (ps := ["_law_script"]) T.F_law sc_law (by decide) (g := g_law) (fun cdv A outer s H E M H0 hr => ?_)
  refine j_conv (j_vs_cons (j_vs_set (i := 1) sc_law.nd rfl (Or.inl rfl) (j_ve_call (ok_law_stream T) (hr.mono (by decide)) (by rfl) T.m_law_stream T.F_law_stream.kp T.b_law_stream (E := E0) pass0 (j_va_cons (j_va_e (j_ve_call (ok_law_cell_at T) (hr.mono (by decide)) (by rfl) T.m_law_cell_at T.F_law_cell_at.kp T.b_law_cell_at (E := E0) pass0 (j_va_cons (j_va 0) (j_va_cons (j_va_e j_ve_int) j_va_nil)))) (j_va_cons (j_va_e j_ve_int) j_va_nil))))
      (j_vs_cons (j_vs_set (i := 2) sc_law.nd rfl (Or.inl rfl) (j_ve_call (ok_law_ladders T) (hr.mono (by decide)) (by rfl) T.m_law_ladders T.F_law_ladders.kp T.b_law_ladders (E := E0) pass0 (j_va_cons (j_va_e (j_ve_call (ok_law_cell_at T) (hr.mono (by decide)) (by rfl) T.m_law_cell_at T.F_law_cell_at.kp T.b_law_cell_at (E := E0) pass0 (j_va_cons (j_va 0) (j_va_cons (j_va_e j_ve_int) j_va_nil)))) (j_va_cons (j_va_e j_ve_int) j_va_nil))))
      (j_vs_cons (j_vs_set (i := 3) sc_law.nd rfl (Or.inr rfl) (j_fd (j_vf_comp ["_law_ladder_here"] [] [] (show CompSc ["_law_ladder_here"] [] _ (defScope s_law) from ⟨rfl, by decide +kernel, by decide +kernel, by decide +kernel, by decide +kernel, by decide +kernel⟩) rfl rfl  (j_vi_seq (j_vq 2)) (fun _ _ _ _ _ _ _ => (j_vg_name (i := 0) (show ((["_law_ladder_here"] : List Str) ++ ([] : List Str)).Nodup by decide +kernel) rfl (Or.inl rfl))) (fun _ _ _ _ _ _ _ => j_vf_nil) (fun _ _ _ _ _ _ _ => (j_fd (j_vf_callTy call_list_of rc_list (by rfl) T.n_list (by rfl) (j_va_cons (j_va 0) j_va_nil)))) (by decide))))
      (j_vs_cons (j_vs_setCompV (i := 4) ["_law_cell"] ["_law_kept"] [3] (show CompSc ["_law_cell"] ["_law_kept"] _ (defScope s_law) from ⟨rfl, by decide +kernel, by decide +kernel, by decide +kernel, by decide +kernel, by decide +kernel⟩) rfl rfl sc_law.nd rfl rfl (j_vi_seq (j_q (j_ve_add (j_p (j_ve_slice (j_vp 0) (j_vo_some (j_p j_ve_int)) (j_vo_some (j_p j_ve_int)))) (j_p (j_ve_call (ok_law_stream T) (hr.mono (by decide)) (by rfl) T.m_law_stream T.F_law_stream.kp T.b_law_stream (E := E0) pass0 (j_va_cons (j_va_e (j_ve_item (j_vp 1) (j_p j_ve_int) (fun _ _ => rfl))) (j_va_cons (j_va_e (j_ve_mod (j_p (j_ve_item (j_vp 1) (j_p j_ve_int) (fun _ _ => rfl))) (j_p j_ve_int))) j_va_nil))))))) (fun _ _ _ _ _ _ _ => (j_vg_name (i := 0) (show ((["_law_cell"] : List Str) ++ (["_law_kept"] : List Str)).Nodup by decide +kernel) rfl (Or.inl rfl))) (fun _ _ _ _ _ _ _ => j_vf_nil) (fun _ _ _ _ _ _ _ => (j_ve_call (ok_law_pick T) (hr.mono (by decide)) (by rfl) T.m_law_pick T.F_law_pick.kp T.b_law_pick (E := E0) pass0 (j_va_cons (j_va 0) (j_va_cons (j_va 1) j_va_nil)))) (by decide))
      (j_vs_cons (j_vs_set (i := 5) sc_law.nd rfl (Or.inl rfl) (j_ve_call (ok_law_copied T) (hr.mono (by decide)) (by rfl) T.m_law_copied T.F_law_copied.kp T.b_law_copied (E := E0) pass0 (j_va_cons (j_va 4) j_va_nil)))
      (j_vs_cons (j_vs_set (i := 6) sc_law.nd rfl (Or.inl rfl) (j_ve_call (ok_is_picks T) (hr.mono (by decide)) (by rfl) T.m_is_picks T.F_is_picks.kp T.b_is_picks (E := E0) pass0 (j_va_cons (j_va 2) (j_va_cons (j_va 5) j_va_nil))))
      (j_vs_cons (j_vs_if (j_pt (j_vw_or (j_vt_not (j_vt_tru (j_p (j_ve_callB call_isD rc_is (by rfl) T.n_isinstance (by rfl) (j_va_cons (j_va 6) (j_va_cons (j_va_e (j_ve_tyn (n := "bool") (by rfl) T.n_bool (by rfl))) j_va_nil)))))) (j_vw_or1 (j_vt_not (j_vt_tru (j_vp 6))))))
      (j_vs_cons (j_vs_ret j_ve_bl)
      j_vs_nil)
      j_vs_nil)
      (j_vs_cons (j_vs_for PassesOwn.never rfl (j_vi_range1 (by rfl) T.n_range (j_va_cons (j_va_e (j_ve_callB call_len rc_len (by rfl) T.n_len (by rfl) (j_va_cons (j_va 3) j_va_nil))) j_va_nil)) (j_vg_name (i := 7) sc_law.nd rfl (Or.inl rfl))
      (j_vs_cons (j_vs_setF (i := 8) sc_law.nd rfl (Or.inl rfl) (j_vf_call (ok_picked T) (hr.mono (by decide)) (by rfl) T.m_picked T.F_picked.kp T.b_picked (E := E0) pass0 (j_va_cons (j_va 2) (j_va_cons (j_va 5) (j_va_cons (j_va 7) j_va_nil)))))
      (j_vs_cons (j_vs_if (j_vt_not (j_vt_tru (j_p (j_ve_call (ok_law_good T) (hr.mono (by decide)) (by rfl) T.m_law_good T.F_law_good.kp T.b_law_good (E := E0) pass0 (j_va_cons (j_va 8) (j_va_cons (j_va_e (j_ve_item (j_vp 3) (j_vp 7) (fun _ _ => rfl))) (j_va_cons (j_va 4) (j_va_cons (j_va 7) j_va_nil))))))))
      (j_vs_cons (j_vs_ret j_ve_bl)
      j_vs_nil)
      j_vs_nil)
      (j_vs_cons (j_vs_append (i := 8) rfl (by first | exact Or.inl rfl | exact Or.inr (Or.inl rfl)) j_ve_str)
      (j_vs_cons (j_vs_if (j_vt_not (j_vt_tru (j_p (j_ve_call (ok_law_good T) (hr.mono (by decide)) (by rfl) T.m_law_good T.F_law_good.kp T.b_law_good (E := E0) pass0 (j_va_cons (j_va_e (j_ve_call (ok_picked T) (hr.mono (by decide)) (by rfl) T.m_picked T.F_picked.kp T.b_picked (E := E0) pass0 (j_va_cons (j_va 2) (j_va_cons (j_va 5) (j_va_cons (j_va 7) j_va_nil))))) (j_va_cons (j_va_e (j_ve_item (j_vp 3) (j_vp 7) (fun _ _ => rfl))) (j_va_cons (j_va 4) (j_va_cons (j_va 7) j_va_nil))))))))
      (j_vs_cons (j_vs_ret j_ve_bl)
      j_vs_nil)
      j_vs_nil)
      j_vs_nil)))))
      (j_vs_cons (j_vs_ret (j_ve_and (j_vc_eq hr.units (j_vp 5) (j_vp 4)) (j_ve_one (j_vc_eq hr.units (j_vp 2) (j_vp 3)))))
      j_vs_nil))))))))) ?_
  rfl
end
theorem all_mk {l : PySem.W.OpenLaw} {w : World} {K : PySem.W.Frag} {h : Heap} {mg : Str → Option Value} {fa : Addr} (X : K.In h) (G : h.Ns mainGlobals mg) (hfa : mg "law" = some (.ref fa))
    {a_is_whole : Addr} {od_is_whole an_is_whole : Option Addr} {sl_is_whole : Array (Option Value)} {oc_is_whole kV_is_whole dc_is_whole pm_is_whole cd_is_whole ct_is_whole : Value}
    {a_is_word : Addr} {od_is_word an_is_word : Option Addr} {sl_is_word : Array (Option Value)} {oc_is_word kV_is_word dc_is_word pm_is_word cd_is_word ct_is_word : Value}
    {a_is_value : Addr} {od_is_value an_is_value : Option Addr} {sl_is_value : Array (Option Value)} {oc_is_value kV_is_value dc_is_value pm_is_value cd_is_value ct_is_value : Value}
    {a_value_rank : Addr} {od_value_rank an_value_rank : Option Addr} {sl_value_rank : Array (Option Value)} {oc_value_rank kV_value_rank dc_value_rank pm_value_rank cd_value_rank ct_value_rank : Value}
    {a_key_rank : Addr} {od_key_rank an_key_rank : Option Addr} {sl_key_rank : Array (Option Value)} {oc_key_rank kV_key_rank dc_key_rank pm_key_rank cd_key_rank ct_key_rank : Value}
    {a_in_order : Addr} {od_in_order an_in_order : Option Addr} {sl_in_order : Array (Option Value)} {oc_in_order kV_in_order dc_in_order pm_in_order cd_in_order ct_in_order : Value}
    {a_whole_of : Addr} {od_whole_of an_whole_of : Option Addr} {sl_whole_of : Array (Option Value)} {oc_whole_of kV_whole_of dc_whole_of pm_whole_of cd_whole_of ct_whole_of : Value}
    {a_line_at : Addr} {od_line_at an_line_at : Option Addr} {sl_line_at : Array (Option Value)} {oc_line_at kV_line_at dc_line_at pm_line_at cd_line_at ct_line_at : Value}
    {a_values_in_order : Addr} {od_values_in_order an_values_in_order : Option Addr} {sl_values_in_order : Array (Option Value)} {oc_values_in_order kV_values_in_order dc_values_in_order pm_values_in_order cd_values_in_order ct_values_in_order : Value}
    {a_is_axis : Addr} {od_is_axis an_is_axis : Option Addr} {sl_is_axis : Array (Option Value)} {oc_is_axis kV_is_axis dc_is_axis pm_is_axis cd_is_axis ct_is_axis : Value}
    {a_is_level : Addr} {od_is_level an_is_level : Option Addr} {sl_is_level : Array (Option Value)} {oc_is_level kV_is_level dc_is_level pm_is_level cd_is_level ct_is_level : Value}
    {a_is_pick : Addr} {od_is_pick an_is_pick : Option Addr} {sl_is_pick : Array (Option Value)} {oc_is_pick kV_is_pick dc_is_pick pm_is_pick cd_is_pick ct_is_pick : Value}
    {a_is_picks : Addr} {od_is_picks an_is_picks : Option Addr} {sl_is_picks : Array (Option Value)} {oc_is_picks kV_is_picks dc_is_picks pm_is_picks cd_is_picks ct_is_picks : Value}
    {a_picked : Addr} {od_picked an_picked : Option Addr} {sl_picked : Array (Option Value)} {oc_picked kV_picked dc_picked pm_picked cd_picked ct_picked : Value}
    {a_law_cell_at : Addr} {od_law_cell_at an_law_cell_at : Option Addr} {sl_law_cell_at : Array (Option Value)} {oc_law_cell_at kV_law_cell_at dc_law_cell_at pm_law_cell_at cd_law_cell_at ct_law_cell_at : Value}
    {a_law_stream : Addr} {od_law_stream an_law_stream : Option Addr} {sl_law_stream : Array (Option Value)} {oc_law_stream kV_law_stream dc_law_stream pm_law_stream cd_law_stream ct_law_stream : Value}
    {a_law_word : Addr} {od_law_word an_law_word : Option Addr} {sl_law_word : Array (Option Value)} {oc_law_word kV_law_word dc_law_word pm_law_word cd_law_word ct_law_word : Value}
    {a_law_words : Addr} {od_law_words an_law_words : Option Addr} {sl_law_words : Array (Option Value)} {oc_law_words kV_law_words dc_law_words pm_law_words cd_law_words ct_law_words : Value}
    {a_law_values : Addr} {od_law_values an_law_values : Option Addr} {sl_law_values : Array (Option Value)} {oc_law_values kV_law_values dc_law_values pm_law_values cd_law_values ct_law_values : Value}
    {a_law_ladder : Addr} {od_law_ladder an_law_ladder : Option Addr} {sl_law_ladder : Array (Option Value)} {oc_law_ladder kV_law_ladder dc_law_ladder pm_law_ladder cd_law_ladder ct_law_ladder : Value}
    {a_law_ladders : Addr} {od_law_ladders an_law_ladders : Option Addr} {sl_law_ladders : Array (Option Value)} {oc_law_ladders kV_law_ladders dc_law_ladders pm_law_ladders cd_law_ladders ct_law_ladders : Value}
    {a_law_at : Addr} {od_law_at an_law_at : Option Addr} {sl_law_at : Array (Option Value)} {oc_law_at kV_law_at dc_law_at pm_law_at cd_law_at ct_law_at : Value}
    {a_law_pick : Addr} {od_law_pick an_law_pick : Option Addr} {sl_law_pick : Array (Option Value)} {oc_law_pick kV_law_pick dc_law_pick pm_law_pick cd_law_pick ct_law_pick : Value}
    {a_law_copied : Addr} {od_law_copied an_law_copied : Option Addr} {sl_law_copied : Array (Option Value)} {oc_law_copied kV_law_copied dc_law_copied pm_law_copied cd_law_copied ct_law_copied : Value}
    {a_law_ahead : Addr} {od_law_ahead an_law_ahead : Option Addr} {sl_law_ahead : Array (Option Value)} {oc_law_ahead kV_law_ahead dc_law_ahead pm_law_ahead cd_law_ahead ct_law_ahead : Value}
    {a_law_asked : Addr} {od_law_asked an_law_asked : Option Addr} {sl_law_asked : Array (Option Value)} {oc_law_asked kV_law_asked dc_law_asked pm_law_asked cd_law_asked ct_law_asked : Value}
    {a_law_good : Addr} {od_law_good an_law_good : Option Addr} {sl_law_good : Array (Option Value)} {oc_law_good kV_law_good dc_law_good pm_law_good cd_law_good ct_law_good : Value}
    {a_law : Addr} {od_law an_law : Option Addr} {sl_law : Array (Option Value)} {oc_law kV_law dc_law pm_law cd_law ct_law : Value}
    {t_FIGURES : Tok}
    {t_LETTERS : Tok}
    {t_LONGEST_WORD : Tok}
    (A_is_whole : PySem.W.nsIn K mainGlobals "is_whole" = some (some (.ref a_is_whole)))
    (L_is_whole : K.lookup a_is_whole = some ⟨oc_is_whole, od_is_whole, .func (PySem.W.fnOf "is_whole" "is_whole" (defArgs s_is_whole) (defBody s_is_whole) (defScope s_is_whole) .none kV_is_whole dc_is_whole pm_is_whole an_is_whole cd_is_whole ct_is_whole), sl_is_whole⟩)
    (C_is_whole : PySem.W.codeIn K cd_is_whole "is_whole" = true) (k_is_whole : PySem.W.keepIn K (.ref a_is_whole) = true)
    (A_is_word : PySem.W.nsIn K mainGlobals "is_word" = some (some (.ref a_is_word)))
    (L_is_word : K.lookup a_is_word = some ⟨oc_is_word, od_is_word, .func (PySem.W.fnOf "is_word" "is_word" (defArgs s_is_word) (defBody s_is_word) (defScope s_is_word) .none kV_is_word dc_is_word pm_is_word an_is_word cd_is_word ct_is_word), sl_is_word⟩)
    (C_is_word : PySem.W.codeIn K cd_is_word "is_word" = true) (k_is_word : PySem.W.keepIn K (.ref a_is_word) = true)
    (A_is_value : PySem.W.nsIn K mainGlobals "is_value" = some (some (.ref a_is_value)))
    (L_is_value : K.lookup a_is_value = some ⟨oc_is_value, od_is_value, .func (PySem.W.fnOf "is_value" "is_value" (defArgs s_is_value) (defBody s_is_value) (defScope s_is_value) .none kV_is_value dc_is_value pm_is_value an_is_value cd_is_value ct_is_value), sl_is_value⟩)
    (C_is_value : PySem.W.codeIn K cd_is_value "is_value" = true) (k_is_value : PySem.W.keepIn K (.ref a_is_value) = true)
    (A_value_rank : PySem.W.nsIn K mainGlobals "value_rank" = some (some (.ref a_value_rank)))
    (L_value_rank : K.lookup a_value_rank = some ⟨oc_value_rank, od_value_rank, .func (PySem.W.fnOf "value_rank" "value_rank" (defArgs s_value_rank) (defBody s_value_rank) (defScope s_value_rank) .none kV_value_rank dc_value_rank pm_value_rank an_value_rank cd_value_rank ct_value_rank), sl_value_rank⟩)
    (C_value_rank : PySem.W.codeIn K cd_value_rank "value_rank" = true) (k_value_rank : PySem.W.keepIn K (.ref a_value_rank) = true)
    (A_key_rank : PySem.W.nsIn K mainGlobals "key_rank" = some (some (.ref a_key_rank)))
    (L_key_rank : K.lookup a_key_rank = some ⟨oc_key_rank, od_key_rank, .func (PySem.W.fnOf "key_rank" "key_rank" (defArgs s_key_rank) (defBody s_key_rank) (defScope s_key_rank) .none kV_key_rank dc_key_rank pm_key_rank an_key_rank cd_key_rank ct_key_rank), sl_key_rank⟩)
    (C_key_rank : PySem.W.codeIn K cd_key_rank "key_rank" = true) (k_key_rank : PySem.W.keepIn K (.ref a_key_rank) = true)
    (A_in_order : PySem.W.nsIn K mainGlobals "in_order" = some (some (.ref a_in_order)))
    (L_in_order : K.lookup a_in_order = some ⟨oc_in_order, od_in_order, .func (PySem.W.fnOf "in_order" "in_order" (defArgs s_in_order) (defBody s_in_order) (defScope s_in_order) .none kV_in_order dc_in_order pm_in_order an_in_order cd_in_order ct_in_order), sl_in_order⟩)
    (C_in_order : PySem.W.codeIn K cd_in_order "in_order" = true) (k_in_order : PySem.W.keepIn K (.ref a_in_order) = true)
    (A_whole_of : PySem.W.nsIn K mainGlobals "whole_of" = some (some (.ref a_whole_of)))
    (L_whole_of : K.lookup a_whole_of = some ⟨oc_whole_of, od_whole_of, .func (PySem.W.fnOf "whole_of" "whole_of" (defArgs s_whole_of) (defBody s_whole_of) (defScope s_whole_of) .none kV_whole_of dc_whole_of pm_whole_of an_whole_of cd_whole_of ct_whole_of), sl_whole_of⟩)
    (C_whole_of : PySem.W.codeIn K cd_whole_of "whole_of" = true) (k_whole_of : PySem.W.keepIn K (.ref a_whole_of) = true)
    (A_line_at : PySem.W.nsIn K mainGlobals "line_at" = some (some (.ref a_line_at)))
    (L_line_at : K.lookup a_line_at = some ⟨oc_line_at, od_line_at, .func (PySem.W.fnOf "line_at" "line_at" (defArgs s_line_at) (defBody s_line_at) (defScope s_line_at) .none kV_line_at dc_line_at pm_line_at an_line_at cd_line_at ct_line_at), sl_line_at⟩)
    (C_line_at : PySem.W.codeIn K cd_line_at "line_at" = true) (k_line_at : PySem.W.keepIn K (.ref a_line_at) = true)
    (A_values_in_order : PySem.W.nsIn K mainGlobals "values_in_order" = some (some (.ref a_values_in_order)))
    (L_values_in_order : K.lookup a_values_in_order = some ⟨oc_values_in_order, od_values_in_order, .func (PySem.W.fnOf "values_in_order" "values_in_order" (defArgs s_values_in_order) (defBody s_values_in_order) (defScope s_values_in_order) .none kV_values_in_order dc_values_in_order pm_values_in_order an_values_in_order cd_values_in_order ct_values_in_order), sl_values_in_order⟩)
    (C_values_in_order : PySem.W.codeIn K cd_values_in_order "values_in_order" = true) (k_values_in_order : PySem.W.keepIn K (.ref a_values_in_order) = true)
    (A_is_axis : PySem.W.nsIn K mainGlobals "is_axis" = some (some (.ref a_is_axis)))
    (L_is_axis : K.lookup a_is_axis = some ⟨oc_is_axis, od_is_axis, .func (PySem.W.fnOf "is_axis" "is_axis" (defArgs s_is_axis) (defBody s_is_axis) (defScope s_is_axis) .none kV_is_axis dc_is_axis pm_is_axis an_is_axis cd_is_axis ct_is_axis), sl_is_axis⟩)
    (C_is_axis : PySem.W.codeIn K cd_is_axis "is_axis" = true) (k_is_axis : PySem.W.keepIn K (.ref a_is_axis) = true)
    (A_is_level : PySem.W.nsIn K mainGlobals "is_level" = some (some (.ref a_is_level)))
    (L_is_level : K.lookup a_is_level = some ⟨oc_is_level, od_is_level, .func (PySem.W.fnOf "is_level" "is_level" (defArgs s_is_level) (defBody s_is_level) (defScope s_is_level) .none kV_is_level dc_is_level pm_is_level an_is_level cd_is_level ct_is_level), sl_is_level⟩)
    (C_is_level : PySem.W.codeIn K cd_is_level "is_level" = true) (k_is_level : PySem.W.keepIn K (.ref a_is_level) = true)
    (A_is_pick : PySem.W.nsIn K mainGlobals "is_pick" = some (some (.ref a_is_pick)))
    (L_is_pick : K.lookup a_is_pick = some ⟨oc_is_pick, od_is_pick, .func (PySem.W.fnOf "is_pick" "is_pick" (defArgs s_is_pick) (defBody s_is_pick) (defScope s_is_pick) .none kV_is_pick dc_is_pick pm_is_pick an_is_pick cd_is_pick ct_is_pick), sl_is_pick⟩)
    (C_is_pick : PySem.W.codeIn K cd_is_pick "is_pick" = true) (k_is_pick : PySem.W.keepIn K (.ref a_is_pick) = true)
    (A_is_picks : PySem.W.nsIn K mainGlobals "is_picks" = some (some (.ref a_is_picks)))
    (L_is_picks : K.lookup a_is_picks = some ⟨oc_is_picks, od_is_picks, .func (PySem.W.fnOf "is_picks" "is_picks" (defArgs s_is_picks) (defBody s_is_picks) (defScope s_is_picks) .none kV_is_picks dc_is_picks pm_is_picks an_is_picks cd_is_picks ct_is_picks), sl_is_picks⟩)
    (C_is_picks : PySem.W.codeIn K cd_is_picks "is_picks" = true) (k_is_picks : PySem.W.keepIn K (.ref a_is_picks) = true)
    (A_picked : PySem.W.nsIn K mainGlobals "picked" = some (some (.ref a_picked)))
    (L_picked : K.lookup a_picked = some ⟨oc_picked, od_picked, .func (PySem.W.fnOf "picked" "picked" (defArgs s_picked) (defBody s_picked) (defScope s_picked) .none kV_picked dc_picked pm_picked an_picked cd_picked ct_picked), sl_picked⟩)
    (C_picked : PySem.W.codeIn K cd_picked "picked" = true) (k_picked : PySem.W.keepIn K (.ref a_picked) = true)
    (A_law_cell_at : PySem.W.nsIn K mainGlobals "_law_cell_at" = some (some (.ref a_law_cell_at)))
    (L_law_cell_at : K.lookup a_law_cell_at = some ⟨oc_law_cell_at, od_law_cell_at, .func (PySem.W.fnOf "_law_cell_at" "_law_cell_at" (defArgs s_law_cell_at) (defBody s_law_cell_at) (defScope s_law_cell_at) .none kV_law_cell_at dc_law_cell_at pm_law_cell_at an_law_cell_at cd_law_cell_at ct_law_cell_at), sl_law_cell_at⟩)
    (C_law_cell_at : PySem.W.codeIn K cd_law_cell_at "_law_cell_at" = true) (k_law_cell_at : PySem.W.keepIn K (.ref a_law_cell_at) = true)
    (A_law_stream : PySem.W.nsIn K mainGlobals "_law_stream" = some (some (.ref a_law_stream)))
    (L_law_stream : K.lookup a_law_stream = some ⟨oc_law_stream, od_law_stream, .func (PySem.W.fnOf "_law_stream" "_law_stream" (defArgs s_law_stream) (defBody s_law_stream) (defScope s_law_stream) .none kV_law_stream dc_law_stream pm_law_stream an_law_stream cd_law_stream ct_law_stream), sl_law_stream⟩)
    (C_law_stream : PySem.W.codeIn K cd_law_stream "_law_stream" = true) (k_law_stream : PySem.W.keepIn K (.ref a_law_stream) = true)
    (A_law_word : PySem.W.nsIn K mainGlobals "_law_word" = some (some (.ref a_law_word)))
    (L_law_word : K.lookup a_law_word = some ⟨oc_law_word, od_law_word, .func (PySem.W.fnOf "_law_word" "_law_word" (defArgs s_law_word) (defBody s_law_word) (defScope s_law_word) .none kV_law_word dc_law_word pm_law_word an_law_word cd_law_word ct_law_word), sl_law_word⟩)
    (C_law_word : PySem.W.codeIn K cd_law_word "_law_word" = true) (k_law_word : PySem.W.keepIn K (.ref a_law_word) = true)
    (A_law_words : PySem.W.nsIn K mainGlobals "_law_words" = some (some (.ref a_law_words)))
    (L_law_words : K.lookup a_law_words = some ⟨oc_law_words, od_law_words, .func (PySem.W.fnOf "_law_words" "_law_words" (defArgs s_law_words) (defBody s_law_words) (defScope s_law_words) .none kV_law_words dc_law_words pm_law_words an_law_words cd_law_words ct_law_words), sl_law_words⟩)
    (C_law_words : PySem.W.codeIn K cd_law_words "_law_words" = true) (k_law_words : PySem.W.keepIn K (.ref a_law_words) = true)
    (A_law_values : PySem.W.nsIn K mainGlobals "_law_values" = some (some (.ref a_law_values)))
    (L_law_values : K.lookup a_law_values = some ⟨oc_law_values, od_law_values, .func (PySem.W.fnOf "_law_values" "_law_values" (defArgs s_law_values) (defBody s_law_values) (defScope s_law_values) .none kV_law_values dc_law_values pm_law_values an_law_values cd_law_values ct_law_values), sl_law_values⟩)
    (C_law_values : PySem.W.codeIn K cd_law_values "_law_values" = true) (k_law_values : PySem.W.keepIn K (.ref a_law_values) = true)
    (A_law_ladder : PySem.W.nsIn K mainGlobals "_law_ladder" = some (some (.ref a_law_ladder)))
    (L_law_ladder : K.lookup a_law_ladder = some ⟨oc_law_ladder, od_law_ladder, .func (PySem.W.fnOf "_law_ladder" "_law_ladder" (defArgs s_law_ladder) (defBody s_law_ladder) (defScope s_law_ladder) .none kV_law_ladder dc_law_ladder pm_law_ladder an_law_ladder cd_law_ladder ct_law_ladder), sl_law_ladder⟩)
    (C_law_ladder : PySem.W.codeIn K cd_law_ladder "_law_ladder" = true) (k_law_ladder : PySem.W.keepIn K (.ref a_law_ladder) = true)
    (A_law_ladders : PySem.W.nsIn K mainGlobals "_law_ladders" = some (some (.ref a_law_ladders)))
    (L_law_ladders : K.lookup a_law_ladders = some ⟨oc_law_ladders, od_law_ladders, .func (PySem.W.fnOf "_law_ladders" "_law_ladders" (defArgs s_law_ladders) (defBody s_law_ladders) (defScope s_law_ladders) .none kV_law_ladders dc_law_ladders pm_law_ladders an_law_ladders cd_law_ladders ct_law_ladders), sl_law_ladders⟩)
    (C_law_ladders : PySem.W.codeIn K cd_law_ladders "_law_ladders" = true) (k_law_ladders : PySem.W.keepIn K (.ref a_law_ladders) = true)
    (A_law_at : PySem.W.nsIn K mainGlobals "_law_at" = some (some (.ref a_law_at)))
    (L_law_at : K.lookup a_law_at = some ⟨oc_law_at, od_law_at, .func (PySem.W.fnOf "_law_at" "_law_at" (defArgs s_law_at) (defBody s_law_at) (defScope s_law_at) .none kV_law_at dc_law_at pm_law_at an_law_at cd_law_at ct_law_at), sl_law_at⟩)
    (C_law_at : PySem.W.codeIn K cd_law_at "_law_at" = true) (k_law_at : PySem.W.keepIn K (.ref a_law_at) = true)
    (A_law_pick : PySem.W.nsIn K mainGlobals "_law_pick" = some (some (.ref a_law_pick)))
    (L_law_pick : K.lookup a_law_pick = some ⟨oc_law_pick, od_law_pick, .func (PySem.W.fnOf "_law_pick" "_law_pick" (defArgs s_law_pick) (defBody s_law_pick) (defScope s_law_pick) .none kV_law_pick dc_law_pick pm_law_pick an_law_pick cd_law_pick ct_law_pick), sl_law_pick⟩)
    (C_law_pick : PySem.W.codeIn K cd_law_pick "_law_pick" = true) (k_law_pick : PySem.W.keepIn K (.ref a_law_pick) = true)
    (A_law_copied : PySem.W.nsIn K mainGlobals "_law_copied" = some (some (.ref a_law_copied)))
    (L_law_copied : K.lookup a_law_copied = some ⟨oc_law_copied, od_law_copied, .func (PySem.W.fnOf "_law_copied" "_law_copied" (defArgs s_law_copied) (defBody s_law_copied) (defScope s_law_copied) .none kV_law_copied dc_law_copied pm_law_copied an_law_copied cd_law_copied ct_law_copied), sl_law_copied⟩)
    (C_law_copied : PySem.W.codeIn K cd_law_copied "_law_copied" = true) (k_law_copied : PySem.W.keepIn K (.ref a_law_copied) = true)
    (A_law_ahead : PySem.W.nsIn K mainGlobals "_law_ahead" = some (some (.ref a_law_ahead)))
    (L_law_ahead : K.lookup a_law_ahead = some ⟨oc_law_ahead, od_law_ahead, .func (PySem.W.fnOf "_law_ahead" "_law_ahead" (defArgs s_law_ahead) (defBody s_law_ahead) (defScope s_law_ahead) .none kV_law_ahead dc_law_ahead pm_law_ahead an_law_ahead cd_law_ahead ct_law_ahead), sl_law_ahead⟩)
    (C_law_ahead : PySem.W.codeIn K cd_law_ahead "_law_ahead" = true) (k_law_ahead : PySem.W.keepIn K (.ref a_law_ahead) = true)
    (A_law_asked : PySem.W.nsIn K mainGlobals "_law_asked" = some (some (.ref a_law_asked)))
    (L_law_asked : K.lookup a_law_asked = some ⟨oc_law_asked, od_law_asked, .func (PySem.W.fnOf "_law_asked" "_law_asked" (defArgs s_law_asked) (defBody s_law_asked) (defScope s_law_asked) .none kV_law_asked dc_law_asked pm_law_asked an_law_asked cd_law_asked ct_law_asked), sl_law_asked⟩)
    (C_law_asked : PySem.W.codeIn K cd_law_asked "_law_asked" = true) (k_law_asked : PySem.W.keepIn K (.ref a_law_asked) = true)
    (A_law_good : PySem.W.nsIn K mainGlobals "_law_good" = some (some (.ref a_law_good)))
    (L_law_good : K.lookup a_law_good = some ⟨oc_law_good, od_law_good, .func (PySem.W.fnOf "_law_good" "_law_good" (defArgs s_law_good) (defBody s_law_good) (defScope s_law_good) .none kV_law_good dc_law_good pm_law_good an_law_good cd_law_good ct_law_good), sl_law_good⟩)
    (C_law_good : PySem.W.codeIn K cd_law_good "_law_good" = true) (k_law_good : PySem.W.keepIn K (.ref a_law_good) = true)
    (A_law : PySem.W.nsIn K mainGlobals "law" = some (some (.ref a_law)))
    (L_law : K.lookup a_law = some ⟨oc_law, od_law, .func (PySem.W.fnOf "law" "law" (defArgs s_law) (defBody s_law) (defScope s_law) .none kV_law dc_law pm_law an_law cd_law ct_law), sl_law⟩)
    (C_law : PySem.W.codeIn K cd_law "law" = true) (k_law : PySem.W.keepIn K (.ref a_law) = true)
    (N_all : PySem.W.nsIn K mainGlobals "all" = some none)
    (N_bool : PySem.W.nsIn K mainGlobals "bool" = some none)
    (N_dict : PySem.W.nsIn K mainGlobals "dict" = some none)
    (N_int : PySem.W.nsIn K mainGlobals "int" = some none)
    (N_isinstance : PySem.W.nsIn K mainGlobals "isinstance" = some none)
    (N_len : PySem.W.nsIn K mainGlobals "len" = some none)
    (N_list : PySem.W.nsIn K mainGlobals "list" = some none)
    (N_range : PySem.W.nsIn K mainGlobals "range" = some none)
    (N_sorted : PySem.W.nsIn K mainGlobals "sorted" = some none)
    (N_str : PySem.W.nsIn K mainGlobals "str" = some none)
    (N_tuple : PySem.W.nsIn K mainGlobals "tuple" = some none)
    (G_FIGURES : PySem.W.nsIn K mainGlobals "FIGURES" = some (some (.str "0123456789" t_FIGURES)))
    (G_LETTERS : PySem.W.nsIn K mainGlobals "LETTERS" = some (some (.str "abcdefghijklmnopqrstuvwxyz" t_LETTERS)))
    (G_LONGEST_WORD : PySem.W.nsIn K mainGlobals "LONGEST_WORD" = some (some (.int (12) t_LONGEST_WORD))) :
    ∃ fd : FuncData, (∀ (s : Shared) (v : Value), BindsTo s fd ⟨[v], []⟩ [("_law_script", v)]) ∧ ∀ base : Heap, K.In base → base.Ns mainGlobals mg → FnOk l.prog w K mg base CX0 9 fa fd ["_law_script"] (spLaw K) := by
  have e := hfa.symm.trans (PySem.W.mg_of X G A_law)
  cases e
  have F_is_whole := fun_mk (st := s_is_whole) L_is_whole C_is_whole k_is_whole
  have F_is_word := fun_mk (st := s_is_word) L_is_word C_is_word k_is_word
  have F_is_value := fun_mk (st := s_is_value) L_is_value C_is_value k_is_value
  have F_value_rank := fun_mk (st := s_value_rank) L_value_rank C_value_rank k_value_rank
  have F_key_rank := fun_mk (st := s_key_rank) L_key_rank C_key_rank k_key_rank
  have F_in_order := fun_mk (st := s_in_order) L_in_order C_in_order k_in_order
  have F_whole_of := fun_mk (st := s_whole_of) L_whole_of C_whole_of k_whole_of
  have F_line_at := fun_mk (st := s_line_at) L_line_at C_line_at k_line_at
  have F_values_in_order := fun_mk (st := s_values_in_order) L_values_in_order C_values_in_order k_values_in_order
  have F_is_axis := fun_mk (st := s_is_axis) L_is_axis C_is_axis k_is_axis
  have F_is_level := fun_mk (st := s_is_level) L_is_level C_is_level k_is_level
  have F_is_pick := fun_mk (st := s_is_pick) L_is_pick C_is_pick k_is_pick
  have F_is_picks := fun_mk (st := s_is_picks) L_is_picks C_is_picks k_is_picks
  have F_picked := fun_mk (st := s_picked) L_picked C_picked k_picked
  have F_law_cell_at := fun_mk (st := s_law_cell_at) L_law_cell_at C_law_cell_at k_law_cell_at
  have F_law_stream := fun_mk (st := s_law_stream) L_law_stream C_law_stream k_law_stream
  have F_law_word := fun_mk (st := s_law_word) L_law_word C_law_word k_law_word
  have F_law_words := fun_mk (st := s_law_words) L_law_words C_law_words k_law_words
  have F_law_values := fun_mk (st := s_law_values) L_law_values C_law_values k_law_values
  have F_law_ladder := fun_mk (st := s_law_ladder) L_law_ladder C_law_ladder k_law_ladder
  have F_law_ladders := fun_mk (st := s_law_ladders) L_law_ladders C_law_ladders k_law_ladders
  have F_law_at := fun_mk (st := s_law_at) L_law_at C_law_at k_law_at
  have F_law_pick := fun_mk (st := s_law_pick) L_law_pick C_law_pick k_law_pick
  have F_law_copied := fun_mk (st := s_law_copied) L_law_copied C_law_copied k_law_copied
  have F_law_ahead := fun_mk (st := s_law_ahead) L_law_ahead C_law_ahead k_law_ahead
  have F_law_asked := fun_mk (st := s_law_asked) L_law_asked C_law_asked k_law_asked
  have F_law_good := fun_mk (st := s_law_good) L_law_good C_law_good k_law_good
  have F_law := fun_mk (st := s_law) L_law C_law k_law
  have T : Tx K mg ⟨a_is_whole, _, a_is_word, _, a_is_value, _, a_value_rank, _, a_key_rank, _, a_in_order, _, a_whole_of, _, a_line_at, _, a_values_in_order, _, a_is_axis, _, a_is_level, _, a_is_pick, _, a_is_picks, _, a_picked, _, a_law_cell_at, _, a_law_stream, _, a_law_word, _, a_law_words, _, a_law_values, _, a_law_ladder, _, a_law_ladders, _, a_law_at, _, a_law_pick, _, a_law_copied, _, a_law_ahead, _, a_law_asked, _, a_law_good, _, fa, _⟩ := {
    m_is_whole := PySem.W.mg_of X G A_is_whole
    F_is_whole := F_is_whole
    b_is_whole := F_is_whole.binds fun _ _ _ _ _ _ us hl => match us, hl with | [_], _ => rfl
    m_is_word := PySem.W.mg_of X G A_is_word
    F_is_word := F_is_word
    b_is_word := F_is_word.binds fun _ _ _ _ _ _ us hl => match us, hl with | [_], _ => rfl
    m_is_value := PySem.W.mg_of X G A_is_value
    F_is_value := F_is_value
    b_is_value := F_is_value.binds fun _ _ _ _ _ _ us hl => match us, hl with | [_], _ => rfl
    m_value_rank := PySem.W.mg_of X G A_value_rank
    F_value_rank := F_value_rank
    b_value_rank := F_value_rank.binds fun _ _ _ _ _ _ us hl => match us, hl with | [_], _ => rfl
    m_key_rank := PySem.W.mg_of X G A_key_rank
    F_key_rank := F_key_rank
    b_key_rank := F_key_rank.binds fun _ _ _ _ _ _ us hl => match us, hl with | [_], _ => rfl
    m_in_order := PySem.W.mg_of X G A_in_order
    F_in_order := F_in_order
    b_in_order := F_in_order.binds fun _ _ _ _ _ _ us hl => match us, hl with | [_], _ => rfl
    m_whole_of := PySem.W.mg_of X G A_whole_of
    F_whole_of := F_whole_of
    b_whole_of := F_whole_of.binds fun _ _ _ _ _ _ us hl => match us, hl with | [_], _ => rfl
    m_line_at := PySem.W.mg_of X G A_line_at
    F_line_at := F_line_at
    b_line_at := F_line_at.binds fun _ _ _ _ _ _ us hl => match us, hl with | [_, _], _ => rfl
    m_values_in_order := PySem.W.mg_of X G A_values_in_order
    F_values_in_order := F_values_in_order
    b_values_in_order := F_values_in_order.binds fun _ _ _ _ _ _ us hl => match us, hl with | [_], _ => rfl
    m_is_axis := PySem.W.mg_of X G A_is_axis
    F_is_axis := F_is_axis
    b_is_axis := F_is_axis.binds fun _ _ _ _ _ _ us hl => match us, hl with | [_, _], _ => rfl
    m_is_level := PySem.W.mg_of X G A_is_level
    F_is_level := F_is_level
    b_is_level := F_is_level.binds fun _ _ _ _ _ _ us hl => match us, hl with | [_, _], _ => rfl
    m_is_pick := PySem.W.mg_of X G A_is_pick
    F_is_pick := F_is_pick
    b_is_pick := F_is_pick.binds fun _ _ _ _ _ _ us hl => match us, hl with | [_, _], _ => rfl
    m_is_picks := PySem.W.mg_of X G A_is_picks
    F_is_picks := F_is_picks
    b_is_picks := F_is_picks.binds fun _ _ _ _ _ _ us hl => match us, hl with | [_, _], _ => rfl
    m_picked := PySem.W.mg_of X G A_picked
    F_picked := F_picked
    b_picked := F_picked.binds fun _ _ _ _ _ _ us hl => match us, hl with | [_, _, _], _ => rfl
    m_law_cell_at := PySem.W.mg_of X G A_law_cell_at
    F_law_cell_at := F_law_cell_at
    b_law_cell_at := F_law_cell_at.binds fun _ _ _ _ _ _ us hl => match us, hl with | [_, _], _ => rfl
    m_law_stream := PySem.W.mg_of X G A_law_stream
    F_law_stream := F_law_stream
    b_law_stream := F_law_stream.binds fun _ _ _ _ _ _ us hl => match us, hl with | [_, _], _ => rfl
    m_law_word := PySem.W.mg_of X G A_law_word
    F_law_word := F_law_word
    b_law_word := F_law_word.binds fun _ _ _ _ _ _ us hl => match us, hl with | [_, _], _ => rfl
    m_law_words := PySem.W.mg_of X G A_law_words
    F_law_words := F_law_words
    b_law_words := F_law_words.binds fun _ _ _ _ _ _ us hl => match us, hl with | [_, _], _ => rfl
    m_law_values := PySem.W.mg_of X G A_law_values
    F_law_values := F_law_values
    b_law_values := F_law_values.binds fun _ _ _ _ _ _ us hl => match us, hl with | [_, _], _ => rfl
    m_law_ladder := PySem.W.mg_of X G A_law_ladder
    F_law_ladder := F_law_ladder
    b_law_ladder := F_law_ladder.binds fun _ _ _ _ _ _ us hl => match us, hl with | [_, _, _], _ => rfl
    m_law_ladders := PySem.W.mg_of X G A_law_ladders
    F_law_ladders := F_law_ladders
    b_law_ladders := F_law_ladders.binds fun _ _ _ _ _ _ us hl => match us, hl with | [_, _], _ => rfl
    m_law_at := PySem.W.mg_of X G A_law_at
    F_law_at := F_law_at
    b_law_at := F_law_at.binds fun _ _ _ _ _ _ us hl => match us, hl with | [_, _], _ => rfl
    m_law_pick := PySem.W.mg_of X G A_law_pick
    F_law_pick := F_law_pick
    b_law_pick := F_law_pick.binds fun _ _ _ _ _ _ us hl => match us, hl with | [_, _], _ => rfl
    m_law_copied := PySem.W.mg_of X G A_law_copied
    F_law_copied := F_law_copied
    b_law_copied := F_law_copied.binds fun _ _ _ _ _ _ us hl => match us, hl with | [_], _ => rfl
    m_law_ahead := PySem.W.mg_of X G A_law_ahead
    F_law_ahead := F_law_ahead
    b_law_ahead := F_law_ahead.binds fun _ _ _ _ _ _ us hl => match us, hl with | [_, _], _ => rfl
    m_law_asked := PySem.W.mg_of X G A_law_asked
    F_law_asked := F_law_asked
    b_law_asked := F_law_asked.binds fun _ _ _ _ _ _ us hl => match us, hl with | [_, _, _], _ => rfl
    m_law_good := PySem.W.mg_of X G A_law_good
    F_law_good := F_law_good
    b_law_good := F_law_good.binds fun _ _ _ _ _ _ us hl => match us, hl with | [_, _, _, _], _ => rfl
    m_law := PySem.W.mg_of X G A_law
    F_law := F_law
    b_law := F_law.binds fun _ _ _ _ _ _ us hl => match us, hl with | [_], _ => rfl
    n_all := PySem.W.mg_none_of X G N_all
    n_bool := PySem.W.mg_none_of X G N_bool
    n_dict := PySem.W.mg_none_of X G N_dict
    n_int := PySem.W.mg_none_of X G N_int
    n_isinstance := PySem.W.mg_none_of X G N_isinstance
    n_len := PySem.W.mg_none_of X G N_len
    n_list := PySem.W.mg_none_of X G N_list
    n_range := PySem.W.mg_none_of X G N_range
    n_sorted := PySem.W.mg_none_of X G N_sorted
    n_str := PySem.W.mg_none_of X G N_str
    n_tuple := PySem.W.mg_none_of X G N_tuple
    g_FIGURES := ⟨_, PySem.W.mg_of X G G_FIGURES, ⟨_, rfl⟩⟩
    g_LETTERS := ⟨_, PySem.W.mg_of X G G_LETTERS, ⟨_, rfl⟩⟩
    g_LONGEST_WORD := ⟨_, PySem.W.mg_of X G G_LONGEST_WORD, ⟨_, rfl⟩⟩
  }
  exact ⟨_, fun s v => .of_eq rfl, fun base _ _ => law_ok (ok_law T) law_true⟩
theorem walk {l : PySem.W.OpenLaw} {q : Program} {loose : List Str} {XP : (Str → Option Value) → Heap → Prop} {YP : World → Heap → Prop} {d : DefRec} {K : Params → PySem.W.Frag} (hn : l.most = some 63) (hdf : d.params.defaults = [])
    (hY : ∀ (w : World) (h : Heap), YP w h → (K w.params).In h)
    (F : ∀ (w : World) (mg : Str → Option Value) (fa : Addr) (h : Heap), (K w.params).In h → h.Ns mainGlobals mg → mg d.name = some (.ref fa) →
      ∃ fd : FuncData, (∀ (s : Shared) (u : Value), BindsTo s fd ⟨[u], []⟩ [("_law_script", u)]) ∧ ∀ base : Heap, (K w.params).In base → base.Ns mainGlobals mg → FnOk l.prog w (K w.params) mg base CX0 9 fa fd ["_law_script"] (spLaw (K w.params))) :
    PySem.W.WalkO q loose XP YP l.row.toRowW d [] (fun f vs => PySem.call f vs) :=
  L2.walk_of (n := 63) (k := 9) (x := "_law_script") (CX := fun _ => CX0) (sp := fun w => spLaw (K w.params)) hn (by decide) hdf ⟨rfl, by decide, by decide⟩ hY F (fun _ _ a ns hl _ hS => ⟨a, ns, rfl, hS, hl, fun _ => rfl⟩) fun _ _ _ _ _ z => z
end K22
open PySem PySem.W PyProof.Rows
set_option maxRecDepth 100000 in
set_option maxHeartbeats 0 in
theorem PySem.Challenge.cw_cubebook_k22_picked_holds : PySem.Challenge.rw_cubebook_k22_picked.Holds := by
  w_on; o_law; k_head; (case hw => w_witness2)
  k_fill
  refine K22.walk (l := PySem.Challenge.rw_cubebook_k22_picked) rfl rfl (fun w h Y => PySem.W.kIn_of Y) ?F
  case F =>
    intro w mg fa h KX G hmg
    refine' K22.all_mk KX G hmg ?A_is_whole ?L_is_whole ?C_is_whole ?k_is_whole ?A_is_word ?L_is_word ?C_is_word ?k_is_word ?A_is_value ?L_is_value ?C_is_value ?k_is_value ?A_value_rank ?L_value_rank ?C_value_rank ?k_value_rank ?A_key_rank ?L_key_rank ?C_key_rank ?k_key_rank ?A_in_order ?L_in_order ?C_in_order ?k_in_order ?A_whole_of ?L_whole_of ?C_whole_of ?k_whole_of ?A_line_at ?L_line_at ?C_line_at ?k_line_at ?A_values_in_order ?L_values_in_order ?C_values_in_order ?k_values_in_order ?A_is_axis ?L_is_axis ?C_is_axis ?k_is_axis ?A_is_level ?L_is_level ?C_is_level ?k_is_level ?A_is_pick ?L_is_pick ?C_is_pick ?k_is_pick ?A_is_picks ?L_is_picks ?C_is_picks ?k_is_picks ?A_picked ?L_picked ?C_picked ?k_picked ?A_law_cell_at ?L_law_cell_at ?C_law_cell_at ?k_law_cell_at ?A_law_stream ?L_law_stream ?C_law_stream ?k_law_stream ?A_law_word ?L_law_word ?C_law_word ?k_law_word ?A_law_words ?L_law_words ?C_law_words ?k_law_words ?A_law_values ?L_law_values ?C_law_values ?k_law_values ?A_law_ladder ?L_law_ladder ?C_law_ladder ?k_law_ladder ?A_law_ladders ?L_law_ladders ?C_law_ladders ?k_law_ladders ?A_law_at ?L_law_at ?C_law_at ?k_law_at ?A_law_pick ?L_law_pick ?C_law_pick ?k_law_pick ?A_law_copied ?L_law_copied ?C_law_copied ?k_law_copied ?A_law_ahead ?L_law_ahead ?C_law_ahead ?k_law_ahead ?A_law_asked ?L_law_asked ?C_law_asked ?k_law_asked ?A_law_good ?L_law_good ?C_law_good ?k_law_good ?A_law ?L_law ?C_law ?k_law ?N_all ?N_bool ?N_dict ?N_int ?N_isinstance ?N_len ?N_list ?N_range ?N_sorted ?N_str ?N_tuple ?G_FIGURES ?G_LETTERS ?G_LONGEST_WORD
    (case A_is_whole => k_is)
    (case L_is_whole => k_is)
    (case C_is_whole => k_is)
    (case k_is_whole => k_is)
    (case A_is_word => k_is)
    (case L_is_word => k_is)
    (case C_is_word => k_is)
    (case k_is_word => k_is)
    (case A_is_value => k_is)
    (case L_is_value => k_is)
    (case C_is_value => k_is)
    (case k_is_value => k_is)
    (case A_value_rank => k_is)
    (case L_value_rank => k_is)
    (case C_value_rank => k_is)
    (case k_value_rank => k_is)
    (case A_key_rank => k_is)
    (case L_key_rank => k_is)
    (case C_key_rank => k_is)
    (case k_key_rank => k_is)
    (case A_in_order => k_is)
    (case L_in_order => k_is)
    (case C_in_order => k_is)
    (case k_in_order => k_is)
    (case A_whole_of => k_is)
    (case L_whole_of => k_is)
    (case C_whole_of => k_is)
    (case k_whole_of => k_is)
    (case A_line_at => k_is)
    (case L_line_at => k_is)
    (case C_line_at => k_is)
    (case k_line_at => k_is)
    (case A_values_in_order => k_is)
    (case L_values_in_order => k_is)
    (case C_values_in_order => k_is)
    (case k_values_in_order => k_is)
    (case A_is_axis => k_is)
    (case L_is_axis => k_is)
    (case C_is_axis => k_is)
    (case k_is_axis => k_is)
    (case A_is_level => k_is)
    (case L_is_level => k_is)
    (case C_is_level => k_is)
    (case k_is_level => k_is)
    (case A_is_pick => k_is)
    (case L_is_pick => k_is)
    (case C_is_pick => k_is)
    (case k_is_pick => k_is)
    (case A_is_picks => k_is)
    (case L_is_picks => k_is)
    (case C_is_picks => k_is)
    (case k_is_picks => k_is)
    (case A_picked => k_is)
    (case L_picked => k_is)
    (case C_picked => k_is)
    (case k_picked => k_is)
    (case A_law_cell_at => k_is)
    (case L_law_cell_at => k_is)
    (case C_law_cell_at => k_is)
    (case k_law_cell_at => k_is)
    (case A_law_stream => k_is)
    (case L_law_stream => k_is)
    (case C_law_stream => k_is)
    (case k_law_stream => k_is)
    (case A_law_word => k_is)
    (case L_law_word => k_is)
    (case C_law_word => k_is)
    (case k_law_word => k_is)
    (case A_law_words => k_is)
    (case L_law_words => k_is)
    (case C_law_words => k_is)
    (case k_law_words => k_is)
    (case A_law_values => k_is)
    (case L_law_values => k_is)
    (case C_law_values => k_is)
    (case k_law_values => k_is)
    (case A_law_ladder => k_is)
    (case L_law_ladder => k_is)
    (case C_law_ladder => k_is)
    (case k_law_ladder => k_is)
    (case A_law_ladders => k_is)
    (case L_law_ladders => k_is)
    (case C_law_ladders => k_is)
    (case k_law_ladders => k_is)
    (case A_law_at => k_is)
    (case L_law_at => k_is)
    (case C_law_at => k_is)
    (case k_law_at => k_is)
    (case A_law_pick => k_is)
    (case L_law_pick => k_is)
    (case C_law_pick => k_is)
    (case k_law_pick => k_is)
    (case A_law_copied => k_is)
    (case L_law_copied => k_is)
    (case C_law_copied => k_is)
    (case k_law_copied => k_is)
    (case A_law_ahead => k_is)
    (case L_law_ahead => k_is)
    (case C_law_ahead => k_is)
    (case k_law_ahead => k_is)
    (case A_law_asked => k_is)
    (case L_law_asked => k_is)
    (case C_law_asked => k_is)
    (case k_law_asked => k_is)
    (case A_law_good => k_is)
    (case L_law_good => k_is)
    (case C_law_good => k_is)
    (case k_law_good => k_is)
    (case A_law => k_is)
    (case L_law => k_is)
    (case C_law => k_is)
    (case k_law => k_is)
    (case N_all => k_is)
    (case N_bool => k_is)
    (case N_dict => k_is)
    (case N_int => k_is)
    (case N_isinstance => k_is)
    (case N_len => k_is)
    (case N_list => k_is)
    (case N_range => k_is)
    (case N_sorted => k_is)
    (case N_str => k_is)
    (case N_tuple => k_is)
    (case G_FIGURES => k_is)
    (case G_LETTERS => k_is)
    (case G_LONGEST_WORD => k_is)
#print axioms PySem.Challenge.cw_cubebook_k22_picked_holds
