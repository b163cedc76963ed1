import PyProof.Rows.All
import Wide.All
import OpenK.AllK
import Wide.FinOn
import Lean
import PyProof.EqAt
import PyProof.EqKinds
import PyProof.TupleCall
import PyProof.TupleKey
import PyProof.DictRoadsH
import Wide.Seal
import PyProof.NeKinds
import PyProof.ZipIter
import PyProof.EnumMake
import PyProof.Rows.TupTab
import KE.KDictLaws
import PyProof.AutoListH
import PyProof.AttrMissHeap
import KE.KDictOf
import PySem.Challenge.RW_cubebook_k24_apart
set_option Elab.async false
set_option linter.all false
set_option maxRecDepth 100000
namespace L2
open PySem PySem.Spec PyProof.Rows
abbrev Key:=Sum Int Str
def ZnR:Key→Value→Bool
 | .inl k,v=>Value.isInt k v
 | .inr x,v=>Value.isStrOf x v
def ZsV (w:World):Key→Int
 | .inl k=>hashInt k
 | .inr x=>hashStr w x
theorem Zaz:∀ {k:Key} {v:Value},ZnR k v=true→(∃ i t,k=Sum.inl i∧v=Value.int i t)∨(∃ x t,k=Sum.inr x∧v=Value.str x t)
 | .inl i,v,h=>by
  obtain ⟨t,e⟩:=Value.isInt_shape (k:=i) (v:=v) h
  exact .inl ⟨i,t,rfl,e⟩
 | .inr x,v,h=>by
  obtain ⟨t,e⟩:=Value.isStrOf_shape (x:=x) (v:=v) h
  exact .inr ⟨x,t,rfl,e⟩
theorem ZqF (a b:Int):decide ((Sum.inl a:Key)=Sum.inl b)=(a==b):=by
 by_cases e:a=b
 ·subst e;simp
 ·have h:¬ (Sum.inl a:Key)=Sum.inl b:=fun q=>e (Sum.inl.inj q)
  rw [decide_eq_false h]
  exact (beq_eq_false_iff_ne.mpr e).symm
theorem Zrh (a b:Str):decide ((Sum.inr a:Key)=Sum.inr b)=decide (a=b):=by
 by_cases e:a=b
 ·subst e;simp
 ·have h:¬ (Sum.inr a:Key)=Sum.inr b:=fun q=>e (Sum.inr.inj q)
  rw [decide_eq_false h,decide_eq_false e]
theorem Zq2 (a:Int) (b:Str):decide ((Sum.inl a:Key)=Sum.inr b)=false:=decide_eq_false (fun q=>nomatch q)
theorem Zrj (a:Str) (b:Int):decide ((Sum.inr a:Key)=Sum.inl b)=false:=decide_eq_false (fun q=>nomatch q)
def ZhT (prog:Program) (w:World):PySem.KeyKind prog w Key where
 is:=ZnR
 hash:=ZsV w
 inj:=fun v a b ha hb=>by
  rcases Zaz ha with ⟨i,t,rfl,rfl⟩ | ⟨x,t,rfl,rfl⟩
  ·rcases Zaz hb with ⟨j,u,rfl,e⟩ | ⟨y,u,rfl,e⟩
   ·injection e with e1 _;rw [e1]
   ·exact nomatch e
  ·rcases Zaz hb with ⟨j,u,rfl,e⟩ | ⟨y,u,rfl,e⟩
   ·exact nomatch e
   ·injection e with e1 _;rw [e1]
 byValue:=fun k v h=>by
  rcases Zaz h with ⟨i,t,rfl,rfl⟩ | ⟨x,t,rfl,rfl⟩<;>rfl
 pyHash:=fun hv h=>by
  rcases Zaz hv with ⟨i,t,rfl,rfl⟩ | ⟨x,t,rfl,rfl⟩
  ·exact wpAny_pyHash_int h
  ·exact wpAny_pyHash_str h
 eqBool:=fun hu hv h=>by
  rcases Zaz hu with ⟨i,t,rfl,rfl⟩ | ⟨x,t,rfl,rfl⟩
  ·rcases Zaz hv with ⟨j,u,rfl,rfl⟩ | ⟨y,u,rfl,rfl⟩
   ·rw [ZqF] at h;exact wpAny_eqBool_int h
   ·rw [Zq2] at h;exact SeqAt.EqAt.int_str i t y u _ _ _ _ h
  ·rcases Zaz hv with ⟨j,u,rfl,rfl⟩ | ⟨y,u,rfl,rfl⟩
   ·rw [Zrj] at h;exact SeqAt.EqAt.str_int x t j u _ _ _ _ h
   ·rw [Zrh] at h;exact wpAny_eqBool_str h
 «strs»:=fun k x t v h=>by
  rcases Zaz h with ⟨i,u,rfl,e⟩ | ⟨y,u,rfl,e⟩
  ·exact nomatch e
  ·injection e with e1 _
   subst e1
   cases v<;>rfl
end L2
namespace L2
open PySem PySem.Spec PyProof.Rows
inductive V where
 | non | bl (b:Bool) | int (i:Int) | str (x:Str) | byt (b:Array UInt8) | flt (b:UInt64) | ref (a:Addr) | ty (n:String)
 deriving DecidableEq
def RelV:V→Value→Prop
 | .non,u=>u=Value.none
 | .bl b,u=>u=Value.bool b
 | .int i,u=>∃ t,u=Value.int i t
 | .str x,u=>∃ t,u=Value.str x t
 | .byt b,u=>∃ t,u=Value.bytes b t
 | .flt b,u=>∃ t,u=Value.float b t
 | .ref a,u=>u=Value.ref a
 | .ty n,u=>u=Value.type n
abbrev Vals:List V→List Value→Prop:=Paired RelV
theorem Vals.length {xs:List V} {us:List Value} (r:Vals xs us):xs.length=us.length:=Paired.length r
theorem Vals.get:∀ {xs:List V} {us:List Value} {i:Nat} {x:V},Vals xs us→xs[i]?=some x→∃ u,us[i]?=some u∧RelV x u
 | _,_,_,_,.nil,e=>by simp at e
 | _,_,0,_,.cons r _,e=>by simp at e;subst e;exact ⟨_,rfl,r⟩
 | _,_,i+1,x,.cons _ t,e=>by
  obtain ⟨u,h1,h2⟩:=Vals.get (i:=i) (x:=x) t (by simpa using e)
  exact ⟨u,by simpa using h1,h2⟩
theorem Vals.set {x:V} {u:Value} (r:RelV x u):∀ {xs:List V} {us:List Value} (i:Nat),Vals xs us→Vals (xs.set i x) (us.set i u)
 | _,_,_,.nil=>.nil
 | _,_,0,.cons _ t=>.cons r t
 | _,_,i+1,.cons q t=>.cons q (Vals.set r i t)
theorem Vals.append:∀ {xs ys:List V} {us ws:List Value},Vals xs us→Vals ys ws→Vals (xs++ys) (us++ws)
 | _,_,_,_,.nil,s=>s
 | _,_,_,_,.cons r t,s=>.cons r (Vals.append t s)
theorem Vals.take:∀ {xs:List V} {us:List Value} (n:Nat),Vals xs us→Vals (xs.take n) (us.take n)
 | _,_,0,_=>.nil
 | _,_,_+1,.nil=>.nil
 | _,_,n+1,.cons r t=>.cons r (Vals.take n t)
theorem Vals.drop:∀ {xs:List V} {us:List Value} (n:Nat),Vals xs us→Vals (xs.drop n) (us.drop n)
 | _,_,0,r=>r
 | _,_,_+1,.nil=>.nil
 | _,_,n+1,.cons _ t=>Vals.drop n t
def RelO:Option V→Option Value→Prop
 | some v,some u=>RelV v u
 | none,none=>True
 | _,_=>False
def KV {κ:Type}:List (κ×V)→List (κ×Value)→Prop:=Paired fun (p:κ×V) (q:κ×Value)=>p.1=q.1∧RelV p.2 q.2
def kV:Key→V
 | .inl i=>.int i
 | .inr x=>.str x
inductive At where
 | non | int (i:Int) | str (x:Str)
 deriving DecidableEq
def Zgi:At→Value→Bool
 | .non,.none=>true
 | .int k,v=>Value.isInt k v
 | .str x,v=>Value.isStrOf x v
 | _,_=>false
def atH (w:World):At→Int
 | .non=>reduceHash 4238894112
 | .int k=>hashInt k
 | .str x=>hashStr w x
theorem Za2:∀ {k:At} {v:Value},Zgi k v=true→(k=.non∧v=.none)∨(∃ i t,k=.int i∧v=Value.int i t)∨(∃ x t,k=.str x∧v=Value.str x t)
 | .non,v,h=>by cases v<;>first | exact .inl ⟨rfl,rfl⟩ | exact absurd h Bool.false_ne_true
 | .int i,v,h=>by obtain ⟨t,e⟩:=Value.isInt_shape (k:=i) (v:=v) h;exact .inr (.inl ⟨i,t,rfl,e⟩)
 | .str x,v,h=>by obtain ⟨t,e⟩:=Value.isStrOf_shape (x:=x) (v:=v) h;exact .inr (.inr ⟨x,t,rfl,e⟩)
theorem ZmW (i:Int) (t:Tok):Zgi (.int i) (.int i t)=true:=by simp [Zgi,Value.isInt]
theorem ZmZ (x:Str) (t:Tok):Zgi (.str x) (.str x t)=true:=by simp [Zgi,Value.isStrOf]
theorem Zl5 {prog:Program} {w:World} {A:Around} {E:Value→Shared→Prop} {s:Shared} {Q:Int→Shared→Prop} (h:Q (reduceHash 4238894112) { s with toks:=s.toks+1 }) :
  wpAny (model prog w) A (PySem.pyHash .none) Q E s :=
 PySem.W.pyHash_slot (T:="NoneType") rfl F.slot_NoneType_hash F.entry_NoneType_hash (F.args_NoneType_hash_1 _) (beq_builtin_none _) (.inl rfl) (wpAny_bind (wpAny_pure (wpAny_bind (wpAny_mkInt (wpAny_pure ⟨_,_,rfl,h⟩)))))
theorem Zl2 (a b:Int):decide ((At.int a)=.int b)=(a==b):=by
 by_cases e:a=b
 ·subst e;simp
 ·rw [decide_eq_false (fun q=>e (by injection q))];exact (beq_eq_false_iff_ne.mpr e).symm
theorem Zl8 (a b:Str):decide ((At.str a)=.str b)=decide (a=b):=by
 by_cases e:a=b
 ·subst e;simp
 ·rw [decide_eq_false (fun q=>e (by injection q)),decide_eq_false e]
def ZY (prog:Program) (w:World):PySem.KeyKind prog w At where
 is:=Zgi
 hash:=atH w
 inj:=fun v a b ha hb=>by
  rcases Za2 ha with ⟨rfl,rfl⟩ | ⟨i,t,rfl,rfl⟩ | ⟨x,t,rfl,rfl⟩<;>rcases Za2 hb with ⟨rfl,e⟩ | ⟨j,u,rfl,e⟩ | ⟨y,u,rfl,e⟩ <;>
   first | rfl | (cases e;done) | (cases e;rfl)
 byValue:=fun k v h=>by
  rcases Za2 h with ⟨rfl,rfl⟩ | ⟨i,t,rfl,rfl⟩ | ⟨x,t,rfl,rfl⟩<;>rfl
 pyHash:=fun hv h=>by
  rcases Za2 hv with ⟨rfl,rfl⟩ | ⟨i,t,rfl,rfl⟩ | ⟨x,t,rfl,rfl⟩
  ·exact Zl5 h
  ·exact wpAny_pyHash_int h
  ·exact wpAny_pyHash_str h
 eqBool:=fun hu hv h=>by
  rcases Za2 hu with ⟨rfl,rfl⟩ | ⟨i,t,rfl,rfl⟩ | ⟨x,t,rfl,rfl⟩<;>rcases Za2 hv with ⟨rfl,rfl⟩ | ⟨j,u,rfl,rfl⟩ | ⟨y,u,rfl,rfl⟩
  ·exact SeqAt.EqAt.same Value.none _ _ _ _ h
  ·exact SeqAt.EqAt.none_int j u _ _ _ _ h
  ·exact SeqAt.EqAt.none_str y u _ _ _ _ h
  ·exact SeqAt.EqAt.int_none i t _ _ _ _ h
  ·rw [Zl2] at h;exact wpAny_eqBool_int h
  ·exact SeqAt.EqAt.int_str i t y u _ _ _ _ h
  ·exact SeqAt.EqAt.str_none x t _ _ _ _ h
  ·exact SeqAt.EqAt.str_int x t j u _ _ _ _ h
  ·rw [Zl8] at h;exact wpAny_eqBool_str h
 «strs»:=fun k x t v h=>by
  rcases Za2 h with ⟨rfl,e⟩ | ⟨i,u,rfl,e⟩ | ⟨y,u,rfl,e⟩
  ·exact nomatch e
  ·exact nomatch e
  ·injection e with e1 _
   subst e1
   cases v<;>rfl
inductive KT where
 | at (a:At) | tup (l:List At)
 deriving DecidableEq
def KT.hash (w:World):KT→Int
 | .at a=>atH w a
 | .tup l=>reduceHash (Builtin.Tuple.tupleHashOf (l.map (atH w)))
def atV:At→V
 | .non=>.non
 | .int i=>.int i
 | .str x=>.str x
def ktV:KT→V→Prop
 | .at a,v=>v=atV a
 | .tup _,v=>∃ p,v=.ref p
def ZgT (w:World):List KT→List V→List DictEntry→Prop
 | [],vs,es=>vs=[]∧es=[]
 | k::ks,vs,es=>∃ kv v r e t,vs=kv::v::r∧es=e::t∧RelV kv e.key∧RelV v e.val∧e.hash=k.hash w∧ktV k kv∧ZgT w ks r t
inductive HO where
 | lst (xs:List V)
 | tup (xs:List V)
 | dK (kvs:List (Key×V)) | dT (kvs:List (List Key×V))
 | dct (ks:List KT) (vs:List V)
 | set (S:Int→Bool) (n:Nat)
 | ins (C dx:Addr) (fs:List (Str×V))
 | own (x:Addr)
 | xd (fs:List (Str×V))
 | met (f x:Addr)
 | rng (lo hi:Int)
 | frz (o:Obj) (u:HO)
 | tbl (ps:Array Value)
 | ext (φ:Heap→Prop)
abbrev Hp:=Addr→Option HO
def upd (H:Hp) (a:Addr) (o:HO):Hp:=fun b=>if b=a then some o else H b
theorem ZaJ {H:Hp} {a:Addr} {o:HO}:upd H a o a=some o:=by unfold upd;rw [if_pos rfl]
theorem ZG {H:Hp} {a b:Addr} {o:HO} (h:b≠a):upd H a o b=H b:=by unfold upd;rw [if_neg h]
theorem Zom {H:Hp} {a:Addr} {o u:HO}:upd (upd H a o) a u=upd H a u:=by
 funext b;unfold upd;split<;>rfl
theorem Zac {H:Hp} {a b:Addr} {o:HO} (h:H a=some o) (h':H b=none):a≠b:=by
 intro e;subst e;rw [h] at h';cases h'
section
variable (P:Program) (w:World)
def ObjOk (H:Hp) (h:Heap) (a:Addr):HO→Prop
 | .lst xs=>xs.length≤sizeLine∧∃ (its:List Value) (n:Nat),Vals xs its∧h.get? a=some { cls:=.type "list",data:=.seq its.toArray n }
 | .tup xs=>xs.length≤sizeLine∧∃ its:List Value,Vals xs its∧IsTup h a its.toArray
 | .dK kvs=>kvs.length≤sizeLine∧(a==sysModules)=false∧∃ vs,KV kvs vs∧h.DictOf (ZhT P w) a vs
 | .dT kvs=>kvs.length≤sizeLine∧(a==sysModules)=false∧∃ xs:List (List Key×Addr×Value),
   Paired (fun (p:List Key×V) (q:List Key×Addr×Value)=>p.1=q.1∧H q.2.1=some (.tup (p.1.map kV))∧RelV p.2 q.2.2) kvs xs ∧
   ∃ o es ep,h.get? a=some o∧o.ExactDict∧o.data=.dict es ep∧es.toList=xs.map (entryOfKey (tupleKind (ZhT P w)))∧(xs.map (·.1)).Nodup
 | .dct ks vs=>ks.length≤sizeLine∧(a==sysModules)=false∧ks.Nodup∧∃ o es ep,h.get? a=some o∧o.ExactDict∧o.data=.dict es ep∧ZgT w ks vs es.toList
 | .set S n=>h.SetOf (intKind P w) a S n
 | .ins C dx fs=>H dx=some (.own a)∧fs.length≤1000∧dx≠a∧h.get? a=some (PySem.W.instObj C dx) ∧
   ∃ mA,h.Ns1 dx mA∧(∀ f,RelO (fs.lookup f) (mA f))∧PySem.Within mA (fs.map (·.1))
 | .own _=>∃ o,h.get? a=some o
 | .xd fs=>∃ mA,h.Ns1 a mA∧∀ f,RelO (fs.lookup f) (mA f)
 | .rng lo hi=>∃ t u v,h.get? a=some { cls:=.type "range",data:=.fields #[.int lo t,.int hi u,.int 1 v] }
 | .frz o u=>h.get? a=some o∧ObjOk H h a u
 | .tbl ps=>h.get? a=some { cls:=.none,data:=.fields ps }
 | .met f x=>h.get? a=some (PySem.W.methodObj (.ref f) (.ref x))
 | .ext φ=>φ h∧(∃ o,h.get? a=some o)∧∀ h1 h2:Heap,φ h1→(∀ o,h1.get? a=some o→h2.get? a=some o)→φ h2
def HOk (H:Hp) (h:Heap):Prop:=∀ a o,H a=some o→ObjOk P w H h a o
end
section
variable {P:Program} {w:World} {H H':Hp} {h h':Heap} {a:Addr} {o:HO}
theorem ObjOk.lt (x:ObjOk P w H h a o):a<h.objs.size:=by
 cases o with
 | lst xs=>obtain ⟨_,_,_,_,e⟩:=x;exact Heap.lt_size e
 | tup xs=>obtain ⟨_,_,_,p⟩:=x;exact p.lt
 | dK kvs=>obtain ⟨_,_,_,_,o,_,_,e,_⟩:=x;exact Heap.lt_size e
 | dT kvs=>obtain ⟨_,_,_,_,o,_,_,e,_⟩:=x;exact Heap.lt_size e
 | dct ks vs=>obtain ⟨_,_,_,o,_,_,e,_⟩:=x;exact Heap.lt_size e
 | set S n=>obtain ⟨o,_,_,_,e,_⟩:=x;exact Heap.lt_size e
 | ins C dx fs=>obtain ⟨_,_,_,e,_⟩:=x;exact Heap.lt_size e
 | own y=>obtain ⟨_,e⟩:=x;exact Heap.lt_size e
 | xd fs=>obtain ⟨_,⟨_,_,_,e,_⟩,_⟩:=x;exact Heap.lt_size e
 | rng lo hi=>obtain ⟨_,_,_,e⟩:=x;exact Heap.lt_size e
 | frz ob u=>obtain ⟨e,_⟩:=x;exact Heap.lt_size e
 | tbl ps=>exact Heap.lt_size (show h.get? a=some _ from x)
 | met f y=>exact Heap.lt_size (show h.get? a=some _ from x)
 | ext φ=>obtain ⟨_,⟨_,e⟩,_⟩:=x;exact Heap.lt_size e
theorem Paired.mapP {α β:Type} {F G:α→β→Prop}:∀ {l₁:List α} {l₂:List β},Paired F l₁ l₂→(∀ a b,F a b→G a b)→Paired G l₁ l₂
 | _,_,.nil,_=>.nil
 | _,_,.cons r t,f=>.cons (f _ _ r) (Paired.mapP t f)
theorem ObjOk.stay (x:ObjOk P w H h a o) (k:∀ b u,(b=a∨H b=some (.own a))→h.get? b=some u→h'.get? b=some u)
  (ho:∀ b,H b=some (.own a)→H' b=some (.own a)) (ht:∀ b xs,H b=some (.tup xs)→H' b=some (.tup xs)):ObjOk P w H' h' a o:=by
 induction o with
 | lst xs=>obtain ⟨z,its,n,r,e⟩:=x;exact ⟨z,its,n,r,k _ _ (.inl rfl) e⟩
 | tup xs=>obtain ⟨z,its,r,ob,e,c⟩:=x;exact ⟨z,its,r,ob,k _ _ (.inl rfl) e,c⟩
 | dK kvs=>obtain ⟨z,y,vs,r,ob,es,ep,e,c⟩:=x;exact ⟨z,y,vs,r,ob,es,ep,k _ _ (.inl rfl) e,c⟩
 | dT kvs =>
  obtain ⟨z,y,xs,r,ob,es,ep,e,c⟩:=x
  exact ⟨z,y,xs,Paired.mapP r fun p q z=>⟨z.1,ht _ _ z.2.1,z.2.2⟩,ob,es,ep,k _ _ (.inl rfl) e,c⟩
 | dct ks vs=>obtain ⟨z,y,n,ob,es,ep,e,c⟩:=x;exact ⟨z,y,n,ob,es,ep,k _ _ (.inl rfl) e,c⟩
 | set S n=>obtain ⟨ob,es,ep,t,e,c⟩:=x;exact ⟨ob,es,ep,t,k _ _ (.inl rfl) e,c⟩
 | ins C dx fs =>
  obtain ⟨d,z,ne,e,mA,⟨od,es,ep,e2,c⟩,r⟩:=x
  exact ⟨ho _ d,z,ne,k _ _ (.inl rfl) e,mA,⟨od,es,ep,k _ _ (.inr d) e2,c⟩,r⟩
 | own y=>obtain ⟨ob,e⟩:=x;exact ⟨ob,k _ _ (.inl rfl) e⟩
 | xd fs=>obtain ⟨mA,⟨od,es,ep,e,c⟩,r⟩:=x;exact ⟨mA,⟨od,es,ep,k _ _ (.inl rfl) e,c⟩,r⟩
 | rng lo hi=>obtain ⟨t,u,v,e⟩:=x;exact ⟨t,u,v,k _ _ (.inl rfl) e⟩
 | frz ob u ih=>obtain ⟨e,q⟩:=x;exact ⟨k _ _ (.inl rfl) e,ih q⟩
 | tbl ps =>
  have e:h.get? a=some { cls:=.none,data:=.fields ps }:=x
  show h'.get? a=some { cls:=.none,data:=.fields ps }
  exact k a _ (.inl rfl) e
 | met f y =>
  have e:h.get? a=some (PySem.W.methodObj (.ref f) (.ref y)):=x
  show h'.get? a=some (PySem.W.methodObj (.ref f) (.ref y))
  exact k a _ (.inl rfl) e
 | ext φ=>obtain ⟨p,⟨o,e⟩,st⟩:=x;exact ⟨st _ _ p fun o q=>k _ _ (.inl rfl) q,⟨o,k _ _ (.inl rfl) e⟩,st⟩
theorem HOk.lt (x:HOk P w H h) (e:H a=some o):a<h.objs.size:=(x a o e).lt
theorem HOk.fresh (x:HOk P w H h) (e:h.objs.size≤a):H a=none:=by
 cases q:H a with
 | none=>rfl
 | some u=>exact absurd (Nat.lt_of_lt_of_le (x.lt q) e) (Nat.lt_irrefl _)
theorem HOk.kept (x:HOk P w H h) (k:∀ b u,h.get? b=some u→h'.get? b=some u):HOk P w H h':=fun a o e =>
 (x a o e).stay (fun b u _ q=>k b u q) (fun _ q=>q) fun _ _ q=>q
theorem HOk.laid (x:HOk P w H h) (k:∀ b u,h.get? b=some u→h'.get? b=some u) (hp:h.objs.size≤a) (new:ObjOk P w (upd H a o) h' a o):HOk P w (upd H a o) h':=fun b u e=>by
 have hn:=x.fresh hp
 by_cases hb:b=a
 ·subst hb;rw [ZaJ] at e;cases e;exact new
 ·rw [ZG hb] at e
  exact (x b u e).stay (fun c v _ q=>k c v q) (fun c q=>by rw [ZG (Zac q hn)];exact q) fun c xs q=>by rw [ZG (Zac q hn)];exact q
end
def Rd (H:Hp) (a:Addr) (u:HO):Prop:=H a=some u∨∃ o,H a=some (.frz o u)
theorem Rd.of {H:Hp} {a:Addr} {u:HO} (h:H a=some u):Rd H a u:=.inl h
theorem Rd.ok {P:Program} {w:World} {H:Hp} {h:Heap} {a:Addr} {u:HO} (r:Rd H a u) (x:HOk P w H h):ObjOk P w H h a u:=by
 rcases r with r | ⟨o,r⟩
 ·exact x a u r
 ·obtain ⟨_,q⟩:=x a _ r
  exact q
def Mut:Option HO→Prop
 | some (.lst _)=>True
 | some (.dK _)=>True
 | some (.dT _)=>True
 | some (.dct _ _)=>True
 | some (.set _ _)=>True
 | some (.ins _ _ _)=>True
 | some (.ext _)=>True
 | _=>False
section
variable {P:Program} {w:World} {H:Hp} {h h':Heap} {x e:Addr} {o':HO}
theorem HOk.write (ok:HOk P w H h) (mu:Mut (H x)) (he:e=x∨H e=some (.own x)) (k:∀ b u,b≠e→h.get? b=some u→h'.get? b=some u) (heo:∃ u,h'.get? e=some u)
  (new:ObjOk P w (upd H x o') h' x o'):HOk P w (upd H x o') h':=fun b u q=>by
 have nown:∀ c y,H c=some (.own y)→c≠x:=fun c y r z=>by subst z;rw [r] at mu;exact mu
 have ntup:∀ c xs,H c=some (.tup xs)→c≠x:=fun c xs r z=>by subst z;rw [r] at mu;exact mu
 by_cases hb:b=x
 ·subst hb;rw [ZaJ] at q;cases q;exact new
 ·rw [ZG hb] at q
  by_cases hbe:b=e
  ·have q':H b=some (.own x):=by
    rcases he with z | z
    ·exact absurd (hbe.trans z) hb
    ·rw [hbe];exact z
   rw [q] at q';cases q'
   obtain ⟨v,hv⟩:=heo
   exact ⟨v,by rw [hbe];exact hv⟩
  ·refine (ok b u q).stay (fun c v hc r=>k c v ?_ r) (fun c r=>by rw [ZG (nown c b r)];exact r) fun c xs r=>by rw [ZG (ntup c xs r)];exact r
   rcases hc with rfl | hc
   ·exact hbe
   ·rintro rfl
    rcases he with z | z
    ·exact nown c b hc z
    ·rw [hc] at z;cases z;exact hb rfl
end
structure Un (fs ex:List Addr) (H H':Hp) (h h':Heap):Prop where
 keep:∀ b o,h.get? b=some o→H b=none→b∉fs→b∉ex→h'.get? b=some o
 slot:∀ b o,h.get? b=some o→H b=none→b∈fs→b∉ex→∃ sl,h'.get? b=some { o with slots:=sl }
 free:∀ b o,h.get? b=some o→H b=none→b∉ex→H' b=none
 there:∀ b o,h.get? b=some o→b∉ex→∃ o',h'.get? b=some o'
 tups:∀ b xs,H b=some (.tup xs)→H' b=some (.tup xs)
 frzs:∀ b o u,H b=some (.frz o u)→H' b=some (.frz o u)
 tbls:∀ b ps,H b=some (.tbl ps)→∃ more,H' b=some (.tbl (ps++more))
section
variable {fs fs' ex ex':List Addr} {H H1 H2:Hp} {h h1 h2 h':Heap} {a x e:Addr} {o:HO}
theorem Un.any (u:Un fs ex H H1 h h1) {b:Addr} {ob:Obj} (q:h.get? b=some ob) (n:H b=none) (hx:b∉ex):∃ sl,h1.get? b=some { ob with slots:=sl }:=by
 by_cases hb:b∈fs
 ·exact u.slot b ob q n hb hx
 ·exact ⟨ob.slots,u.keep b ob q n hb hx⟩
theorem Un.trans (a:Un fs ex H H1 h h1) (b:Un fs ex H1 H2 h1 h2):Un fs ex H H2 h h2 where
 keep:=fun c ob q n hc hx=>b.keep c ob (a.keep c ob q n hc hx) (a.free c ob q n hx) hc hx
 slot:=fun c ob q n hc hx=>by
  obtain ⟨sl,e1⟩:=a.slot c ob q n hc hx
  obtain ⟨sl',e2⟩:=b.slot c _ e1 (a.free c ob q n hx) hc hx
  exact ⟨sl',e2⟩
 free:=fun c ob q n hx=>by
  obtain ⟨o',e1⟩:=a.there c ob q hx
  exact b.free c o' e1 (a.free c ob q n hx) hx
 there:=fun c ob q hx=>by
  obtain ⟨o',e1⟩:=a.there c ob q hx
  exact b.there c o' e1 hx
 tups:=fun c xs q=>b.tups c xs (a.tups c xs q)
 frzs:=fun c ob xs q=>b.frzs c ob xs (a.frzs c ob xs q)
 tbls:=fun c ps q=>by
  obtain ⟨m1,e1⟩:=a.tbls c ps q
  obtain ⟨m2,e2⟩:=b.tbls c _ e1
  exact ⟨m1++m2,by rw [e2,Array.append_assoc]⟩
theorem Un.kept (k:∀ b u,h.get? b=some u→h'.get? b=some u):Un fs ex H H h h' :=
 ⟨fun b ob q _ _ _=>k b ob q,fun b ob q _ _ _=>⟨ob.slots,k b ob q⟩,fun _ _ _ n _=>n,fun b ob q _=>⟨ob,k b ob q⟩,fun _ _ q=>q,fun _ _ _ q=>q,fun _ ps q=>⟨#[],by rw [q];simp⟩⟩
theorem Un.refl:Un fs ex H H h h:=Un.kept fun _ _ q=>q
theorem Un.laid (k:∀ b u,h.get? b=some u→h'.get? b=some u) (hp:h.objs.size≤a) (hn:H a=none):Un fs ex H (upd H a o) h h' where
 keep:=fun b u q _ _ _=>k b u q
 slot:=fun b u q _ _ _=>⟨u.slots,k b u q⟩
 free:=fun b u q n _=>by rw [ZG (Nat.ne_of_lt (Nat.lt_of_lt_of_le (Heap.lt_size q) hp))];exact n
 there:=fun b u q _=>⟨u,k b u q⟩
 tups:=fun b xs q=>by rw [ZG (Zac q hn)];exact q
 frzs:=fun b u xs q=>by rw [ZG (Zac q hn)];exact q
 tbls:=fun b ps q=>⟨#[],by rw [ZG (Zac q hn),q];simp⟩
theorem Un.write (mu:Mut (H x)) (he:e=x∨H e=some (.own x)) (k:∀ b u,b≠e→h.get? b=some u→h'.get? b=some u) (heo:∃ u,h'.get? e=some u):Un fs ex H (upd H x o) h h':=by
 have hx:∀ b,H b=none→b≠x:=fun b n z=>by subst z;rw [n] at mu;exact mu
 have hb:∀ b,H b=none→b≠e:=fun b n z=>by
  subst z
  rcases he with r | r
  ·exact hx b n r
  ·rw [n] at r;cases r
 have hm:∀ b u,H b=some u→¬ Mut (some u)→b≠x:=fun b u q nm z=>by subst z;rw [q] at mu;exact nm mu
 refine ⟨fun b u q n _ _=>k b u (hb b n) q,fun b u q n _ _=>⟨u.slots,k b u (hb b n) q⟩,fun b u q n _=>by rw [ZG (hx b n)];exact n,fun b u q _=>?_,
  fun b xs q=>by rw [ZG (hm b _ q fun z=>z)];exact q,fun b u xs q=>by rw [ZG (hm b _ q fun z=>z)];exact q,fun b ps q=>⟨#[],by rw [ZG (hm b _ q fun z=>z),q];simp⟩⟩
 by_cases hbe:b=e
 ·subst hbe;exact heo
 ·exact ⟨u,k b u hbe q⟩
theorem Un.mono (u:Un fs ex H H1 h h1) (hs:∀ b∈fs,b∈fs') (hx:∀ b∈ex,b∈ex'):Un fs' ex' H H1 h h1 :=
 ⟨fun b ob q n hb he=>u.keep b ob q n (fun z=>hb (hs b z)) fun z=>he (hx b z),fun _ _ q n _ he=>u.any q n fun z=>he (hx _ z),fun b ob q n he=>u.free b ob q n fun z=>he (hx b z),fun b ob q he=>u.there b ob q fun z=>he (hx b z),u.tups,u.frzs,u.tbls⟩
end
def trk (h:Heap) (H:Hp):List Addr:=(List.range h.objs.size).filter fun a=>(H a).isSome
def ZeS (h:Heap) (H:Hp):Heap:=PySem.W.hideAll h (trk h H)
theorem Zmo (h:Heap) (H:Hp):(ZeS h H).objs.size=h.objs.size:=PySem.W.hideAll_size _ _
theorem Znn {h:Heap} {H:Hp} {b:Addr} {o:Obj} (e:h.get? b=some o) (n:H b=none):(ZeS h H).get? b=some o :=
 PySem.W.hideAll_get _ e fun hm=>by
  have q:(H b).isSome=true:=(List.mem_filter.mp hm).2
  rw [n] at q;simp at q
theorem Zpe {h:Heap} {H:Hp} {b:Addr} {o:Obj} (e:(ZeS h H).get? b=some o):h.get? b=some o∧H b=none:=by
 have e':h.get? b=some o:=PySem.W.of_hideAll (trk h H) e
 refine ⟨e',?_⟩
 cases q:H b with
 | none=>rfl
 | some x =>
  have hm:b∈trk h H:=List.mem_filter.mpr ⟨List.mem_range.mpr (Heap.lt_size e'),by simp [q]⟩
  have z:(ZeS h H).get? b=none:=PySem.W.hideAll_none (trk h H) hm
  rw [z] at e;cases e
def Zpb (g h:Heap) (L:Addr):List (Addr×Obj):=(List.range h.objs.size).filterMap fun a=>if a=L∨(g.get? a).isSome=true then none else (h.get? a).map fun o=>(a,o)
def ZE (g h:Heap) (L d:Addr):List (Addr×Obj):=(Zpb g h L).filter fun p=>decide (p.1≠d)
end L2
namespace L2
open PySem PySem.Spec PyProof.Rows
structure Mod (K:PySem.W.Frag) (mg:Str→Option Value) (base:Heap):Prop where
 kin:K.In base
 glob:base.Ns mainGlobals mg
 blt:∃ mb,base.Ns builtinsNs mb∧∀ x:Str,x≠"__name__"→mb x=bootBuiltins x
 nolimit:base.NoLimit
structure Cx where
 prog:Program
 w:World
 K:PySem.W.Frag
 mg:Str→Option Value
 base:Heap
 A:Around
 N:List Str
 s₀:Shared
 H₀:Hp
 env:Env
 outer:List Env
 stack:List Env
 ex:List Addr
 fn:Str→Bool
 calm:Bool
 pn:List (Addr×Obj)
 xe:Value→Shared→Prop
def frs (l:List Env):List Addr:=l.filterMap (·.frame)
abbrev Cx.fs (X:Cx):List Addr:=frs X.outer
def Vis (sc:Scope) (x:Str):Prop:=sc.names.lookup x=some .local∨sc.names.lookup x=some .cell∨sc.names.lookup x=some .free
def Loc (sc:Scope) (x:Str):Prop:=sc.names.lookup x=some .local∨sc.names.lookup x=some .cell
def ZsC (env:Env) (h:Heap) (m:Str→Option Value) (x:Str) (u:Value):Prop :=
 (env.kindOf x=some .local∧m x=some u)∨((env.kindOf x=some .cell∨env.kindOf x=some .free)∧∃ c,env.cells.lookup x=some c∧h.IsCell c (some u))
structure Cx.Ok (X:Cx):Prop where
 mod:Mod X.K X.mg X.base
 kind:X.env.scope.kind=.function
 glob:X.env.globals=mainGlobals
 blt:X.env.builtins=builtinsNs
 above:X.s₀.heap.objs.size≤X.env.locals
 inj:∀ x y c,X.env.cells.lookup x=some c→X.env.cells.lookup y=some c→x=y
 has:∀ x,(X.env.kindOf x=some .cell∨X.env.kindOf x=some .free)→∃ c,X.env.cells.lookup x=some c
 cab:∀ x c,X.fn x=true→X.env.cells.lookup x=some c→X.s₀.heap.objs.size≤c
 hd:X.calm=true→X.A.handled=none
 frames:X.A.frames=some X.stack
 stk:X.stack=X.outer∨(X.stack=X.env::X.outer∧X.env.frame=some X.env.locals)
 exf:∀ b∈X.ex,b≠X.env.locals∧∀ x c,X.env.cells.lookup x=some c→c≠b
 bs:∀ b o,X.base.get? b=some o→X.s₀.heap.get? b=some o∧X.H₀ b=none
 bsz:X.base.objs.size≤X.s₀.heap.objs.size
 noex:∀ b o,X.base.get? b=some o→b∉X.ex
 exfs:∀ b∈X.ex,b∉X.fs
 funs:X.s₀.heap.FunFrames X.base X.outer
 frf:∀ b∈X.fs,X.H₀ b=none
structure Inv (X:Cx) (pins:List (Addr×Obj)) (σ:List (Option V)) (H:Hp) (s:Shared):Prop where
 ok:X.Ok
 os:s.os=X.s₀.os
 bare:AllBare s.gens
 base:Un X.fs X.ex X.H₀ H X.s₀.heap s.heap
 loc:∃ m,s.heap.Ns X.env.locals m∧∀ (i:Nat) (x:Str) (v:V),X.N[i]?=some x→σ[i]?=some (some v)→Vis X.env.scope x→∃ u,RelV v u∧ZsC X.env s.heap m x u
 cell:∀ x c,X.env.cells.lookup x=some c→∃ v,s.heap.IsCell c v
 free:H X.env.locals=none
 freeC:∀ x c,X.env.cells.lookup x=some c→H c=none
 pin:∀ p∈X.pn++pins,s.heap.get? p.1=some p.2∧H p.1=none∧p.1≠X.env.locals∧p.1∉X.fs∧∀ v,p.2.data≠.cell v
 hok:HOk X.prog X.w H s.heap
 len:σ.length=X.N.length
section
variable {X:Cx} {pins:List (Addr×Obj)} {σ:List (Option V)} {H H':Hp} {s:Shared} {h':Heap}
theorem Cx.Ok.nofr (ok:X.Ok) {b:Addr} {o:Obj} (e:X.base.get? b=some o):b∉X.fs:=fun hb=>by
 have:=(ok.funs.mem hb).1
 rw [e] at this;cases this
theorem Inv.bs (I:Inv X pins σ H s):∀ b o,X.base.get? b=some o→s.heap.get? b=some o∧H b=none:=fun b o e =>
 ⟨I.base.keep b o (I.ok.bs b o e).1 (I.ok.bs b o e).2 (I.ok.nofr e) (I.ok.noex b o e),I.base.free b o (I.ok.bs b o e).1 (I.ok.bs b o e).2 (I.ok.noex b o e)⟩
theorem Inv.bk (I:Inv X pins σ H s):∀ b o,X.base.get? b=some o→s.heap.get? b=some o:=fun b o e=>(I.bs b o e).1
theorem Inv.mod (I:Inv X pins σ H s):Mod X.K X.mg X.base:=I.ok.mod
theorem Inv.kIn (I:Inv X pins σ H s):X.K.In s.heap:=I.ok.mod.kin.keeps I.bk
theorem Inv.nolimit (I:Inv X pins σ H s):s.heap.NoLimit:=I.ok.mod.nolimit.keeps I.bk
theorem Inv.fr (I:Inv X pins σ H s):∃ m,Fr X.base X.env.locals s.heap m :=
 let ⟨m,hn,_⟩:=I.loc
 ⟨m,hn,I.bk,Nat.le_trans I.ok.bsz I.ok.above⟩
theorem Inv.lt (I:Inv X pins σ H s):X.env.locals<s.heap.objs.size:=let ⟨_,hn,_⟩:=I.loc;hn.lt
theorem Inv.sz (I:Inv X pins σ H s):X.s₀.heap.objs.size≤s.heap.objs.size:=Nat.le_trans I.ok.above (Nat.le_of_lt I.lt)
theorem Inv.nofs (I:Inv X pins σ H s) {a:Addr} (h:s.heap.objs.size≤a):a∉X.fs:=fun hb=>by
 obtain ⟨_,o,ho,_⟩:=I.ok.funs.mem hb
 exact absurd (Nat.lt_of_lt_of_le (Heap.lt_size ho) (Nat.le_trans I.sz h)) (Nat.lt_irrefl _)
theorem Inv.cne (I:Inv X pins σ H s):∀ x c,X.env.cells.lookup x=some c→c≠X.env.locals:=fun x c e z=>by
 obtain ⟨v,o,ho,hd⟩:=I.cell x c e
 obtain ⟨m,⟨o',es,ep,ho',hd',_⟩,_⟩:=I.loc
 rw [z,ho'] at ho;cases ho;rw [hd'] at hd;cases hd
theorem Inv.funs (I:Inv X pins σ H s):s.heap.FunFrames X.base X.outer:=by
 have all:∀ (l:List Env),(∀ b∈frs l,b∈X.fs)→X.s₀.heap.FunFrames X.base l→s.heap.FunFrames X.base l:=by
  intro l
  induction l with
  | nil=>intro _ _;trivial
  | cons env r ih =>
   intro hs hl
   obtain ⟨hk,⟨L,o,hf,hn,ho,hd⟩,hr⟩:=hl
   have hL:L∈X.fs:=hs L (by unfold frs;rw [List.filterMap_cons,hf];exact List.mem_cons_self)
   obtain ⟨sl,e⟩:=I.base.slot L o ho (I.ok.frf L hL) hL fun z=>I.ok.exfs L z hL
   exact ⟨hk,⟨L,_,hf,hn,e,hd⟩,ih (fun b hb=>hs b (by unfold frs;rw [List.filterMap_cons,hf];exact List.mem_cons_of_mem _ hb)) hr⟩
 exact all X.outer (fun _ hb=>hb) I.ok.funs
theorem Inv.stack (I:Inv X pins σ H s):s.heap.FunFrames X.base X.stack:=by
 rcases I.ok.stk with e | ⟨e,hf⟩
 ·rw [e];exact I.funs
 ·rw [e]
  obtain ⟨m,hn,_⟩:=I.loc
  refine .cons (by rw [I.ok.kind];decide) hf hn ?_ I.funs
  exact Heap.get?_none_of_le (Nat.le_trans I.ok.bsz I.ok.above)
theorem Inv.stkSub (I:Inv X pins σ H s):∀ b∈frs X.stack,b∈X.env.locals::X.fs:=fun b hb=>by
 rcases I.ok.stk with e | ⟨e,hf⟩
 ·rw [e] at hb;exact List.mem_cons_of_mem _ hb
 ·rw [e] at hb
  unfold frs at hb
  rw [List.filterMap_cons,hf] at hb
  exact hb
theorem Inv.stkFree (I:Inv X pins σ H s):∀ b∈frs X.stack,H b=none:=fun b hb=>by
 rcases List.mem_cons.mp (I.stkSub b hb) with e | hb
 ·rw [e];exact I.free
 ·obtain ⟨_,o,ho,_⟩:=I.ok.funs.mem hb
  exact I.base.free b o ho (I.ok.frf b hb) fun z=>I.ok.exfs b z hb
theorem Inv.step {g':Array GenState} {t':Nat} {d':Drawn} {ch:List Addr} (I:Inv X pins σ H s)
  (hch:∀ b∈ch,(b∈X.ex∨X.s₀.heap.objs.size≤b)∧b≠X.env.locals∧(∀ x c,X.env.cells.lookup x=some c→c≠b)∧∀ p∈X.pn++pins,p.1≠b)
  (keep:∀ b o,b≠X.env.locals→b∉X.fs→b∉ch→s.heap.get? b=some o→H b=none→h'.get? b=some o)
  (slot:∀ b o,b≠X.env.locals→b∈X.fs→b∉ch→s.heap.get? b=some o→H b=none→∃ sl,h'.get? b=some { o with slots:=sl }) (free:∀ b o,b∉ch→s.heap.get? b=some o→H b=none→H' b=none)
  (there:∀ b o,b∉ch→s.heap.get? b=some o→∃ o',h'.get? b=some o')
  (tups:∀ b xs,H b=some (.tup xs)→H' b=some (.tup xs)) (frzs:∀ b o u,H b=some (.frz o u)→H' b=some (.frz o u)) (tbls:∀ b ps,H b=some (.tbl ps)→∃ more,H' b=some (.tbl (ps++more)))
  (ns:∀ m,s.heap.Ns X.env.locals m→h'.Ns X.env.locals m) (hok:HOk X.prog X.w H' h') (hg:AllBare g') :
  Inv X pins σ H' { s with heap:=h',gens:=g',drawn:=d',toks:=t' }:=by
 have neL:∀ b o,X.s₀.heap.get? b=some o→b≠X.env.locals:=fun b o e=>Nat.ne_of_lt (Nat.lt_of_lt_of_le (Heap.lt_size e) I.ok.above)
 have neC:∀ b o,X.s₀.heap.get? b=some o→b∉X.ex→b∉ch:=fun b o e hx hb=>by
  rcases (hch b hb).1 with z | z
  ·exact hx z
  ·exact absurd (Nat.lt_of_lt_of_le (Heap.lt_size e) z) (Nat.lt_irrefl _)
 have cellK:∀ x c,X.env.cells.lookup x=some c→∀ v,s.heap.IsCell c v→h'.IsCell c v:=fun x c e v ⟨o,ho,hd⟩=>by
  have nch:c∉ch:=fun z=>(hch c z).2.2.1 x c e rfl
  by_cases hc:c∈X.fs
  ·obtain ⟨sl,q⟩:=slot c o (I.cne x c e) hc nch ho (I.freeC x c e)
   exact ⟨_,q,hd⟩
  ·exact ⟨o,keep c o (I.cne x c e) hc nch ho (I.freeC x c e),hd⟩
 refine ⟨I.ok,I.os,hg,⟨fun b o e n hb hx=>?_,fun b o e n hb hx=>?_,fun b o e n hx=>?_,fun b o e hx=>?_,fun b xs e=>tups b xs (I.base.tups b xs e),fun b o xs e=>frzs b o xs (I.base.frzs b o xs e),fun b ps e=>?_⟩,?_,fun x c e=>?_,?_,fun x c e=>?_,fun p hp=>?_,hok,I.len⟩
 ·exact keep b o (neL b o e) hb (neC b o e hx) (I.base.keep b o e n hb hx) (I.base.free b o e n hx)
 ·obtain ⟨sl,e1⟩:=I.base.slot b o e n hb hx
  obtain ⟨sl',e2⟩:=slot b _ (neL b o e) hb (neC b o e hx) e1 (I.base.free b o e n hx)
  exact ⟨sl',e2⟩
 ·obtain ⟨o',e1⟩:=I.base.there b o e hx
  exact free b o' (neC b o e hx) e1 (I.base.free b o e n hx)
 ·obtain ⟨o',e1⟩:=I.base.there b o e hx
  exact there b o' (neC b o e hx) e1
 ·obtain ⟨m1,e1⟩:=I.base.tbls b ps e
  obtain ⟨m2,e2⟩:=tbls b _ e1
  exact ⟨m1++m2,by rw [e2,Array.append_assoc]⟩
 ·obtain ⟨m,hn,hl⟩:=I.loc
  refine ⟨m,ns m hn,fun i x v e1 e2 e3=>?_⟩
  obtain ⟨u,r,l⟩:=hl i x v e1 e2 e3
  refine ⟨u,r,?_⟩
  rcases l with l | ⟨k,c,e,z⟩
  ·exact .inl l
  ·exact .inr ⟨k,c,e,cellK x c e _ z⟩
 ·obtain ⟨v,z⟩:=I.cell x c e
  exact ⟨v,cellK x c e v z⟩
 ·obtain ⟨m,⟨o,_,_,ho,_⟩,_⟩:=I.loc
  exact free _ o (fun z=>(hch _ z).2.1 rfl) ho I.free
 ·obtain ⟨v,o,ho,hd⟩:=I.cell x c e
  exact free c o (fun z=>(hch c z).2.2.1 x c e rfl) ho (I.freeC x c e)
 ·obtain ⟨e,n,ne,nf,d⟩:=I.pin p hp
  have nch:p.1∉ch:=fun z=>(hch p.1 z).2.2.2 p hp rfl
  exact ⟨keep p.1 p.2 ne nf nch e n,free p.1 p.2 nch e n,ne,nf,d⟩
theorem Inv.un {t':Nat} (I:Inv X pins σ H s) (u:Un X.fs [] H H' s.heap h') (hok:HOk X.prog X.w H' h'):Inv X pins σ H' { s with heap:=h',toks:=t' }:=by
 obtain ⟨m,⟨o,es,ep,ho,r⟩,_⟩:=id I.loc
 obtain ⟨sl,hL⟩:=u.any ho I.free (by simp)
 exact I.step (g':=s.gens) (d':=s.drawn) (ch:=[]) (fun _ z=>nomatch z) (fun b o _ hb _ e n=>u.keep b o e n hb (by simp)) (fun b o _ hb _ e n=>u.slot b o e n hb (by simp)) (fun b o _ e n=>u.free b o e n (by simp)) (fun b o _ e=>u.there b o e (by simp)) u.tups u.frzs u.tbls (fun m' hm=>by
  obtain ⟨o',es',ep',ho',r'⟩:=hm
  rw [ho] at ho';cases ho'
  exact ⟨_,es',ep',hL,r'⟩) hok I.bare
theorem Inv.call {g':Array GenState} {t':Nat} {d':Drawn} {ch:List Addr} (I:Inv X pins σ H s) (u:Un (frs X.stack) ch H H' s.heap h') (hok:HOk X.prog X.w H' h') (hg:AllBare g')
  (hch:∀ b∈ch,(b∈X.ex∨X.s₀.heap.objs.size≤b)∧b≠X.env.locals∧(∀ x c,X.env.cells.lookup x=some c→c≠b)∧∀ p∈X.pn++pins,p.1≠b) :
  Inv X pins σ H' { s with heap:=h',gens:=g',drawn:=d',toks:=t' }:=by
 obtain ⟨m,⟨o,es,ep,ho,r⟩,_⟩:=id I.loc
 obtain ⟨sl,hL⟩:=u.any ho I.free fun z=>(hch _ z).2.1 rfl
 exact I.step (ch:=ch) hch (fun b o hL hb hc e n=>u.keep b o e n (fun z=>(List.mem_cons.mp (I.stkSub b z)).elim hL hb) hc) (fun b o _ _ hc e n=>u.any e n hc) (fun b o hc e n=>u.free b o e n hc) (fun b o hc e=>u.there b o e hc) u.tups u.frzs u.tbls (fun m' hm=>by
  obtain ⟨o',es',ep',ho',r'⟩:=hm
  rw [ho] at ho';cases ho'
  exact ⟨_,es',ep',hL,r'⟩) hok hg
theorem Inv.turned {t':Nat} {it:Addr} (I:Inv X pins σ H s) (k:∀ b o,b≠it→s.heap.get? b=some o→h'.get? b=some o) (hn:H it=none) (hL:it≠X.env.locals)
  (h1:it∈X.ex∨X.s₀.heap.objs.size≤it) (h2:∀ x c,X.env.cells.lookup x=some c→c≠it) (h3:∀ p∈X.pn++pins,p.1≠it):Inv X pins σ H { s with heap:=h',toks:=t' }:=by
 have nit:∀ b u,H b=some u→b≠it:=fun b u e z=>by rw [z,hn] at e;cases e
 refine I.step (g':=s.gens) (d':=s.drawn) (ch:=[it]) (fun b hb=>?_) (fun b o _ _ hc e _=>k b o (fun z=>hc (by simp [z])) e) (fun b o _ _ hc e _=>⟨o.slots,k b o (fun z=>hc (by simp [z])) e⟩) (fun _ _ _ _ n=>n)
  (fun b o hc e=>⟨o,k b o (fun z=>hc (by simp [z])) e⟩) (fun _ _ e=>e) (fun _ _ _ e=>e) (fun b ps e=>⟨#[],by rw [e];simp⟩) (fun m hm=>?_) (fun b u e=>?_) I.bare
 ·have e:b=it:=by simpa using hb
  subst e
  exact ⟨h1,hL,h2,h3⟩
 ·obtain ⟨o,es,ep,ho,r⟩:=hm
  exact ⟨o,es,ep,k _ o (Ne.symm hL) ho,r⟩
 ·refine (I.hok b u e).stay (fun c v hc q=>k c v ?_ q) (fun _ q=>q) fun _ _ q=>q
  rcases hc with z | z
  ·rw [z];exact nit b u e
  ·exact nit c _ z
theorem Inv.tok (I:Inv X pins σ H s) (t:Nat):Inv X pins σ H { s with toks:=t }:=I.un (h':=s.heap) (t':=t) Un.refl I.hok
theorem Inv.kept {t':Nat} (I:Inv X pins σ H s) (k:∀ b u,s.heap.get? b=some u→h'.get? b=some u):Inv X pins σ H { s with heap:=h',toks:=t' }:=I.un (Un.kept k) (I.hok.kept k)
theorem Inv.laid {a:Addr} {o:HO} {t':Nat} (I:Inv X pins σ H s) (k:∀ b u,s.heap.get? b=some u→h'.get? b=some u) (hp:s.heap.objs.size≤a) (new:ObjOk X.prog X.w (upd H a o) h' a o) :
  Inv X pins σ (upd H a o) { s with heap:=h',toks:=t' }:=I.un (Un.laid k hp (I.hok.fresh hp)) (I.hok.laid k hp new)
theorem Inv.write {x e:Addr} {o:HO} {t':Nat} (I:Inv X pins σ H s) (mu:Mut (H x)) (he:e=x∨H e=some (.own x)) (k:∀ b u,b≠e→s.heap.get? b=some u→h'.get? b=some u) (heo:∃ u,h'.get? e=some u)
  (new:ObjOk X.prog X.w (upd H x o) h' x o):Inv X pins σ (upd H x o) { s with heap:=h',toks:=t' }:=I.un (Un.write mu he k heo) (I.hok.write mu he k heo new)
theorem Inv.weak {σ':List (Option V)} (I:Inv X pins σ H s) (hl:σ'.length=σ.length) (w:∀ (i:Nat) v,σ'[i]?=some (some v)→σ[i]?=some (some v)):Inv X pins σ' H s :=
 ⟨I.ok,I.os,I.bare,I.base,let ⟨m,hn,hl'⟩:=I.loc;⟨m,hn,fun i x v e1 e2 e3=>hl' i x v e1 (w i v e2) e3⟩,I.cell,I.free,I.freeC,I.pin,I.hok,hl.trans I.len⟩
theorem Inv.pins_of {pins':List (Addr×Obj)} (I:Inv X pins σ H s) (h:∀ p∈pins',s.heap.get? p.1=some p.2∧H p.1=none∧p.1≠X.env.locals∧p.1∉X.fs∧∀ v,p.2.data≠.cell v):Inv X pins' σ H s :=
 ⟨I.ok,I.os,I.bare,I.base,I.loc,I.cell,I.free,I.freeC,fun p hp=>(List.mem_append.mp hp).elim (fun z=>I.pin p (List.mem_append_left _ z)) (h p),I.hok,I.len⟩
theorem Zjn {N:List Str} (hN:N.Nodup) {i j:Nat} {x:Str} (a:N[i]?=some x) (b:N[j]?=some x):i=j:=by
 obtain ⟨h1,e1⟩:=List.getElem?_eq_some_iff.mp a
 obtain ⟨h2,e2⟩:=List.getElem?_eq_some_iff.mp b
 exact (List.getElem_inj hN).mp (e1.trans e2.symm)
theorem Zij {M:Model} {A:Around} {E:Value→Shared→Prop} {i:Nat} {x:Str} {v:V} {u:Value} {Q:Unit→Shared→Prop} (I:Inv X pins σ H s) (hN:X.N.Nodup) (hi:X.N[i]?=some x) (hx:Loc X.env.scope x) (r:RelV v u)
  (h:∀ s',Inv X pins (σ.set i (some v)) H s'→(∃ a,Heap.SameBut a s.heap s'.heap∧(a=X.env.locals∨X.env.cells.lookup x=some a))→Q () s') (hf:X.fn x=true∨X.env.scope.names.lookup x=some .local:=by first | exact .inl rfl | exact .inr rfl | assumption):wpAny M A (storeName X.env x u) Q E s:=by
 obtain ⟨m,hn,hl⟩:=id I.loc
 have hcls:(X.env.scope.kind==.class||(X.env.scope.kind==.module&&X.env.locals != X.env.globals))=false:=by rw [I.ok.kind];rfl
 have hiσ:i<σ.length:=by rw [I.len];exact (List.getElem?_eq_some_iff.mp hi).1
 have cne:=I.cne
 have tracked:∀ {a:Addr} {h':Heap},(∃ o,s.heap.get? a=some o∧H a=none)→Heap.SameBut a s.heap h'→HOk X.prog X.w H h':=fun {a h'} ha hs b ob e=>by
  obtain ⟨_,_,hfree⟩:=ha
  refine (I.hok b ob e).stay (fun c w' hc q=>(hs.2 c ?_).trans q) (fun _ q=>q) fun _ _ q=>q
  rintro rfl
  rcases hc with rfl | hc
  ·rw [hfree] at e;cases e
  ·rw [hfree] at hc;cases hc
 rcases hx with hk | hk
 ·refine wpAny_storeName_local hk hn (fun h' hn' hs=>?_) hcls
  obtain ⟨oL,_,_,hoL,_⟩:=id hn
  refine h _ ⟨I.ok,I.os,I.bare,⟨fun b o e n hb hx=>?_,fun b o e n hb hx=>?_,I.base.free,fun b o e hx=>?_,I.base.tups,I.base.frzs,I.base.tbls⟩,⟨_,hn',fun j y v' e1 e2 e3=>?_⟩,fun y c e=>?_,I.free,I.freeC,fun p hp=>?_,tracked ⟨oL,hoL,I.free⟩ hs,by simpa using I.len⟩ ⟨_,hs,.inl rfl⟩
  ·exact (hs.2 b (Nat.ne_of_lt (Nat.lt_of_lt_of_le (Heap.lt_size e) I.ok.above))).trans (I.base.keep b o e n hb hx)
  ·obtain ⟨sl,e1⟩:=I.base.slot b o e n hb hx
   exact ⟨sl,(hs.2 b (Nat.ne_of_lt (Nat.lt_of_lt_of_le (Heap.lt_size e) I.ok.above))).trans e1⟩
  ·obtain ⟨o',e1⟩:=I.base.there b o e hx
   exact ⟨o',(hs.2 b (Nat.ne_of_lt (Nat.lt_of_lt_of_le (Heap.lt_size e) I.ok.above))).trans e1⟩
  ·by_cases hj:j=i
   ·subst hj
    rw [hi] at e1;cases e1
    rw [List.getElem?_set_self hiσ] at e2
    cases e2
    exact ⟨u,r,.inl ⟨hk,by simp⟩⟩
   ·rw [List.getElem?_set_ne (Ne.symm hj)] at e2
    obtain ⟨u',r',q⟩:=hl j y v' e1 e2 e3
    refine ⟨u',r',?_⟩
    rcases q with ⟨k,e⟩ | ⟨k,c,e,z⟩
    ·refine .inl ⟨k,?_⟩
     have:y≠x:=fun e=>hj (Zjn hN e1 (e ▸ hi))
     simp [this,e]
    ·exact .inr ⟨k,c,e,z.sameBut hs (cne y c e)⟩
  ·obtain ⟨w',z⟩:=I.cell y c e
   exact ⟨w',z.sameBut hs (cne y c e)⟩
  ·obtain ⟨e,n,ne,nf,d⟩:=I.pin p hp
   exact ⟨(hs.2 p.1 ne).trans e,n,ne,nf,d⟩
 ·have hfn:X.fn x=true:=by
   rcases hf with z | z
   ·exact z
   ·rw [z] at hk;cases hk
  obtain ⟨c,hc⟩:=I.ok.has x (.inl hk)
  obtain ⟨w',z⟩:=I.cell x c hc
  refine wpAny_storeName_cell I.ok.kind hk hc z (fun h' hc' hs=>?_)
  obtain ⟨oc,hoc,hocd⟩:=id z
  refine h { s with heap:=h' } ⟨I.ok,I.os,I.bare,⟨fun b o e n hb hx=>?_,fun b o e n hb hx=>?_,I.base.free,fun b o e hx=>?_,I.base.tups,I.base.frzs,I.base.tbls⟩,⟨m,hn.sameBut hs (Ne.symm (cne x c hc)),fun j y v' e1 e2 e3=>?_⟩,fun y c' e=>?_,I.free,I.freeC,fun p hp=>?_,tracked ⟨oc,hoc,I.freeC x c hc⟩ hs,by simpa using I.len⟩ ⟨c,hs,.inr hc⟩
  ·exact (hs.2 b (Nat.ne_of_lt (Nat.lt_of_lt_of_le (Heap.lt_size e) (I.ok.cab x c hfn hc)))).trans (I.base.keep b o e n hb hx)
  ·obtain ⟨sl,e1⟩:=I.base.slot b o e n hb hx
   exact ⟨sl,(hs.2 b (Nat.ne_of_lt (Nat.lt_of_lt_of_le (Heap.lt_size e) (I.ok.cab x c hfn hc)))).trans e1⟩
  ·obtain ⟨o',e1⟩:=I.base.there b o e hx
   exact ⟨o',(hs.2 b (Nat.ne_of_lt (Nat.lt_of_lt_of_le (Heap.lt_size e) (I.ok.cab x c hfn hc)))).trans e1⟩
  ·by_cases hj:j=i
   ·subst hj
    rw [hi] at e1;cases e1
    rw [List.getElem?_set_self hiσ] at e2
    cases e2
    exact ⟨u,r,.inr ⟨.inl hk,c,hc,hc'⟩⟩
   ·rw [List.getElem?_set_ne (Ne.symm hj)] at e2
    obtain ⟨u',r',q⟩:=hl j y v' e1 e2 e3
    refine ⟨u',r',?_⟩
    rcases q with q | ⟨k,c',e,z'⟩
    ·exact .inl q
    ·refine .inr ⟨k,c',e,z'.sameBut hs ?_⟩
     rintro rfl
     exact hj (Zjn hN e1 (I.ok.inj _ _ _ e hc ▸ hi))
  ·by_cases hcc:c'=c
   ·subst hcc;exact ⟨_,hc'⟩
   ·obtain ⟨w2,z2⟩:=I.cell y c' e
    exact ⟨w2,z2.sameBut hs hcc⟩
  ·obtain ⟨e,n,ne,nf,d⟩:=I.pin p hp
   refine ⟨(hs.2 p.1 ?_).trans e,n,ne,nf,d⟩
   intro q
   rw [q,hoc] at e
   have q':oc=p.2:=Option.some.inj e
   exact d w' (by rw [← q'];exact hocd)
theorem Zi9 {M:Model} {A:Around} {E:Value→Shared→Prop} {i:Nat} {x:Str} {v:V} {u:Value} {Q:Unit→Shared→Prop} (I:Inv X pins σ H s) (hN:X.N.Nodup) (hi:X.N[i]?=some x) (hx:Loc X.env.scope x) (r:RelV v u)
  (h:∀ s',Inv X pins (σ.set i (some v)) H s'→Q () s') (hf:X.fn x=true∨X.env.scope.names.lookup x=some .local:=by first | exact .inl rfl | exact .inr rfl | assumption):wpAny M A (storeName X.env x u) Q E s :=
 Zij I hN hi hx r (fun s' I' _=>h s' I') hf
theorem Inv.call' {s':Shared} {ch:List Addr} (I:Inv X pins σ H s) (ho:s'.os=s.os) (u:Un (frs X.stack) ch H H' s.heap s'.heap) (hok:HOk X.prog X.w H' s'.heap) (hg:AllBare s'.gens)
  (hch:∀ b∈ch,(b∈X.ex∨X.s₀.heap.objs.size≤b)∧b≠X.env.locals∧(∀ x c,X.env.cells.lookup x=some c→c≠b)∧∀ p∈X.pn++pins,p.1≠b):Inv X pins σ H' s':=by
 obtain ⟨h',g',d',t',o'⟩:=s'
 have e:o'=s.os:=ho
 subst e
 exact I.call (g':=g') (t':=t') (d':=d') u hok hg hch
end
abbrev XK:=Value→Option Addr→Hp→Prop
abbrev St:=List (Option V)
abbrev VK:=V→Hp→Prop
abbrev TE:=St→Hp→VK→Prop
abbrev TT:=St→Hp→(Bool→Hp→Prop)→Prop
abbrev TA:=St→Hp→(List V→Hp→Prop)→Prop
structure Zdy where
 nx:St→Hp→Prop
 rt:VK
 bk:St→Hp→Prop:=fun _ _=>False
 ct:St→Hp→Prop:=fun _ _=>False
abbrev TS:=Zdy→St→Hp→Prop
def EP (X:Cx) (pins:List (Addr×Obj)) (σ:St) (Q:VK) (u:Value) (s':Shared):Prop:=∃ v H',Inv X pins σ H' s'∧RelV v u∧Q v H'
def TP (X:Cx) (pins:List (Addr×Obj)) (σ:St) (Q:Bool→Hp→Prop) (b:Bool) (s':Shared):Prop:=∃ H',Inv X pins σ H' s'∧Q b H'
def AP (X:Cx) (pins:List (Addr×Obj)) (σ:St) (Q:List V→Hp→Prop) (us:List Value) (s':Shared):Prop:=∃ vs H',Inv X pins σ H' s'∧Vals vs us∧Q vs H'
def SP (X:Cx) (pins:List (Addr×Obj)) (D:Zdy) (f:Flow) (s':Shared):Prop :=
 match f with
 | .next=>∃ σ' H',Inv X pins σ' H' s'∧D.nx σ' H'
 | .brk=>∃ σ' H',Inv X pins σ' H' s'∧D.bk σ' H'
 | .cont=>∃ σ' H',Inv X pins σ' H' s'∧D.ct σ' H'
 | .ret u=>∃ v σ' H',Inv X pins σ' H' s'∧RelV v u∧D.rt v H'
def PE (X:Cx) (e:Expr) (t:TE):Prop :=
 ∀ (pins:List (Addr×Obj)) (s:Shared) (σ:St) (H:Hp) (Q:VK),Inv X pins σ H s→t σ H Q→wpAny (model X.prog X.w) X.A (eval e X.env) (EP X pins σ Q) X.xe s
def PT (X:Cx) (e:Expr) (t:TT):Prop :=
 ∀ (pins:List (Addr×Obj)) (s:Shared) (σ:St) (H:Hp) (Q:Bool→Hp→Prop),Inv X pins σ H s→t σ H Q→wpAny (model X.prog X.w) X.A (isTrue e X.env (eval e X.env)) (TP X pins σ Q) X.xe s
def PW (X:Cx) (e:Expr) (t:TT):Prop :=
 ∀ (whole:Sem Value) (pins:List (Addr×Obj)) (s:Shared) (σ:St) (H:Hp) (Q:Bool→Hp→Prop),Inv X pins σ H s→t σ H Q→wpAny (model X.prog X.w) X.A (isTrue e X.env whole) (TP X pins σ Q) X.xe s
theorem PW.pt {X:Cx} {e:Expr} {t:TT} (h:PW X e t):PT X e t:=h _
def PA (X:Cx) (es:List Expr) (t:TA):Prop :=
 ∀ (pos:Pos) (pins:List (Addr×Obj)) (s:Shared) (σ:St) (H:Hp) (Q:List V→Hp→Prop),Inv X pins σ H s→t σ H Q→wpAny (model X.prog X.w) X.A (spliced (backTo pos (starEach es X.env))) (AP X pins σ Q) X.xe s
def PS (X:Cx) (st:Stmt) (t:TS):Prop :=
 ∀ (pins:List (Addr×Obj)) (s:Shared) (σ:St) (H:Hp) (D:Zdy),Inv X pins σ H s→t D σ H→wpAny (model X.prog X.w) X.A (exec st X.env) (SP X pins D) X.xe s
def PSs (X:Cx) (st:List Stmt) (t:TS):Prop :=
 ∀ (pins:List (Addr×Obj)) (s:Shared) (σ:St) (H:Hp) (D:Zdy),Inv X pins σ H s→t D σ H→wpAny (model X.prog X.w) X.A (execs st X.env) (SP X pins D) X.xe s
theorem thn {α:Type} {t:Sem α} {Q Q':α→Shared→Prop} {M:Model} {A:Around} {E:Value→Shared→Prop} {s:Shared} (h:wpAny M A t Q E s) (hQ:∀ a s,Q a s→Q' a s):wpAny M A t Q' E s:=wpAny_mono h hQ fun _ _ x=>x
end L2
namespace L2
open PySem PySem.Spec PyProof.Rows
section
variable {X:Cx}
theorem bin {a b:Expr} {ta tb:TE} (ha:PE X a ta) (hb:PE X b tb) {pins:List (Addr×Obj)} {s:Shared} {σ:St} {H:Hp} {R:V→V→Hp→Prop} (I:Inv X pins σ H s) (h:ta σ H fun x H1=>tb σ H1 fun y H2=>R x y H2)
  {α:Type} {Q:α→Shared→Prop} {f:Value→Value→Sem α}
  (hf:∀ v u s2 x y H2,Inv X pins σ H2 s2→RelV x v→RelV y u→R x y H2→wpAny (model X.prog X.w) X.A (f v u) Q X.xe s2) :
  wpAny (model X.prog X.w) X.A (eval a X.env) (fun v s₁=>wpAny (model X.prog X.w) X.A (eval b X.env) (fun u s₂=>wpAny (model X.prog X.w) X.A (f v u) Q X.xe s₂) X.xe s₁) X.xe s:=by
 refine thn (ha pins s σ H _ I h) fun v s1 ⟨x,H1,I1,r1,q1⟩=>?_
 refine thn (hb pins s1 σ H1 _ I1 q1) fun u s2 ⟨y,H2,I2,r2,q2⟩=>?_
 exact hf v u s2 x y H2 I2 r1 r2 q2
def ZsB (i:Nat):TE:=fun σ H Q=>∃ v,σ[i]?=some (some v)∧Q v H
def tC (v:V):TE:=fun _ H Q=>Q v H
theorem Zcb {i:Nat} {x:Str} {pos:Pos} (hN:X.N[i]?=some x) (hv:Vis X.env.scope x) (hd:(x==("__debug__":Str))=false:=by decide) (hcd:(x==("__classdict__":Str))=false:=by decide):PE X (.Name x pos) (ZsB i):=by
 intro pins s σ H Q I h
 obtain ⟨v,e,h⟩:=h
 obtain ⟨m,hn,hl⟩:=I.loc
 obtain ⟨u,r,l⟩:=hl i x v hN e hv
 have fin:EP X pins σ Q u s:=⟨v,H,I,r,h⟩
 rcases l with ⟨hk,hm⟩ | ⟨hk,c,hc,hcell⟩
 ·exact wpAny_Name (wpAny_loadName_local I.ok.kind hk hn hm fin) hd
 ·rcases hk with hk | hk
  ·exact wpAny_Name (wpAny_loadName_cell I.ok.kind hk hc hcell fin) hd
  ·exact wpAny_Name (wpAny_loadName_free I.ok.kind hk hc hcell fin hcd) hd
theorem Zqa {i j pos}:PE X (.Constant (.int i) j pos) (tC (.int i)):=fun _ _ _ H _ I h=>wpAny_Constant_int ⟨.int i,H,I.tok _,⟨_,rfl⟩,h⟩
theorem Zsg {b j pos}:PE X (.Constant (.bool b) j pos) (tC (.bl b)):=fun _ _ _ H _ I h=>Constant_bool ⟨.bl b,H,I,rfl,h⟩
theorem Zqz {j pos}:PE X (.Constant .none j pos) (tC .non):=fun _ _ _ H _ I h=>Constant_none ⟨.non,H,I,rfl,h⟩
theorem Zqh {x j pos}:PE X (.Constant (.str x) j pos) (tC (.str x)):=fun _ _ _ H _ I h=>Calls.Constant_str ⟨.str x,H,I.tok _,⟨_,rfl⟩,h⟩
def Gl (X:Cx) (x:Str):Prop:=X.env.kindOf x=some .globalImplicit
theorem ZkW {E:Value→Shared→Prop} {pins:List (Addr×Obj)} {s:Shared} {σ:St} {H:Hp} {x:Str} {u:Value} {pos:Pos} {Q:Value→Shared→Prop} (I:Inv X pins σ H s) (hg:Gl X x) (hm:X.mg x=some u) (h:Q u s)
  (hd:(x==("__debug__":Str))=false:=by decide):wpAny (model X.prog X.w) X.A (eval (.Name x pos) X.env) Q E s :=
 Calls.Name_function_global I.ok.kind hg (Calls.loadGlobal_global (by rw [I.ok.glob];exact I.mod.glob.keeps I.bk) hm h) hd
theorem ZdT {E:Value→Shared→Prop} {pins:List (Addr×Obj)} {s:Shared} {σ:St} {H:Hp} {x:Str} {u:Value} {pos:Pos} {Q:Value→Shared→Prop} (I:Inv X pins σ H s) (hg:Gl X x) (hm:X.mg x=none) (hv:bootBuiltins x=some u) (h:Q u s)
  (hn:x≠"__name__":=by decide) (hd:(x==("__debug__":Str))=false:=by decide):wpAny (model X.prog X.w) X.A (eval (.Name x pos) X.env) Q E s:=by
 obtain ⟨mb,h1,h2⟩:=I.mod.blt
 exact Calls.Name_function_global I.ok.kind hg (Calls.loadGlobal_builtin (by rw [I.ok.glob];exact I.mod.glob.keeps I.bk) hm (by rw [I.ok.blt];exact h1.keeps I.bk) ((h2 x hn).trans hv) h) hd
theorem Zoq {x:Str} {v:V} {u:Value} {pos:Pos} (hg:Gl X x) (hm:X.mg x=some u) (r:RelV v u) (hd:(x==("__debug__":Str))=false:=by decide):PE X (.Name x pos) (tC v) :=
 fun _ _ _ H _ I h=>ZkW I hg hm ⟨v,H,I,r,h⟩ hd
theorem Zok {x:Str} {v:V} {u:Value} {pos:Pos} (hg:Gl X x) (hm:X.mg x=none) (hv:bootBuiltins x=some u) (r:RelV v u) (hn:x≠"__name__":=by decide) (hd:(x==("__debug__":Str))=false:=by decide):PE X (.Name x pos) (tC v) :=
 fun _ _ _ H _ I h=>ZdT I hg hm hv ⟨v,H,I,r,h⟩ hn hd
variable {a b:Expr} {ta tb:TE} {pos:Pos}
def PC (X:Cx) (op:CmpOp) (a b:Expr) (t:TE):Prop :=
 ∀ (pins:List (Addr×Obj)) (s:Shared) (σ:St) (H:Hp) (Q:VK),Inv X pins σ H s→t σ H Q →
  wpAny (model X.prog X.w) X.A (eval a X.env) (fun v s₁=>wpAny (model X.prog X.w) X.A (eval b X.env) (fun u s₂=>wpAny (model X.prog X.w) X.A (compareOp op v u) (EP X pins σ Q) X.xe s₂) X.xe s₁) X.xe s
theorem ZbP (b:Expr) {op:CmpOp} (h:op≠.In) (h2:op≠.NotIn):behindInMarks op b=false:=by
 have e1:(op==CmpOp.In)=false:=by cases op<;>first | rfl | exact absurd rfl h
 have e2:(op==CmpOp.NotIn)=false:=by cases op<;>first | rfl | exact absurd rfl h2
 cases b<;>simp [behindInMarks,e1,e2]
def Zsq (ta:TE):TE:=fun σ H Q=>ta σ H fun x H1=>Q (.bl (decide (x=.non))) H1
def Zsb (ta:TE):TE:=fun σ H Q=>ta σ H fun x H1=>Q (.bl (!decide (x=.non))) H1
theorem RelV.none_iff {x:V} {v:Value} (r:RelV x v):(v==Value.none)=decide (x=.non):=by
 cases x with
 | non=>cases r;rfl
 | bl _=>cases r;rfl
 | int _=>obtain ⟨t,rfl⟩:=r;rfl
 | str _=>obtain ⟨t,rfl⟩:=r;rfl
 | byt _=>obtain ⟨t,rfl⟩:=r;rfl
 | flt _=>obtain ⟨t,rfl⟩:=r;rfl
 | ref _=>cases r;rfl
 | ty _=>cases r;rfl
theorem ZlI {j pos'} (ha:PE X a ta):PC X .Is a (.Constant .none j pos') (Zsq ta):=by
 intro pins s σ H Q I h
 refine thn (ha pins s σ H _ I h) fun v s1 ⟨x,H1,I1,r1,q1⟩=>?_
 exact Constant_none (is_none_gen ⟨.bl _,H1,I1,by rw [r1.none_iff];rfl,q1⟩)
theorem Zn2 {j pos'} (ha:PE X a ta):PC X .IsNot a (.Constant .none j pos') (Zsb ta):=by
 intro pins s σ H Q I h
 refine thn (ha pins s σ H _ I h) fun v s1 ⟨x,H1,I1,r1,q1⟩=>?_
 exact Constant_none (isnot_none_gen ⟨.bl _,H1,I1,by rw [r1.none_iff];rfl,q1⟩)
def tB (t:TE):TT:=fun σ H Q=>t σ H fun x H1=>∃ c,x=.bl c∧Q c H1
theorem ZqW {op:CmpOp} {t:TE} (h:PC X op a b t) (h1:behindInMarks op b=false:=by first | exact ZbP _ (by decide) (by decide) | rfl):PE X (.Compare a [op] [b] pos) t:=fun pins s σ H Q I hw=>wpAny_Compare1 (h pins s σ H Q I hw) h1
theorem ZlG {op:CmpOp} {t:TE} (h:PC X op a b t) (h1:behindInMarks op b=false:=by first | exact ZbP _ (by decide) (by decide) | rfl):PT X (.Compare a [op] [b] pos) (tB t):=by
 intro pins s σ H Q I hw
 refine wpAny_isTrue_Compare1 (thn (h pins s σ H _ I hw) fun v s1 h1=>thn h1 fun u s2 h2=>thn h2 fun c s3 ⟨x,H1,I1,r1,q1⟩=>?_) h1
 obtain ⟨d,rfl,q⟩:=q1
 cases r1
 exact wpAny_truthy_bool ⟨H1,I1,q⟩
variable {tA tB':TT} {ZE:List Expr}
def Zqk (t u:TT):TT:=fun σ H Q=>t σ H fun c H1=>if c=true then u σ H1 Q else Q false H1
def tOr (t u:TT):TT:=fun σ H Q=>t σ H fun c H1=>if c=true then Q true H1 else u σ H1 Q
def ZsL (t:TT):TT:=fun σ H Q=>t σ H fun c H1=>Q (!c) H1
theorem Zo1 (ha:PT X a tA):PW X (.BoolOp .And [a] pos) tA:=by
 intro wh pins s σ H Q I h
 refine isTrue_and (thn (ha pins s σ H Q I h) fun c s1 e=>?_)
 cases c with
 | true=>exact isTrue_and_nil e
 | false=>exact e
theorem ZqQ (ha:PT X a tA):PW X (.BoolOp .Or [a] pos) tA:=by
 intro wh pins s σ H Q I h
 refine isTrue_or (thn (ha pins s σ H Q I h) fun c s1 e=>?_)
 cases c with
 | false=>exact isTrue_or_nil e
 | true=>exact e
theorem ZpT (ha:PT X a tA) (hb:PW X (.BoolOp .And (b::ZE) pos) tB'):PW X (.BoolOp .And (a::b::ZE) pos) (Zqk tA tB'):=by
 intro wh pins s σ H Q I h
 refine isTrue_and (thn (ha pins s σ H _ I h) fun c s1 ⟨H1,I1,q1⟩=>?_)
 cases c with
 | true=>exact hb wh pins s1 σ H1 Q I1 q1
 | false=>exact ⟨H1,I1,q1⟩
theorem ZrN (ha:PT X a tA) (hb:PW X (.BoolOp .Or (b::ZE) pos) tB'):PW X (.BoolOp .Or (a::b::ZE) pos) (tOr tA tB'):=by
 intro wh pins s σ H Q I h
 refine isTrue_or (thn (ha pins s σ H _ I h) fun c s1 ⟨H1,I1,q1⟩=>?_)
 cases c with
 | true=>exact ⟨H1,I1,q1⟩
 | false=>exact hb wh pins s1 σ H1 Q I1 q1
theorem ZrC (ha:PT X a tA):PT X (.UnaryOp .Not a pos) (ZsL tA):=by
 intro pins s σ H Q I h
 exact isTrue_not (ha pins s σ H (fun c H1=>Q (!c) H1) I h)
def Zr2 (ta tb:TE):TE:=fun σ H Q=>ta σ H fun x H1=>∃ c,x=.bl c∧if c=true then tb σ H1 Q else Q (.bl false) H1
def Zr6 (ta:TE):TE:=fun σ H Q=>ta σ H fun x H1=>∃ c,x=.bl c∧Q (.bl (!c)) H1
theorem ZqY {op} {t:TE} (h:PE X a t):PE X (.BoolOp op [a] pos) t:=fun pins s σ H Q I hw=>BoolOp_one (h pins s σ H Q I hw)
theorem Zpv (ha:PE X a ta) (hb:PE X (.BoolOp .And (b::ZE) pos) tb):PE X (.BoolOp .And (a::b::ZE) pos) (Zr2 ta tb):=by
 intro pins s σ H Q I h
 refine BoolOp_and (thn (ha pins s σ H _ I h) fun v s1 ⟨x,H1,I1,r1,q1⟩=>?_)
 obtain ⟨c,rfl,q1⟩:=q1
 cases r1
 refine wpAny_truthy_bool ?_
 cases c with
 | true=>exact hb pins s1 σ H1 Q I1 q1
 | false=>exact ⟨.bl false,H1,I1,rfl,q1⟩
theorem Zq9 (ha:PE X a ta):PE X (.UnaryOp .Not a pos) (Zr6 ta):=by
 intro pins s σ H Q I h
 refine UnaryOp_ (thn (ha pins s σ H _ I h) fun v s1 ⟨x,H1,I1,r1,q1⟩=>?_)
 obtain ⟨c,rfl,q1⟩:=q1
 cases r1
 exact not_of (wpAny_truthy_bool ⟨.bl (!c),H1,I1,rfl,q1⟩)
def tIf (t:TT) (ta tb:TE):TE:=fun σ H Q=>t σ H fun c H1=>if c=true then ta σ H1 Q else tb σ H1 Q
theorem ZmY {c:Expr} (hc:PT X c tA) (ha:PE X a ta) (hb:PE X b tb):PE X (.IfExp c a b pos) (tIf tA ta tb):=by
 intro pins s σ H Q I h
 refine wpAny_IfExp (thn (hc pins s σ H _ I h) fun d s1 ⟨H1,I1,q1⟩=>?_)
 cases d with
 | true=>exact ha pins s1 σ H1 Q I1 q1
 | false=>exact hb pins s1 σ H1 Q I1 q1
end
end L2
namespace L2
open PySem PySem.Spec PyProof.Rows
def SqL (K:PySem.W.Frag) (H:Hp) (a:Addr) (xs:List V):Prop :=
 Rd H a (.lst xs) ∨
  ∃ (o:Obj) (its:Array Value) (n:Nat),K.lookup a=some o∧o.cls=.type "list"∧o.dict=none∧o.data=.seq its n∧its.size≤sizeLine∧Vals xs its.toList
def SqT (K:PySem.W.Frag) (H:Hp) (a:Addr) (xs:List V):Prop :=
 Rd H a (.tup xs) ∨
  ∃ (o:Obj) (its:Array Value) (n:Nat),K.lookup a=some o∧o.cls=.type "tuple"∧o.data=.seq its n∧its.size≤sizeLine∧Vals xs its.toList
def ZsZ:Value→Option V
 | .none=>some .non
 | .bool b=>some (.bl b)
 | .int i _=>some (.int i)
 | .str x _=>some (.str x)
 | .bytes b _=>some (.byt b)
 | .float b _=>some (.flt b)
 | .ref a=>some (.ref a)
 | .type n=>some (.ty n)
 | _=>none
theorem RelV.abs {x:V} {u:Value} (r:RelV x u):ZsZ u=some x:=by
 cases x with
 | non=>cases r;rfl
 | bl _=>cases r;rfl
 | int _=>obtain ⟨t,rfl⟩:=r;rfl
 | str _=>obtain ⟨t,rfl⟩:=r;rfl
 | byt _=>obtain ⟨t,rfl⟩:=r;rfl
 | flt _=>obtain ⟨t,rfl⟩:=r;rfl
 | ref _=>cases r;rfl
 | ty _=>cases r;rfl
theorem RelV.inj {x y:V} {u:Value} (r:RelV x u) (q:RelV y u):x=y:=Option.some.inj (r.abs.symm.trans q.abs)
theorem Vals.inj:∀ {xs ys:List V} {us:List Value},Vals xs us→Vals ys us→xs=ys
 | _,_,_,.nil,.nil=>rfl
 | _,_,_,.cons r t,.cons r' t'=>by rw [r.inj r',Vals.inj t t']
section
variable {X:Cx} {pins:List (Addr×Obj)} {σ:St} {H:Hp} {s:Shared} {a:Addr} {xs ys:List V}
theorem SqL.of {K:PySem.W.Frag} (h:H a=some (.lst xs)):SqL K H a xs:=.inl (.inl h)
theorem SqT.of {K:PySem.W.Frag} (h:H a=some (.tup xs)):SqT K H a xs:=.inl (.inl h)
theorem Inv.list (I:Inv X pins σ H s) (h:SqL X.K H a xs):∃ its:List Value,Vals xs its∧PlainL s.heap a its.toArray∧xs.length≤sizeLine:=by
 rcases h with h | ⟨o,its,n,hk,hc,hd,hs,hz,r⟩
 ·obtain ⟨z,its,n,r,e⟩:=h.ok I.hok
  exact ⟨its,r,⟨_,n,e,rfl,rfl,rfl⟩,z⟩
 ·refine ⟨its.toList,r,⟨o,n,I.kIn a o hk,hc,hd,by simpa using hs⟩,?_⟩
  have e:=r.length
  simp only [Array.length_toList] at e
  omega
theorem Inv.tuple (I:Inv X pins σ H s) (h:SqT X.K H a xs):∃ its:List Value,Vals xs its∧IsTup s.heap a its.toArray∧xs.length≤sizeLine:=by
 rcases h with h | ⟨o,its,n,hk,hc,hs,hz,r⟩
 ·obtain ⟨z,its,r,p⟩:=h.ok I.hok
  exact ⟨its,r,p,z⟩
 ·refine ⟨its.toList,r,⟨o,I.kIn a o hk,hc,n,by simpa using hs⟩,?_⟩
  have e:=r.length
  simp only [Array.length_toList] at e
  omega
theorem Inv.list_inj (I:Inv X pins σ H s) (h:SqL X.K H a xs) (h':SqL X.K H a ys):xs=ys:=by
 obtain ⟨its,r,⟨o,n,e,_,_,d⟩,_⟩:=I.list h
 obtain ⟨its',r',⟨o',n',e',_,_,d'⟩,_⟩:=I.list h'
 rw [e] at e';cases e'
 rw [d] at d'
 injection d' with d1 _
 have:its=its':=by simpa using congrArg Array.toList d1
 subst this
 exact r.inj r'
theorem Inv.tuple_inj (I:Inv X pins σ H s) (h:SqT X.K H a xs) (h':SqT X.K H a ys):xs=ys:=by
 obtain ⟨its,r,⟨o,e,_,n,d⟩,_⟩:=I.tuple h
 obtain ⟨its',r',⟨o',e',_,n',d'⟩,_⟩:=I.tuple h'
 rw [e] at e';cases e'
 rw [d] at d'
 injection d' with d1 _
 have:its=its':=by simpa using congrArg Array.toList d1
 subst this
 exact r.inj r'
end
abbrev Cx.wish (X:Cx) (E:Value→Shared→Prop):Cx:={ X with xe:=E }
abbrev Cx.nox (X:Cx):Cx:=X.wish fun _ _=>False
theorem Cx.Ok.wish {X:Cx} (ok:X.Ok) (E:Value→Shared→Prop):(X.wish E).Ok :=
 ⟨ok.mod,ok.kind,ok.glob,ok.blt,ok.above,ok.inj,ok.has,ok.cab,ok.hd,ok.frames,ok.stk,ok.exf,ok.bs,ok.bsz,ok.noex,ok.exfs,ok.funs,ok.frf⟩
theorem Cx.Ok.unwish {X:Cx} {E:Value→Shared→Prop} (ok:(X.wish E).Ok):X.Ok :=
 ⟨ok.mod,ok.kind,ok.glob,ok.blt,ok.above,ok.inj,ok.has,ok.cab,ok.hd,ok.frames,ok.stk,ok.exf,ok.bs,ok.bsz,ok.noex,ok.exfs,ok.funs,ok.frf⟩
section
variable {X:Cx} {pins:List (Addr×Obj)} {σ:St} {H:Hp} {s:Shared} {E:Value→Shared→Prop}
theorem Inv.wish (I:Inv X pins σ H s) (E:Value→Shared→Prop):Inv (X.wish E) pins σ H s:=⟨I.ok.wish E,I.os,I.bare,I.base,I.loc,I.cell,I.free,I.freeC,I.pin,I.hok,I.len⟩
theorem Inv.unwish (I:Inv (X.wish E) pins σ H s):Inv X pins σ H s:=⟨I.ok.unwish,I.os,I.bare,I.base,I.loc,I.cell,I.free,I.freeC,I.pin,I.hok,I.len⟩
theorem SP.unwish {D:Zdy} {f:Flow} {s':Shared} (h:SP (X.wish E) pins D f s'):SP X pins D f s':=by
 cases f with
 | next=>obtain ⟨σ',H',I,q⟩:=h;exact ⟨σ',H',I.unwish,q⟩
 | brk=>obtain ⟨σ',H',I,q⟩:=h;exact ⟨σ',H',I.unwish,q⟩
 | cont=>obtain ⟨σ',H',I,q⟩:=h;exact ⟨σ',H',I.unwish,q⟩
 | ret u=>obtain ⟨v,σ',H',I,r,q⟩:=h;exact ⟨v,σ',H',I.unwish,r,q⟩
theorem PE.nox {e:Expr} {t:TE} (h:PE X.nox e t):PE X e t:=fun pins s σ H Q I hw =>
 wpAny_mono (h pins s σ H Q (I.wish _) hw) (fun _ _ ⟨v,H',I',r,q⟩=>⟨v,H',I'.unwish,r,q⟩) fun _ _ z=>False.elim z
theorem PT.nox {e:Expr} {t:TT} (h:PT X.nox e t):PT X e t:=fun pins s σ H Q I hw =>
 wpAny_mono (h pins s σ H Q (I.wish _) hw) (fun _ _ ⟨H',I',q⟩=>⟨H',I'.unwish,q⟩) fun _ _ z=>False.elim z
theorem PSs.nox {st:List Stmt} {t:TS} (h:PSs X.nox st t):PSs X st t:=fun pins s σ H D I hw =>
 wpAny_mono (h pins s σ H D (I.wish _) hw) (fun _ _ q=>q.unwish) fun _ _ z=>False.elim z
end
section
variable {X:Cx} {st:Stmt} {ZE:List Stmt} {t u:TS} {e:Expr} {te:TE} {pos:Pos}
def ZrM:TS:=fun D σ H=>D.nx σ H
def ZsN (t u:TS):TS:=fun D σ H=>t { D with nx:=u D } σ H
theorem pss_nil:PSs X [] ZrM:=fun _ _ σ H _ I h=>wpAny_execs_nil ⟨σ,H,I,h⟩
theorem ZmT (h1:PS X st t) (h2:PSs X ZE u):PSs X (st::ZE) (ZsN t u):=by
 intro pins s σ H D I h
 refine wpAny_execs_cons (thn (h1 pins s σ H { D with nx:=u D } I h) fun f s1 q=>?_)
 cases f with
 | next =>
  obtain ⟨σ',H',I',q⟩:=q
  exact h2 pins s1 σ' H' D I' q
 | ret v=>exact q
 | brk=>exact q
 | cont=>exact q
theorem Inv.quiet {pins:List (Addr×Obj)} {σ:St} {H:Hp} {s:Shared} (I:Inv X pins σ H s):interactive X.env=false:=by simp [interactive,I.ok.kind]
def Zse (te:TE):TS:=fun D σ H=>te σ H fun _ H1=>D.nx σ H1
theorem Zk1 (he:PE X e te) (hs:swapsWith e none pos.line X.env=pure false:=by rfl):PS X (.Expr e pos) (Zse te):=by
 intro pins s σ H D I h
 exact wpAny_Expr_any (thn (he pins s σ H _ I h) fun v s1 ⟨x,H1,I1,r1,q1⟩=>⟨σ,H1,I1,q1⟩) I.quiet hs
def ZsT (te:TE):TS:=fun D σ H=>te σ H D.rt
theorem ZhF (he:PE X e te):PS X (.Return (some e) pos) (ZsT te):=by
 intro pins s σ H D I h
 exact wpAny_Return_some (thn (he pins s σ H _ I h) fun v s1 ⟨x,H1,I1,r1,q1⟩=>⟨x,σ,H1,I1,r1,q1⟩)
def Zs0 (c:TT) (t u:TS):TS:=fun D σ H=>c σ H fun b H1=>if b=true then t D σ H1 else u D σ H1
theorem Zr9 {c:Expr} {a b:List Stmt} {tc:TT} (hc:PT X c tc) (ha:PSs X a t) (hb:PSs X b u):PS X (.If c a b pos) (Zs0 tc t u):=by
 intro pins s σ H D I h
 refine wpAny_If (thn (hc pins s σ H _ I h) fun d s1 ⟨H1,I1,q1⟩=>?_)
 cases d with
 | true=>exact ha pins s1 σ H1 D I1 q1
 | false=>exact hb pins s1 σ H1 D I1 q1
end
abbrev TG:=V→St→Hp→(St→Hp→Prop)→Prop
abbrev TGs:=List V→St→Hp→(St→Hp→Prop)→Prop
def PG (X:Cx) (target:Expr) (t:TG):Prop :=
 ∀ (pins:List (Addr×Obj)) (s:Shared) (σ:St) (H:Hp) (v:V) (u:Value) (Q:St→Hp→Prop),Inv X pins σ H s→RelV v u→t v σ H Q →
  wpAny (model X.prog X.w) X.A (assign target X.env u) (fun _ s'=>∃ σ' H',Inv X pins σ' H' s'∧Q σ' H') X.xe s
def PGs (X:Cx) (ts:List Expr) (t:TGs):Prop :=
 ∀ (pins:List (Addr×Obj)) (s:Shared) (σ:St) (H:Hp) (vs:List V) (us:List Value) (Q:St→Hp→Prop),Inv X pins σ H s→Vals vs us→t vs σ H Q →
  wpAny (model X.prog X.w) X.A (assignInOrder ((assignEach ts X.env).map (·.2)) us) (fun _ s'=>∃ σ' H',Inv X pins σ' H' s'∧Q σ' H') X.xe s
abbrev Zln:=V→V→V→Hp→(Hp→Prop)→Prop
def Zqf (X:Cx) (t:Zln):Prop :=
 ∀ (pins:List (Addr×Obj)) (s:Shared) (σ:St) (H:Hp) (o i v:V) (ov iv u:Value) (Q:Hp→Prop),Inv X pins σ H s→RelV o ov→RelV i iv→RelV v u→t o i v H Q →
  wpAny (model X.prog X.w) X.A (setItem ov iv u) (fun _ s'=>∃ H',Inv X pins σ H' s'∧Q H') X.xe s
section
variable {X:Cx} {pos:Pos}
def Ze0 (i:Nat):TG:=fun v σ H Q=>Q (σ.set i (some v)) H
theorem Zo7 {i:Nat} {x:Str} (hN:X.N.Nodup) (hi:X.N[i]?=some x) (hx:Loc X.env.scope x) (hf:X.fn x=true∨X.env.scope.names.lookup x=some .local:=by first | exact .inl rfl | exact .inr rfl | assumption):PG X (.Name x pos) (Ze0 i):=by
 intro pins s σ H v u Q I r h
 exact wpAny_assign_Name (Zi9 I hN hi hx r (fun s' I'=>⟨_,H,I',h⟩) hf)
def ZsP:TGs:=fun vs σ H Q=>vs=[]∧Q σ H
def Zsa (t:TG) (u:TGs):TGs:=fun vs σ H Q=>∃ v r,vs=v::r∧t v σ H fun σ' H'=>u r σ' H' Q
theorem Zoi:PGs X [] ZsP:=by
 intro pins s σ H vs us Q I r h
 obtain ⟨e,h⟩:=h
 subst e
 cases r
 exact assignInOrder_nil ⟨σ,H,I,h⟩
theorem Zno {e:Expr} {es:List Expr} {t:TG} {u:TGs} (h1:PG X e t) (h2:PGs X es u)
  (hs:(assignEach (e::es) X.env).map (·.2)=assign e X.env::(assignEach es X.env).map (·.2):=by rfl):PGs X (e::es) (Zsa t u):=by
 intro pins s σ H vs us Q I r h
 obtain ⟨v,vr,e1,h⟩:=h
 subst e1
 cases r with
 | cons r rr =>
  rw [hs]
  refine assignInOrder_cons (thn (h1 pins s σ H _ _ _ I r h) fun _ s1 ⟨σ1,H1,I1,q1⟩=>?_)
  exact h2 pins s1 σ1 H1 _ _ Q I1 rr q1
def ZsF (K:PySem.W.Frag) (n:Nat) (t:TGs):TG:=fun v σ H Q=>∃ a xs,v=.ref a∧SqT K H a xs∧xs.length=n∧t xs σ H Q
theorem Zrn {es:List Expr} {k:Nat} {t:TGs} {n:Nat} (hc:X.calm=true) (h:PGs X es t)
  (hn:(assignEach es X.env).length=n:=by rfl) (hst:(assignEach es X.env).findIdx? (·.1)=none:=by rfl):PG X (.Tuple es k pos) (ZsF X.K n t):=by
 intro pins s σ H v u Q I r hw
 obtain ⟨a,xs,e1,hq,hl,hw⟩:=hw
 subst e1
 cases r
 obtain ⟨its,rv,ht,hz⟩:=I.tuple hq
 refine assign_Tuple_tuple (I.ok.hd hc) ht (by simp [hn,← hl,rv.length]) hst fun h' hx=>?_
 have I1:Inv X pins σ H { s with heap:=h' }:=I.kept (t':=s.toks) fun b o e=>hx b o (Nat.ne_of_lt (Heap.lt_size e)) e
 exact h pins _ σ H xs _ Q I1 (by simpa using rv) hw
def ZsQ (to ti:TE) (t:Zln):TG:=fun v σ H Q=>to σ H fun o H1=>ti σ H1 fun i H2=>t o i v H2 fun H3=>Q σ H3
theorem ZpV {o i:Expr} {to ti:TE} {t:Zln} (ho:PE X o to) (hi:PE X i ti) (hs:Zqf X t)
  (ha:∀ v,assign (.Subscript o i pos) X.env v=(do
   let ov ← holding [v] (eval o X.env)
   let iv ← holding [v,ov] (eval i X.env)
   standAt pos
   holding [v,ov,iv] (setItem ov iv v)
   release [v,ov,iv] []):=by intro _;rfl):PG X (.Subscript o i pos) (ZsQ to ti t):=by
 intro pins s σ H v u Q I r h
 rw [ha]
 refine wpAny_bind (wpAny_holding (thn (ho pins s σ H _ I h) fun ov s1 ⟨x,H1,I1,r1,q1⟩=>?_))
 refine wpAny_bind (wpAny_holding (thn (hi pins s1 σ H1 _ I1 q1) fun iv s2 ⟨y,H2,I2,r2,q2⟩=>?_))
 refine wpAny_bind (wpAny_standAt (wpAny_bind (wpAny_holding (thn (hs pins s2 σ H2 x y v ov iv u _ I2 r1 r2 r q2) fun _ s3 ⟨H3,I3,q3⟩=>?_))))
 exact wpAny_release ⟨σ,H3,I3,q3⟩
def Zh8 (te:TE) (g:TG):TS:=fun D σ H=>te σ H fun x H1=>g x σ H1 D.nx
theorem Zqg {tg e:Expr} {te:TE} {g:TG} (he:PE X e te) (hg:PG X tg g) (hs:swapsWithSole [tg] e pos.line X.env=pure false:=by rfl) (hw:swappedStores [tg] e X.env=pure none:=by rfl)
  (h1:(assignEach [tg] X.env).map (·.2)=[assign tg X.env]:=by rfl):PS X (.Assign [tg] e pos) (Zh8 te g):=by
 intro pins s σ H D I h
 refine wpAny_Assign_stores (thn (he pins s σ H _ I h) fun v s1 ⟨x,H1,I1,r1,q1⟩=>?_) hs hw
 rw [h1]
 exact thn (hg pins s1 σ H1 x v _ I1 r1 q1) fun _ s2 q=>q
theorem ZhE {i:Nat} {x:Str} {e:Expr} {te:TE} {pos':Pos} (hN:X.N.Nodup) (hi:X.N[i]?=some x) (hx:Loc X.env.scope x) (he:PE X e te) (hs:swapsWith e (some (.Name x pos')) pos.line X.env=pure false:=by rfl) (hf:X.fn x=true∨X.env.scope.names.lookup x=some .local:=by first | exact .inl rfl | exact .inr rfl | assumption) :
  PS X (.Assign [.Name x pos'] e pos) (Zh8 te (Ze0 i)):=by
 intro pins s σ H D I h
 refine wpAny_Assign_Name (thn (he pins s σ H _ I h) fun v s1 ⟨y,H1,I1,r1,q1⟩=>?_) hs
 exact Zi9 I1 hN hi hx r1 (fun s2 I2=>⟨_,H1,I2,q1⟩) hf
end
section
variable {X:Cx} {pos:Pos}
end
structure It where
 go:Nat→Hp→Prop
 yld:Nat→Hp→V→Hp→Prop
 stop:Nat→Hp→Prop
def ZcI (X:Cx) (pins:List (Addr×Obj)) (H:Hp) (b:Addr):Prop :=
 H b=none∧b≠X.env.locals∧b∉X.fs∧(b∈X.ex∨X.s₀.heap.objs.size≤b)∧(∀ x c,X.env.cells.lookup x=some c→c≠b)∧∀ p∈X.pn++pins,p.1≠b
theorem Inv.fpOk {X:Cx} {pins:List (Addr×Obj)} {σ:St} {H H':Hp} {s:Shared} {b:Addr} (I:Inv X pins σ H s) (hb:s.heap.objs.size≤b) (hn:H' b=none):ZcI X pins H' b:=by
 refine ⟨hn,Nat.ne_of_gt (Nat.lt_of_lt_of_le I.lt hb),I.nofs hb,.inr (Nat.le_trans I.sz hb),fun x c e z=>?_,fun p hp z=>?_⟩
 ·obtain ⟨v,q⟩:=I.cell x c e
  exact absurd (Nat.lt_of_lt_of_le q.lt (by rw [z];exact hb)) (Nat.lt_irrefl _)
 ·exact absurd (Nat.lt_of_lt_of_le (Heap.lt_size (I.pin p hp).1) (by rw [z];exact hb)) (Nat.lt_irrefl _)
structure Zgp (P:Program) (w:World) (K:PySem.W.Frag) (tg:Expr) (J:It) (fp:List Addr) (it:Addr) (tn:Nat→Heap→Prop):Prop where
 mem:it∈fp
 obj:∀ i h,tn i h→∀ b∈fp,∃ o,h.get? b=some o∧∀ v,o.data≠.cell v
 keep:∀ i h h',tn i h→(∀ b∈fp,∀ o,h.get? b=some o→h'.get? b=some o)→tn i h'
 item:∀ (X:Cx),X.prog=P→X.w=w→X.K=K→X.calm=true→∀ (i:Nat) (pins:List (Addr×Obj)) (s:Shared) (σ:St) (H:Hp) (E:Value→Shared→Prop),Inv X pins σ H s→(∀ b∈fp,ZcI X pins H b)→tn i s.heap→J.go i H →
  wpAny (model P w) X.A (pyNext (.ref it)) (fun r s1=>∃ u,r=some u ∧
   wpAny (model P w) X.A (letOwnedTupleGo tg (.ref it) u) (fun _ s2=>∃ x H',Inv X pins σ H' s2∧RelV x u∧J.yld i H x H'∧tn (i+1) s2.heap∧∀ b∈fp,H' b=none) E s1) E s
 done:∀ (X:Cx),X.prog=P→X.w=w→X.K=K→X.calm=true→∀ (i:Nat) (pins:List (Addr×Obj)) (s:Shared) (σ:St) (H:Hp) (E:Value→Shared→Prop),Inv X pins σ H s→(∀ b∈fp,ZcI X pins H b)→tn i s.heap→J.stop i H →
  wpAny (model P w) X.A (pyNext (.ref it)) (fun r s1=>r=none∧Inv X pins σ H s1) E s
 self:∀ (A:Around) (i:Nat) (s:Shared) (Q:Value→Shared→Prop) (E:Value→Shared→Prop),tn i s.heap→Q (.ref it) s→wpAny (model P w) A (pyIter (.ref it)) Q E s
abbrev TI:=St→Hp→(It→Hp→Prop)→Prop
def PIE (X:Cx) (pins:List (Addr×Obj)) (σ:St) (tg:Expr) (R:It→Hp→Prop) (itv:Value) (s2:Shared):Prop :=
 ∃ (it:Addr) (fp:List Addr) (tn:Nat→Heap→Prop) (J:It) (H':Hp),itv=.ref it∧Inv X pins σ H' s2∧Zgp X.prog X.w X.K tg J fp it tn∧tn 0 s2.heap∧(∀ b∈fp,ZcI X pins H' b)∧R J H'
def PI (X:Cx) (tg iter:Expr) (wi:TI):Prop :=
 ∀ (pins:List (Addr×Obj)) (s:Shared) (σ:St) (H:Hp) (R:It→Hp→Prop),Inv X pins σ H s→wi σ H R →
  wpAny (model X.prog X.w) X.A (eval iter X.env) (fun v s1=>wpAny (model X.prog X.w) X.A (pyIter v) (PIE X pins σ tg R) X.xe s1) X.xe s
theorem Zhr {M:Model} {A:Around} {E:Value→Shared→Prop} {s:Shared} {tg:Expr} {it:Addr} {u:Value} {o:Obj} {n:String} {vs:Array Value} {Q:Unit→Shared→Prop} (ho:s.heap.get? it=some o) (hc:o.cls=.type n) (hd:o.data=.fields vs)
  (hn:["enumerate","zip","dict_itemiterator","dict_reverseitemiterator","odict_iterator","itertools.zip_longest","itertools.pairwise"].contains n=false) (hQ:Q () s):wpAny M A (letOwnedTupleGo tg (.ref it) u) Q E s:=by
 unfold letOwnedTupleGo
 cases tg<;>first
  | exact wpAny_pure hQ
  | (cases u<;>first
    | exact wpAny_pure hQ
    | (refine wpAny_bind (wpAny_load ho ?_)
       rw [hc,hd]
       show wpAny M A (if (["enumerate","zip","dict_itemiterator","dict_reverseitemiterator","odict_iterator","itertools.zip_longest","itertools.pairwise"].contains n&&vs[0]?==some (rawInt _))=true then _ else _) Q E s
       rw [if_neg (by intro h;rw [hn,Bool.false_and] at h;cases h)]
       exact wpAny_pure hQ))
def Itl (K:PySem.W.Frag) (a:Addr):It :=
 ⟨fun i H=>∃ xs x,SqL K H a xs∧xs[i]?=some x,fun i H x H'=>H'=H∧∀ xs,SqL K H a xs→xs[i]?=some x,fun i H=>∃ xs,SqL K H a xs∧xs.length≤i⟩
def Itt (K:PySem.W.Frag) (a:Addr):It :=
 ⟨fun i H=>∃ xs x,SqT K H a xs∧xs[i]?=some x,fun i H x H'=>H'=H∧∀ xs,SqT K H a xs→xs[i]?=some x,fun i H=>∃ xs,SqT K H a xs∧xs.length≤i⟩
def Itr (lo:Int) (n:Nat):It:=⟨fun i _=>i<n,fun i H x H'=>H'=H∧x=.int (lo+i),fun i _=>n≤i⟩
theorem Zmq {P:Program} {w:World} {K:PySem.W.Frag} {tg:Expr} (a it:Addr):Zgp P w K tg (Itl K a) [it] it (fun i h=>h.IsListIter it a i) where
 mem:=by simp
 obj:=fun i h st b hb=>by
  have e:b=it:=by simpa using hb
  subst e
  obtain ⟨o,e,c,d⟩:=st
  exact ⟨o,e,fun v z=>by rw [d] at z;cases z⟩
 keep:=fun i h h' st k=>st.at fun o e=>k it (by simp) o e
 item:=by
  intro X hP hw hK hc i pins s σ H E I hf st hg
  subst hP hw hK
  obtain ⟨xs,x,hq,hx⟩:=hg
  obtain ⟨its,rv,p,hz⟩:=I.list hq
  obtain ⟨u,hu,ru⟩:=rv.get hx
  obtain ⟨f0,f1,f2,f3,f4,f5⟩:=hf it (by simp)
  refine wpAny_pyNext_list_item st p.isList (x:=u) (by simpa using hu) fun h' st' sb=>?_
  have I1:Inv X pins σ H { s with heap:=h' }:=I.turned (t':=s.toks) (fun b o hb e=>(sb.2 b hb).trans e) f0 f1 f3 f4 f5
  obtain ⟨o,e,c,d⟩:=id st'
  exact ⟨u,rfl,Zhr (s:={ s with heap:=h' }) e c d (by decide) ⟨x,H,I1,ru,⟨rfl,fun ys hy=>by rw [I.list_inj hy hq];exact hx⟩,st',fun b hb=>(hf b hb).1⟩⟩
 done:=by
  intro X hP hw hK hc i pins s σ H E I hf st hg
  subst hP hw hK
  obtain ⟨xs,hq,hx⟩:=hg
  obtain ⟨its,rv,p,hz⟩:=I.list hq
  obtain ⟨f0,f1,f2,f3,f4,f5⟩:=hf it (by simp)
  have hl:=rv.length
  exact wpAny_pyNext_list_end (I.ok.hd hc) st p.isList (by simp;omega) fun h' eb=>⟨rfl,I.turned (t':=s.toks) (fun b o hb e=>eb b o hb e) f0 f1 f3 f4 f5⟩
 self:=fun _ _ _ _ _ st h=>wpAny_pyIter_listiter st h
theorem Zlq {P:Program} {w:World} {K:PySem.W.Frag} {tg:Expr} (a it:Addr):Zgp P w K tg (Itt K a) [it] it (fun i h=>h.IsTupleIter it a i) where
 mem:=by simp
 obj:=fun i h st b hb=>by
  have e:b=it:=by simpa using hb
  subst e
  obtain ⟨o,e,c,d⟩:=st
  exact ⟨o,e,fun v z=>by rw [d] at z;cases z⟩
 keep:=fun i h h' st k=>st.at fun o e=>k it (by simp) o e
 item:=by
  intro X hP hw hK hc i pins s σ H E I hf st hg
  subst hP hw hK
  obtain ⟨xs,x,hq,hx⟩:=hg
  obtain ⟨its,rv,p,hz⟩:=I.tuple hq
  obtain ⟨u,hu,ru⟩:=rv.get hx
  obtain ⟨f0,f1,f2,f3,f4,f5⟩:=hf it (by simp)
  refine wpAny_pyNext_tuple_item st (show s.heap.IsTuple a its.toArray from p) (x:=u) (by simpa using hu) fun h' st' sb=>?_
  have I1:Inv X pins σ H { s with heap:=h' }:=I.turned (t':=s.toks) (fun b o hb e=>(sb.2 b hb).trans e) f0 f1 f3 f4 f5
  obtain ⟨o,e,c,d⟩:=id st'
  exact ⟨u,rfl,Zhr (s:={ s with heap:=h' }) e c d (by decide) ⟨x,H,I1,ru,⟨rfl,fun ys hy=>by rw [I.tuple_inj hy hq];exact hx⟩,st',fun b hb=>(hf b hb).1⟩⟩
 done:=by
  intro X hP hw hK hc i pins s σ H E I hf st hg
  subst hP hw hK
  obtain ⟨xs,hq,hx⟩:=hg
  obtain ⟨its,rv,p,hz⟩:=I.tuple hq
  obtain ⟨f0,f1,f2,f3,f4,f5⟩:=hf it (by simp)
  have hl:=rv.length
  exact wpAny_pyNext_tuple_end (I.ok.hd hc) st (show s.heap.IsTuple a its.toArray from p) (by simp;omega) fun h' eb=>⟨rfl,I.turned (t':=s.toks) (fun b o hb e=>eb b o hb e) f0 f1 f3 f4 f5⟩
 self:=fun _ _ _ _ _ st h=>wpAny_pyIter_tupleiter st h
theorem Zll {P:Program} {w:World} {K:PySem.W.Frag} {tg:Expr} (it:Addr) (lo:Int) (n:Nat):Zgp P w K tg (Itr lo n) [it] it (fun i h=>IsRangeIter h it (lo+(i:Nat) * 1) ((n:Int)-(i:Nat)) 1) where
 mem:=by simp
 obj:=fun i h st b hb=>by
  have e:b=it:=by simpa using hb
  subst e
  exact ⟨_,st,fun v z=>by
   have z':Data.fields _=Data.cell v:=z
   cases z'⟩
 keep:=fun i h h' st k=>k it (by simp) _ st
 item:=by
  intro X hP hw hK hc i pins s σ H E I hf st hg
  subst hP hw hK
  obtain ⟨f0,f1,f2,f3,f4,f5⟩:=hf it (by simp)
  have W:=Walks.range (prog:=X.prog) (w:=X.w) (I.ok.hd hc) it lo 1 n
  refine W.item i s _ _ hg st fun v h' tk hv st' kk=>?_
  obtain ⟨t,rfl⟩:=hv
  have I1:Inv X pins σ H { s with heap:=h',toks:=tk }:=I.turned (fun b o hb e=>kk b o (by simpa using hb) e) f0 f1 f3 f4 f5
  refine ⟨_,rfl,Zhr (s:={ s with heap:=h',toks:=tk }) (n:="range_iterator") st' rfl rfl (by decide) ⟨.int (lo+i),H,I1,⟨t,?_⟩,⟨rfl,rfl⟩,st',fun b hb=>(hf b hb).1⟩⟩
  rw [Int.mul_one]
 done:=by
  intro X hP hw hK hc i pins s σ H E I hf st hg
  subst hP hw hK
  obtain ⟨f0,f1,f2,f3,f4,f5⟩:=hf it (by simp)
  exact wpAny_pyNext_range_end (I.ok.hd hc) st (by have:n≤i:=hg;omega) fun h' eb=>⟨rfl,I.turned (t':=s.toks) (fun b o hb e=>eb b o hb e) f0 f1 f3 f4 f5⟩
 self:=fun _ _ _ _ _ st h=>wpAny_pyIter_rangeiter st h
end L2
namespace L2
open PySem PySem.Spec PyProof.Rows
section
variable {X:Cx} {tg:Expr}
def ZrT (K:PySem.W.Frag) (tl:TE):TI:=fun σ H R=>tl σ H fun x H1=>∃ a,x=.ref a∧(∃ xs,SqL K H1 a xs)∧R (Itl K a) H1
def Zsw (K:PySem.W.Frag) (tl:TE):TI:=fun σ H R=>tl σ H fun x H1=>∃ a,x=.ref a∧(∃ xs,SqT K H1 a xs)∧R (Itt K a) H1
theorem Zor {l:Expr} {tl:TE} (hl:PE X l tl):PI X tg l (ZrT X.K tl):=by
 intro pins s σ H R I h
 refine thn (hl pins s σ H _ I h) fun v s1 ⟨x,H1,I1,r1,q1⟩=>?_
 obtain ⟨a,e,⟨xs,hq⟩,q⟩:=q1
 subst e
 cases r1
 obtain ⟨its,rv,p,hz⟩:=I1.list hq
 refine wpAny_pyIter_list p.isList ?_
 refine ⟨s1.heap.objs.size,[s1.heap.objs.size],_,_,H1,rfl,I1.kept (t':=s1.toks) fun b o e=>Heap.get?_push_of_some _ e,Zmq a _,⟨_,Heap.get?_push_size _ rfl,rfl,rfl⟩,fun b hb=>?_,q⟩
 have e:b=s1.heap.objs.size:=by simpa using hb
 subst e
 exact I1.fpOk (Nat.le_refl _) (I1.hok.fresh (Nat.le_refl _))
theorem Zqj {l:Expr} {tl:TE} (hl:PE X l tl):PI X tg l (Zsw X.K tl):=by
 intro pins s σ H R I h
 refine thn (hl pins s σ H _ I h) fun v s1 ⟨x,H1,I1,r1,q1⟩=>?_
 obtain ⟨a,e,⟨xs,hq⟩,q⟩:=q1
 subst e
 cases r1
 obtain ⟨its,rv,p,hz⟩:=I1.tuple hq
 refine wpAny_pyIter_tuple (show s1.heap.IsTuple a its.toArray from p) ?_
 refine ⟨s1.heap.objs.size,[s1.heap.objs.size],_,_,H1,rfl,I1.kept (t':=s1.toks) fun b o e=>Heap.get?_push_of_some _ e,Zlq a _,⟨_,Heap.get?_push_size _ rfl,rfl,rfl⟩,fun b hb=>?_,q⟩
 have e:b=s1.heap.objs.size:=by simpa using hb
 subst e
 exact I1.fpOk (Nat.le_refl _) (I1.hok.fresh (Nat.le_refl _))
theorem Znb {pins:List (Addr×Obj)} {σ:St} {H:Hp} {s:Shared} {R:It→Hp→Prop} {E:Value→Shared→Prop} {lo hi:Int} {t u v:Tok} {tk:Nat} (I:Inv X pins σ H s) (h1 : -(2^62)≤lo) (h2:lo<2^62) (h3 : -(2^62)≤hi) (h4:hi<2^62)
  (q:R (Itr lo (hi-lo).toNat) H):wpAny (model X.prog X.w) X.A (pyIter (.ref s.heap.objs.size)) (PIE X pins σ tg R) E { s with heap:=s.heap.push { cls:=.type "range",data:=.fields #[.int lo t,.int hi u,.int 1 v] },toks:=tk }:=by
 refine wpAny_pyIter_range (IsRange.new ..) (small_one h1 h2 h3 h4) ?_
 have I1:Inv X pins σ H { s with heap:=s.heap.push { cls:=.type "range",data:=.fields #[.int lo t,.int hi u,.int 1 v] },toks:=tk }:=I.kept fun b o e=>Heap.get?_push_of_some _ e
 refine ⟨(s.heap.push { cls:=.type "range",data:=.fields #[.int lo t,.int hi u,.int 1 v] }).objs.size,[(s.heap.push { cls:=.type "range",data:=.fields #[.int lo t,.int hi u,.int 1 v] }).objs.size],_,_,H,rfl,
  I1.kept (t':=tk) fun b o e=>Heap.get?_push_of_some _ e,Zll _ lo (hi-lo).toNat,?_,fun b hb=>?_,q⟩
 ·have e1:lo+((0:Nat):Int) * 1=lo:=by simp
  have e2:(((hi-lo).toNat:Nat):Int)-((0:Nat):Int)=Builtin.Range.rangeSize lo hi 1:=by rw [rangeSize_one];split<;>omega
  show IsRangeIter _ _ (lo+((0:Nat):Int) * 1) ((((hi-lo).toNat:Nat):Int)-((0:Nat):Int)) 1
  rw [e1,e2]
  exact Heap.get?_push_size _ rfl
 ·have e:b=(s.heap.push { cls:=.type "range",data:=.fields #[.int lo t,.int hi u,.int 1 v] }).objs.size:=by simpa using hb
  subst e
  exact I1.fpOk (Nat.le_refl _) (I1.hok.fresh (Nat.le_refl _))
def Zsk (ta:TA):TI:=fun σ H R=>ta σ H fun vs H1=>∃ j:Int,vs=[.int j] ∧ -(2^62)≤j∧j<2^62∧R (Itr 0 j.toNat) H1
theorem ZlH {a:Expr} {ta:TA} {p pos:Pos} (hg:Gl X "range") (hm:X.mg "range"=none) (ha:PA X [a] ta) (hs:starEach [a] X.env=[(false,eval a X.env)]:=by rfl):PI X tg (.Call (.Name "range" p) [a] [] pos) (Zsk ta):=by
 intro pins s σ H R I h
 refine Call_ (ZdT I hg hm boot_range (PyProof.Rows.callWith_type1 (thn (ha pos pins s σ H _ I h) fun us s1 ⟨vs,H1,I1,r1,q1⟩=>?_) hs rfl))
 obtain ⟨j,e,q1,q2,q⟩:=q1
 subst e
 cases r1 with
 | cons r rr =>
  cases rr
  obtain ⟨t,rfl⟩:=r
  exact call_range_1 (Znb I1 (by omega) (by omega) q1 q2 (by simpa using q))
def ZqE (wi:TI) (g:TG) (tb:TS):TS:=fun D σ H=>wi σ H fun J H1=>∃ W:Nat→Nat→St→Hp→Prop,(∃ m,W 0 m σ H1)∧∀ i m σ H,W i m σ H →
 (J.stop i H∧D.nx σ H)∨(J.go i H∧∃ N:St→Hp→Prop,(∀ σ' H',N σ' H'→∃ m',m'<m∧W (i+1) m' σ' H')∧∀ x H',J.yld i H x H'→g x σ H' fun σ2 H2=>tb { D with nx:=N,ct:=N,bk:=D.nx } σ2 H2)
def ZdF (fp:List Addr) (h:Heap):List (Addr×Obj):=fp.filterMap fun b=>(h.get? b).map fun o=>(b,o)
theorem Zdl {fp:List Addr} {h:Heap} {b:Addr} {o:Obj} (hb:b∈fp) (e:h.get? b=some o):(b,o)∈ZdF fp h:=List.mem_filterMap.mpr ⟨b,hb,by rw [e];rfl⟩
theorem Zip {fp:List Addr} {h:Heap} {p:Addr×Obj} (hp:p∈ZdF fp h):p.1∈fp∧h.get? p.1=some p.2:=by
 obtain ⟨b,hb,e⟩:=List.mem_filterMap.mp hp
 cases q:h.get? b with
 | none=>rw [q] at e;cases e
 | some o =>
  rw [q] at e
  have e':(b,o)=p:=Option.some.inj e
  subst e'
  exact ⟨hb,q⟩
theorem Inv.pinned {pins:List (Addr×Obj)} {σ:St} {H:Hp} {s:Shared} {fp:List Addr} (I:Inv X pins σ H s) (hf:∀ b∈fp,ZcI X pins H b) (ho:∀ b∈fp,∃ o,s.heap.get? b=some o∧∀ v,o.data≠.cell v):Inv X (pins++ZdF fp s.heap) σ H s :=
 I.pins_of fun p hp=>(List.mem_append.mp hp).elim (fun z=>I.pin p (List.mem_append_right _ z)) fun z=>by
  obtain ⟨hb,e⟩:=Zip z
  obtain ⟨f0,f1,f2,_⟩:=hf p.1 hb
  obtain ⟨o,e',d⟩:=ho p.1 hb
  rw [e] at e';cases e'
  exact ⟨e,f0,f1,f2,d⟩
theorem Inv.unpinned {pins pl:List (Addr×Obj)} {σ:St} {H:Hp} {s:Shared} (I:Inv X (pins++pl) σ H s):Inv X pins σ H s:=I.pins_of fun p hp=>I.pin p (List.mem_append_right _ (List.mem_append_left _ hp))
theorem ZpR {iter:Expr} {body:List Stmt} {wi:TI} {g:TG} {tb:TS} {pos:Pos} (hp:PassesOwn (model X.prog X.w) X.A X.env X.xe) (hc:X.calm=true) (hi:PI X tg iter wi) (hg:PG X tg g) (hb:PSs X body tb)
  (hs:∀ x,foldedSetIterable iter X.env x=pure x:=by intro _;rfl):PS X (.For tg iter body [] pos) (ZqE wi g tb):=by
 intro pins s σ H D I h
 refine wpAny_For (thn (hi pins s σ H _ I h) fun v s1 h1=>thn h1 fun itv s2 h2=>?_) hs
 obtain ⟨it,fp,tn,J,H2,e,I2,T,st2,f2,W,⟨m0,w0⟩,turn⟩:=h2
 subst e
 -- what stays true of the iterator's objects through the loop
 have stat:∀ {H':Hp},(∀ b∈fp,H' b=none)→∀ b∈fp,ZcI X pins H' b:=fun hn b hb=>⟨hn b hb,(f2 b hb).2⟩
 refine codeAny_forLoop_any (fun n s'=>∃ i σ' H',Inv X pins σ' H' s'∧tn i s'.heap∧(∀ b∈fp,H' b=none)∧W i n σ' H') ?_ m0 ⟨0,σ,H2,I2,st2,fun b hb=>(f2 b hb).1,w0⟩
 rintro n s3 ⟨i,σ3,H3,I3,st3,fr3,w3⟩
 rcases turn i n σ3 H3 w3 with ⟨stop,qn⟩ | ⟨go,N,hN,step⟩
 ·refine wpAny_passesOwn hp (thn (T.done X rfl rfl rfl hc i pins s3 σ3 H3 X.xe I3 (stat fr3) st3 stop) fun r s4 ⟨hr,I4⟩=>?_)
  subst hr
  exact wpAny_execs_nil ⟨σ3,H3,I4,qn⟩
 ·refine wpAny_passesOwn hp (thn (T.item X rfl rfl rfl hc i pins s3 σ3 H3 X.xe I3 (stat fr3) st3 go) fun r s4 ⟨u,hr,h4⟩=>?_)
  subst hr
  refine wpAny_passesOwn hp (thn h4 fun _ s5 ⟨x,H5,I5,r5,y5,st5,fr5⟩=>?_)
  have I5':=I5.pinned (stat fr5) (T.obj _ _ st5)
  refine wpAny_passesOwn hp (thn (hg _ s5 σ3 H5 x u _ I5' r5 (step x H5 y5)) fun _ s6 ⟨σ6,H6,I6,q6⟩=>?_)
  refine wpAny_passesOwn hp (thn (hb _ s6 σ6 H6 _ I6 q6) fun f s7 q7=>?_)
  have again:∀ {σ7:St} {H7:Hp},Inv X (pins++ZdF fp s5.heap) σ7 H7 s7→N σ7 H7→∃ m,m<n∧∃ i σ' H',Inv X pins σ' H' s7∧tn i s7.heap∧(∀ b∈fp,H' b=none)∧W i m σ' H':=fun {σ7 H7} I7 n7=>by
   obtain ⟨m',hm,w7⟩:=hN σ7 H7 n7
   refine ⟨m',hm,i+1,σ7,H7,I7.unpinned,T.keep _ _ _ st5 fun b hb o e=>(I7.pin (b,o) (List.mem_append_right _ (List.mem_append_right _ (Zdl hb e)))).1,fun b hb=>?_,w7⟩
   obtain ⟨o,e,d⟩:=T.obj _ _ st5 b hb
   exact (I7.pin (b,o) (List.mem_append_right _ (List.mem_append_right _ (Zdl hb e)))).2.1
  cases f with
  | next=>obtain ⟨σ7,H7,I7,n7⟩:=q7;exact again I7 n7
  | cont=>obtain ⟨σ7,H7,I7,n7⟩:=q7;exact again I7 n7
  | brk=>obtain ⟨σ7,H7,I7,q7⟩:=q7;exact ⟨σ7,H7,I7.unpinned,q7⟩
  | ret v=>obtain ⟨x7,σ7,H7,I7,r7,q7⟩:=q7;exact ⟨x7,σ7,H7,I7.unpinned,r7,q7⟩
end
end L2
namespace L2
open PySem PySem.Spec PyProof.Rows
abbrev R2:=V→V→Hp→VK→Prop
def OpR (X:Cx) (f:Value→Value→Sem Value) (r:R2):Prop :=
 ∀ (pins:List (Addr×Obj)) (s:Shared) (σ:St) (H:Hp) (x y:V) (v u:Value) (Q:VK),Inv X pins σ H s→RelV x v→RelV y u→r x y H Q →
  wpAny (model X.prog X.w) X.A (f v u) (EP X pins σ Q) X.xe s
def UnR (X:Cx) (f:Value→Sem Value) (r:V→Hp→VK→Prop):Prop :=
 ∀ (pins:List (Addr×Obj)) (s:Shared) (σ:St) (H:Hp) (x:V) (v:Value) (Q:VK),Inv X pins σ H s→RelV x v→r x H Q →
  wpAny (model X.prog X.w) X.A (f v) (EP X pins σ Q) X.xe s
def CallR (X:Cx) (f:Value) (r:List V→Hp→VK→Prop):Prop :=
 ∀ (pins:List (Addr×Obj)) (s:Shared) (σ:St) (H:Hp) (xs:List V) (us:List Value) (Q:VK),Inv X pins σ H s→Vals xs us→r xs H Q →
  wpAny (model X.prog X.w) X.A (call f us) (EP X pins σ Q) X.xe s
def ZsR (X:Cx) (r:V→Hp→(Bool→Hp→Prop)→Prop):Prop :=
 ∀ (pins:List (Addr×Obj)) (s:Shared) (σ:St) (H:Hp) (x:V) (v:Value) (Q:Bool→Hp→Prop),Inv X pins σ H s→RelV x v→r x H Q →
  wpAny (model X.prog X.w) X.A (truthy v) (TP X pins σ Q) X.xe s
def tOp (r:R2) (ta tb:TE):TE:=fun σ H Q=>ta σ H fun x H1=>tb σ H1 fun y H2=>r x y H2 Q
def tUn (r:V→Hp→VK→Prop) (ta:TE):TE:=fun σ H Q=>ta σ H fun x H1=>r x H1 Q
def rI (C:Int→Int→Prop) (g:Int→Int→V):R2:=fun x y H Q=>∃ i j,x=.int i∧y=.int j∧C i j∧Q (g i j) H
def rI0 (g:Int→Int→V):R2:=fun x y H Q=>∃ i j,x=.int i∧y=.int j∧Q (g i j) H
def rU (g:Int→V):V→Hp→VK→Prop:=fun x H Q=>∃ i,x=.int i∧Q (g i) H
section
variable {X:Cx} {a b c:Expr} {ta tb tc:TE} {pos:Pos}
theorem Zm3 (ha:PE X a ta) (hb:PE X b tb) {pins:List (Addr×Obj)} {s:Shared} {σ:St} {H:Hp} {R:V→V→Hp→Prop} (I:Inv X pins σ H s)
  (h:ta σ H fun x H1=>tb σ H1 fun y H2=>R x y H2) {Q:Value→Shared→Prop} {f:Value→Value→Sem Value}
  (hf:∀ v u s2 x y H2,Inv X pins σ H2 s2→RelV x v→RelV y u→R x y H2→wpAny (model X.prog X.w) X.A (f v u) Q X.xe s2) :
  wpAny (model X.prog X.w) X.A (eval a X.env) (fun v s₁=>wpAny (model X.prog X.w) X.A (eval b X.env) (fun u s₂=>wpAny (model X.prog X.w) X.A (f v u) Q X.xe s₂) X.xe s₁) X.xe s:=by
 refine thn (ha pins s σ H _ I h) fun v s1 ⟨x,H1,I1,r1,q1⟩=>?_
 refine thn (hb pins s1 σ H1 _ I1 q1) fun u s2 ⟨y,H2,I2,r2,q2⟩=>?_
 exact hf v u s2 x y H2 I2 r1 r2 q2
theorem Zsf {op:Operator} {r:R2} (ho:OpR X (binaryOp op) r) (ha:PE X a ta) (hb:PE X b tb):PE X (.BinOp a op b pos) (tOp r ta tb):=by
 intro pins s σ H Q I h
 exact wpAny_BinOp (Zm3 ha hb I h fun v u s2 x y H2 I2 rx ry q=>ho pins s2 σ H2 x y v u Q I2 rx ry q)
theorem Zsj {op:UnaryOp} {r:V→Hp→VK→Prop} (ho:UnR X (unaryOp op) r) (ha:PE X a ta):PE X (.UnaryOp op a pos) (tUn r ta):=by
 intro pins s σ H Q I h
 exact UnaryOp_ (thn (ha pins s σ H _ I h) fun v s1 ⟨x,H1,I1,r1,q1⟩=>ho pins s1 σ H1 x v Q I1 r1 q1)
theorem opI {f:Value→Value→Sem Value} {C:Int→Int→Prop} {g:Int→Int→Int}
  (rule:∀ (i j:Int) (t u:Tok) (s:Shared) (Q:Value→Shared→Prop) (E:Value→Shared→Prop),C i j→Q (.int (g i j) s.toks) { s with toks:=s.toks+1 }→wpAny (model X.prog X.w) X.A (f (.int i t) (.int j u)) Q E s) :
  OpR X f (rI C fun i j=>.int (g i j)):=by
 intro pins s σ H x y v u Q I rx ry h
 obtain ⟨i,j,rfl,rfl,hc,q⟩:=h
 obtain ⟨t,rfl⟩:=rx
 obtain ⟨t',rfl⟩:=ry
 exact rule i j t t' s _ _ hc ⟨.int (g i j),H,I.tok _,⟨_,rfl⟩,q⟩
theorem ZpB {f:Value→Value→Sem Value} {g:Int→Int→Int}
  (rule:∀ (i j:Int) (t u:Tok) (s:Shared) (Q:Value→Shared→Prop) (E:Value→Shared→Prop),Q (.int (g i j) s.toks) { s with toks:=s.toks+1 }→wpAny (model X.prog X.w) X.A (f (.int i t) (.int j u)) Q E s) :
  OpR X f (rI0 fun i j=>.int (g i j)):=by
 intro pins s σ H x y v u Q I rx ry h
 obtain ⟨i,j,rfl,rfl,q⟩:=h
 obtain ⟨t,rfl⟩:=rx
 obtain ⟨t',rfl⟩:=ry
 exact rule i j t t' s _ _ ⟨.int (g i j),H,I.tok _,⟨_,rfl⟩,q⟩
theorem ZsX {f:Value→Value→Sem Value} {g:Int→Int→Bool}
  (rule:∀ (i j:Int) (t u:Tok) (s:Shared) (Q:Value→Shared→Prop) (E:Value→Shared→Prop),Q (.bool (g i j)) s→wpAny (model X.prog X.w) X.A (f (.int i t) (.int j u)) Q E s) :
  OpR X f (rI0 fun i j=>.bl (g i j)):=by
 intro pins s σ H x y v u Q I rx ry h
 obtain ⟨i,j,rfl,rfl,q⟩:=h
 obtain ⟨t,rfl⟩:=rx
 obtain ⟨t',rfl⟩:=ry
 exact rule i j t t' s _ _ ⟨.bl (g i j),H,I,rfl,q⟩
def ZjU (i j:Int):Prop:=0<j∧j<1073741824
def Zjl (i j:Int):Prop:=0≤j∧j≤1000000∧i.natAbs<2^64
def CMul (i j:Int):Prop:=(-(2^64)<i∧i<2^64)∨(-(2^64)<j∧j<2^64)
theorem CMul.ok {i j:Int} (h:CMul i j):IntMulOk i j:=by
 rcases h with ⟨h1,h2⟩ | ⟨h1,h2⟩
 ·exact .of_left (intBits_le_64 h1 h2)
 ·exact .of_right (intBits_le_64 h1 h2)
theorem op_add:OpR X (binaryOp .Add) (rI0 fun i j=>.int (i+j)):=ZpB fun _ _ _ _ _ _ _ q=>add_int q
theorem ZpL:OpR X (binaryOp .Sub) (rI0 fun i j=>.int (i-j)):=ZpB fun _ _ _ _ _ _ _ q=>sub_int q
theorem ZqJ:OpR X (binaryOp .Mult) (rI CMul fun i j=>.int (i * j)):=opI fun _ _ _ _ _ _ _ hc q=>mul_int q hc.ok
theorem ZoZ:OpR X (binaryOp .FloorDiv) (rI ZjU fun i j=>.int (i / j)):=opI fun i j _ _ _ _ _ hc q=>by
 have h1:(0:Int)<j:=hc.1
 have h2:j<1073741824:=hc.2
 exact floordiv_int (by omega) (by rw [Int.fdiv_eq_ediv_of_nonneg i (by omega)];exact q) (.inl (PyProof.noPylong_small (by omega)))
theorem ZqA:OpR X (binaryOp .Mod) (rI (fun _ j=>0<j) fun i j=>.int (i%j)):=opI fun i j _ _ _ _ _ hc q=>by
 have h1:(0:Int)<j:=hc
 exact mod_int' (by omega) (by rw [Int.fmod_eq_emod_of_nonneg i (by omega)];exact q)
theorem Zpz:OpR X (binaryOp .Pow) (rI Zjl fun i j=>.int (i^j.toNat)):=opI fun _ _ _ _ _ _ _ hc q=>pow_int_small hc.1 hc.2.1 hc.2.2 q
theorem unI {f:Value→Sem Value} {g:Int→Int}
  (rule:∀ (i:Int) (t:Tok) (s:Shared) (Q:Value→Shared→Prop) (E:Value→Shared→Prop),Q (.int (g i) s.toks) { s with toks:=s.toks+1 }→wpAny (model X.prog X.w) X.A (f (.int i t)) Q E s) :
  UnR X f (rU fun i=>.int (g i)):=by
 intro pins s σ H x v Q I rx h
 obtain ⟨i,rfl,q⟩:=h
 obtain ⟨t,rfl⟩:=rx
 exact rule i t s _ _ ⟨.int (g i),H,I.tok _,⟨_,rfl⟩,q⟩
theorem ZqI:UnR X (unaryOp .USub) (rU fun i=>.int (-i)):=unI fun _ _ _ _ _ q=>neg_int q
end
section
variable {X:Cx} {a b c:Expr} {ta tb tc:TE} {pos:Pos}
theorem ZlO {pins:List (Addr×Obj)} {σ:St} {H:Hp} {s:Shared} {Q:VK} {k k':Bool} (I:Inv X pins σ H s) (q:Q (.bl k) H) (e:k=k'):EP X pins σ Q (.bool k') s:=by
 subst e
 exact ⟨.bl k,H,I,rfl,q⟩
theorem ZrZ:OpR X (compareOp .Gt) (rI0 fun i j=>.bl (decide (j<i))):=ZsX fun _ _ _ _ _ _ _ q=>gt_int q
theorem Ziw:OpR X (compareOp .In) (fun x y H Q=>∃ i j,x=.str i∧y=.str j∧Q (.bl (!(Builtin.Str.occurrences j i 0 j.length 1).isEmpty)) H):=by
 intro pins s σ H x y v u Q I rx ry h
 obtain ⟨i,j,rfl,rfl,q⟩:=h
 obtain ⟨t,rfl⟩:=rx
 obtain ⟨t',rfl⟩:=ry
 exact in_str (ZlO I q rfl)
theorem ZjD:OpR X (compareOp .NotIn) (fun x y H Q=>∃ i j,x=.str i∧y=.str j∧Q (.bl (!(!(Builtin.Str.occurrences j i 0 j.length 1).isEmpty))) H):=by
 intro pins s σ H x y v u Q I rx ry h
 obtain ⟨i,j,rfl,rfl,q⟩:=h
 obtain ⟨t,rfl⟩:=rx
 obtain ⟨t',rfl⟩:=ry
 exact notIn_str (ZlO I q rfl)
theorem OpR.or {f:Value→Value→Sem Value} {r r':R2} (h:OpR X f r) (h':OpR X f r'):OpR X f (fun x y H Q=>r x y H Q∨r' x y H Q):=by
 intro pins s σ H x y v u Q I rx ry q
 rcases q with q | q
 ·exact h pins s σ H x y v u Q I rx ry q
 ·exact h' pins s σ H x y v u Q I rx ry q
theorem ZoF {op:CmpOp} {r:R2} (ho:OpR X (compareOp op) r) (ha:PE X a ta) (hb:PE X b tb) (hm:behindInMarks op b=false):PE X (.Compare a [op] [b] pos) (tOp r ta tb):=by
 intro pins s σ H Q I h
 exact wpAny_Compare1 (Zm3 ha hb I h fun v u s2 x y H2 I2 rx ry q=>ho pins s2 σ H2 x y v u Q I2 rx ry q) hm
def ZrV (t:TE):TT:=fun σ H Q=>t σ H fun x H'=>∃ k,x=.bl k∧Q k H'
theorem Zpf {op:CmpOp} {r:R2} (ho:OpR X (compareOp op) r) (ha:PE X a ta) (hb:PE X b tb) (hm:behindInMarks op b=false):PT X (.Compare a [op] [b] pos) (ZrV (tOp r ta tb)):=by
 intro pins s σ H Q I h
 refine wpAny_isTrue_Compare1 (thn (ha pins s σ H _ I h) fun v s1 ⟨x,H1,I1,r1,q1⟩=>thn (hb pins s1 σ H1 _ I1 q1) fun u s2 ⟨y,H2,I2,r2,q2⟩ =>
  thn (ho pins s2 σ H2 x y v u _ I2 r1 r2 q2) fun c s3 ⟨z,H3,I3,r3,k,e,q3⟩=>?_) hm
 subst e
 cases r3
 exact wpAny_truthy_bool ⟨H3,I3,q3⟩
def Zqo (K:PySem.W.Frag) (x:V) (H:Hp) (k:Bool):Prop :=
 match x with
 | .non=>k=false
 | .bl b=>k=b
 | .int i=>k=(i != 0)
 | .str y=>y.length≤sizeLine∧k=((y.length:Int) != 0)
 | .byt y=>y.size≤sizeLine∧k=((y.size:Int) != 0)
 | .ref p=>(∃ xs,SqL K H p xs∧k=!xs.isEmpty)∨(∃ xs,SqT K H p xs∧k=!xs.isEmpty)∨∃ kvs,H p=some (.dK kvs)∧k=!kvs.isEmpty
 | _=>False
theorem ZlB {κ:Type} {kvs:List (κ×V)} {vs:List (κ×Value)} (r:KV kvs vs):(!vs.isEmpty)=!kvs.isEmpty:=by
 cases r<;>rfl
theorem Zhx {xs:List V} {its:List Value} (r:Vals xs its):(!its.toArray.isEmpty)=!xs.isEmpty:=by
 cases r<;>simp
theorem Zf3:(sizeLine:Nat)<2^63:=by rw [sizeLine_eq];decide
theorem Zq4:ZsR X (fun x H Q=>∃ k,Zqo X.K x H k∧Q k H):=by
 intro pins s σ H x v Q I rx h
 obtain ⟨k,e,q⟩:=h
 have hl:=Zf3
 have hs:sizeLine=16777216:=sizeLine_eq
 cases x with
 | non =>
  cases rx
  have e':k=false:=e
  subst e'
  exact truthy_none ⟨H,I,q⟩
 | bl b =>
  cases rx
  have e':k=b:=e
  subst e'
  exact wpAny_truthy_bool ⟨H,I,q⟩
 | int i =>
  obtain ⟨t,rfl⟩:=rx
  have e':k=(i != 0):=e
  subst e'
  exact PySem.P.truthy_int ⟨H,I,q⟩
 | str y =>
  obtain ⟨t,rfl⟩:=rx
  obtain ⟨hy,e'⟩:y.length≤sizeLine∧k=((y.length:Int) != 0):=e
  subst e'
  exact PySem.P.truthy_str (by omega) ⟨H,I.tok _,q⟩
 | byt y =>
  obtain ⟨t,rfl⟩:=rx
  obtain ⟨hy,e'⟩:y.size≤sizeLine∧k=((y.size:Int) != 0):=e
  subst e'
  exact PySem.W.truthy_bytes (by omega) ⟨H,I.tok _,q⟩
 | ref p =>
  cases rx
  have e':(∃ xs,SqL X.K H p xs∧k=!xs.isEmpty)∨(∃ xs,SqT X.K H p xs∧k=!xs.isEmpty)∨∃ kvs,H p=some (.dK kvs)∧k=!kvs.isEmpty:=e
  rcases e' with ⟨xs,hx,e'⟩ | ⟨xs,hx,e'⟩ | ⟨kvs,hx,e'⟩
  ·subst e'
   obtain ⟨its,r,pl,hz⟩:=I.list hx
   have hlen:=r.length
   exact wpAny_truthy_list pl.isList (by simp only [List.size_toArray];omega) ⟨H,I.tok _,by rw [Zhx r];exact q⟩
  ·subst e'
   obtain ⟨its,r,pl,hz⟩:=I.tuple hx
   have hlen:=r.length
   exact truthy_tuple pl (by simp only [List.size_toArray];omega) ⟨H,I.tok _,by rw [Zhx r];exact q⟩
  ·subst e'
   obtain ⟨hz,hS,vs,r,m⟩:kvs.length≤sizeLine∧(p==sysModules)=false∧∃ vs,KV kvs vs∧s.heap.DictOf (ZhT X.prog X.w) p vs:=I.hok p _ hx
   have hlen:kvs.length=vs.length:=Paired.length r
   exact wpAny_truthy_dict hS m (by omega) ⟨H,I.tok _,by rw [ZlB r];exact q⟩
 | _=>exact (show False from e).elim
theorem Znj (ha:PE X a ta) (he:∀ whole,isTrue a X.env whole=(do let v ← whole;standAt a.pos;holding [v] (truthy v))) :
  PT X a (fun σ H Q=>ta σ H fun x H'=>∃ k,Zqo X.K x H' k∧Q k H'):=by
 intro pins s σ H Q I h
 exact isTrue_plain (thn (ha pins s σ H _ I h) fun v s1 ⟨x,H1,I1,r1,q1⟩=>Zq4 pins s1 σ H1 x v Q I1 r1 q1) (he _)
theorem op_add_str:OpR X (binaryOp .Add) (fun x y H Q=>∃ i j,x=.str i∧y=.str j∧i.length+j.length≤sizeLine∧Q (.str (i++j)) H):=by
 intro pins s σ H x y v u Q I rx ry h
 obtain ⟨i,j,rfl,rfl,hz,q⟩:=h
 obtain ⟨t,rfl⟩:=rx
 obtain ⟨t',rfl⟩:=ry
 exact add_str (fun t' tk=>⟨.str (i++j),H,I.tok _,⟨_,rfl⟩,q⟩) hz
theorem ZgN {x:V} {us:List Value} (r:Vals [x] us):∃ u,us=[u]∧RelV x u:=by
 cases r with
 | cons r1 r2=>cases r2;exact ⟨_,rfl,r1⟩
theorem vals2 {x y:V} {us:List Value} (r:Vals [x,y] us):∃ u w',us=[u,w']∧RelV x u∧RelV y w':=by
 cases r with
 | cons r1 r2 =>
  cases r2 with
  | cons r3 r4=>cases r4;exact ⟨_,_,rfl,r1,r3⟩
theorem ZmD (hc:X.calm=true):CallR X (.builtin "max") (fun xs H Q=>∃ i j,xs=[.int i,.int j]∧Q (.int (if j > i then j else i)) H):=by
 intro pins s σ H xs us Q I r h
 obtain ⟨i,j,rfl,q⟩:=h
 obtain ⟨u,w',rfl,⟨t,rfl⟩,⟨t',rfl⟩⟩:=vals2 r
 refine max_two_ints (I.ok.hd hc) fun h' tk k=>⟨_,H,I.kept k,?_,q⟩
 by_cases hj:j > i
 ·rw [if_pos hj,if_pos hj];exact ⟨_,rfl⟩
 ·rw [if_neg hj,if_neg hj];exact ⟨_,rfl⟩
theorem ZlY (hc:X.calm=true):CallR X (.builtin "min") (fun xs H Q=>∃ i j,xs=[.int i,.int j]∧Q (.int (if j<i then j else i)) H):=by
 intro pins s σ H xs us Q I r h
 obtain ⟨i,j,rfl,q⟩:=h
 obtain ⟨u,w',rfl,⟨t,rfl⟩,⟨t',rfl⟩⟩:=vals2 r
 refine min_two_ints (I.ok.hd hc) fun h' tk k=>⟨_,H,I.kept k,?_,q⟩
 by_cases hj:j<i
 ·rw [if_pos hj,if_pos hj];exact ⟨_,rfl⟩
 ·rw [if_neg hj,if_neg hj];exact ⟨_,rfl⟩
def ZqL (K:PySem.W.Frag) (x:V) (H:Hp) (n:Nat):Prop :=
 match x with
 | .str y=>y.length≤sizeLine∧n=y.length
 | .byt y=>y.size≤sizeLine∧n=y.size
 | .ref p=>(∃ xs,SqL K H p xs∧n=xs.length)∨∃ xs,SqT K H p xs∧n=xs.length
 | _=>False
theorem Zab:CallR X (.builtin "len") (fun xs H Q=>∃ x n,xs=[x]∧ZqL X.K x H n∧Q (.int n) H):=by
 intro pins s σ H xs us Q I r h
 obtain ⟨x,n,rfl,e,q⟩:=h
 obtain ⟨u,rfl,rx⟩:=ZgN r
 have hl:=Zf3
 have hs:sizeLine=16777216:=sizeLine_eq
 cases x with
 | str y =>
  obtain ⟨t,rfl⟩:=rx
  obtain ⟨hy,e'⟩:y.length≤sizeLine∧n=y.length:=e
  subst e'
  exact len_str (by omega) ⟨.int _,H,I.tok _,⟨_,rfl⟩,q⟩
 | byt y =>
  obtain ⟨t,rfl⟩:=rx
  obtain ⟨hy,e'⟩:y.size≤sizeLine∧n=y.size:=e
  subst e'
  exact PySem.W.len_bytes (by omega) ⟨.int _,H,I.tok _,⟨_,rfl⟩,q⟩
 | ref p =>
  cases rx
  have e':(∃ xs,SqL X.K H p xs∧n=xs.length)∨∃ xs,SqT X.K H p xs∧n=xs.length:=e
  rcases e' with ⟨xs,hx,e'⟩ | ⟨xs,hx,e'⟩
  ·subst e'
   obtain ⟨its,r',pl,hz⟩:=I.list hx
   have hlen:=r'.length
   exact Calls.call_len_list pl.isList (by simp only [List.size_toArray];omega) ⟨.int xs.length,H,I.tok _,⟨_,by simp only [List.size_toArray];rw [hlen]⟩,q⟩
  ·subst e'
   obtain ⟨its,r',pl,hz⟩:=I.tuple hx
   have hlen:=r'.length
   exact len_tuple pl (by simp only [List.size_toArray];omega) ⟨.int xs.length,H,I.tok _,⟨_,by simp only [List.size_toArray];rw [hlen]⟩,q⟩
 | _=>exact (show False from e).elim
end
end L2
namespace L2
open PySem PySem.Spec PyProof.Rows
section
variable {prog:Program} {w:World} {A:Around} {E:Value→Shared→Prop} {s:Shared} {K:PySem.W.Frag} {x dx C f:Addr} {mA:Str→Option Value} {name:Str} {v:Value}
end
section
variable {P:Program} {w:World} {H H':Hp} {h h':Heap} {a C dx:Addr} {fs fs':List (Str×V)}
end
structure Cls (K:PySem.W.Frag) (C:Addr):Prop where
 pg:PySem.W.plainGet K C Str.empty=true
 hd:PySem.W.hasDictIn K C=true
 po:PySem.W.plainOver K C=true
 sa:PySem.W.findIn K (.ref C) "__setattr__"=some (some (.builtin "object.__setattr__"))
theorem Cls.get {K:PySem.W.Frag} {C:Addr} (c:Cls K C) (f:Str):PySem.W.plainGet K C f=true:=c.pg
section
variable {X:Cx} {pins:List (Addr×Obj)} {σ:St} {H:Hp} {s:Shared} {a C dx:Addr} {fs:List (Str×V)} {f:Str} {v:V} {A:Around} {E:Value→Shared→Prop}
end
section
variable {X:Cx} {o e value:Expr} {f:Str} {pos pos' tpos:Pos} {ta tv:TE}
end
section
variable {X:Cx} {pins:List (Addr×Obj)} {σ:St} {H:Hp} {s:Shared} {A:Around} {E:Value→Shared→Prop} {Q:Value→Shared→Prop} {c:Value} {b:Bool}
end
end L2
namespace L2
open PySem PySem.Spec PyProof.Rows
structure Room (k:Nat) (A:Around):Prop where
 hd:A.handled=none
 dp:A.depth+3 * k+5<recursionLimit
 un:A.units+16 * k+200<cLine
theorem Room.mono {j k:Nat} {A:Around} (r:Room k A) (h:j≤k):Room j A:=⟨r.hd,by have:=r.dp;omega,by have:=r.un;omega⟩
theorem Room.deeper {k:Nat} {A:Around} (r:Room (k+1) A) (env:Env):Room k (A.deeper env) :=
 ⟨r.hd,by have:=r.dp;show A.depth+1+3 * k+5<_;omega,by have:=r.un;show A.units+3+16 * k+200<_;omega⟩
theorem Room.in1 {k:Nat} {A:Around} (r:Room (k+1) A):Room k A.in1 :=
 ⟨r.hd,by have:=r.dp;show A.depth+3 * k+5<_;omega,by have:=r.un;show A.units+1+16 * k+200<_;omega⟩
theorem Room.depth {k:Nat} {A:Around} (r:Room k A):A.depth<recursionLimit:=by have:=r.dp;omega
theorem Room.units {k:Nat} {A:Around} (r:Room k A):A.units+64<cLine:=by have:=r.un;omega
def Zq0:TA:=fun _ H Q=>Q [] H
def ZnT (ta:TE) (tr:TA):TA:=fun σ H Q=>ta σ H fun x H1=>tr σ H1 fun xs H2=>Q (x::xs) H2
section
variable {X:Cx} {e:Expr} {es:List Expr} {te:TE} {t:TA} {pos:Pos}
theorem pa_nil:PA X [] Zq0:=fun _ _ _ _ H Q I h=>Calls.spliced_nil ⟨[],H,I,.nil,h⟩
theorem ZbQ (ha:PE X e te) (hr:PA X es t) (hs:starEach (e::es) X.env=(false,eval e X.env)::starEach es X.env:=by rfl):PA X (e::es) (ZnT te t):=by
 intro pos pins s σ H Q I h
 rw [hs]
 show wpAny _ _ (spliced ((false,eval e X.env)::backTo pos (starEach es X.env))) _ _ s
 refine Calls.spliced_cons (thn (ha pins s σ H _ I h) fun u s1 ⟨x,H1,I1,r1,q1⟩=>?_)
 exact thn (hr pos pins s1 σ H1 _ I1 q1) fun us s2 ⟨xs,H2,I2,r2,q2⟩=>⟨x::xs,H2,I2,.cons r1 r2,q2⟩
def ZsO (t:TA):TE:=fun σ H Q=>t σ H fun xs H1=>xs.length≤sizeLine∧∀ p,H1 p=none→Q (.ref p) (upd H1 p (.tup xs))
def ZsH (t:TA):TE:=fun σ H Q=>t σ H fun xs H1=>xs.length≤sizeLine∧∀ p,H1 p=none→Q (.ref p) (upd H1 p (.lst xs))
theorem ZqV {x1} (h:PA X es t):PE X (.Tuple es x1 pos) (ZsO t):=by
 intro pins s σ H Q I hq
 refine wpAny_Tuple_spliced (thn (h pos pins s σ H _ I hq) fun us s1 ⟨xs,H1,I1,r,z,q⟩=>⟨by rw [← r.length];exact z,?_⟩)
 have hf:H1 s1.heap.objs.size=none:=I1.hok.fresh (Nat.le_refl _)
 refine ⟨.ref s1.heap.objs.size,upd H1 s1.heap.objs.size (.tup xs),I1.laid (t':=s1.toks) (fun b u e=>Heap.get?_push_of_some _ e) (Nat.le_refl _) ?_,rfl,q _ hf⟩
 exact ⟨z,us,r,⟨_,Heap.get?_push_size _ rfl,rfl,_,rfl⟩⟩
theorem ZqU (h:PA X es t):PE X (.List es pos) (ZsH t):=by
 intro pins s σ H Q I hq
 refine wpAny_List_spliced (thn (h pos pins s σ H _ I hq) fun us s1 ⟨xs,H1,I1,r,z,q⟩=>⟨by rw [← r.length];exact z,?_⟩)
 have hf:H1 s1.heap.objs.size=none:=I1.hok.fresh (Nat.le_refl _)
 refine ⟨.ref s1.heap.objs.size,upd H1 s1.heap.objs.size (.lst xs),I1.laid (t':=s1.toks) (fun b u e=>Heap.get?_push_of_some _ e) (Nat.le_refl _) ?_,rfl,q _ hf⟩
 exact ⟨z,us,0,r,Heap.get?_push_size _ rfl⟩
end
abbrev Sp:=List V→Hp→VK→XK→Prop
abbrev CXT:=List Env→Hp→Shared→XK→Value→Shared→Prop
structure Env0 (P:Program) (w:World) (K:PySem.W.Frag) (mg:Str→Option Value) (base:Heap) (A:Around) (outer:List Env) (s:Shared) (H:Hp):Prop where
 frames:A.frames=some outer
 mod:Mod K mg base
 bs:∀ b o,base.get? b=some o→s.heap.get? b=some o∧H b=none
 bsz:base.objs.size≤s.heap.objs.size
 funs:s.heap.FunFrames base outer
 frf:∀ b∈frs outer,H b=none
 hok:HOk P w H s.heap
 bare:AllBare s.gens
def CE (outer:List Env) (P:Program) (w:World) (H:Hp) (s:Shared) (Q:VK) (u:Value) (s':Shared):Prop :=
 ∃ v H',s'.os=s.os∧AllBare s'.gens∧Un (frs outer) [] H H' s.heap s'.heap∧HOk P w H' s'.heap∧RelV v u∧Q v H'
def CR (CX:CXT) (outer:List Env) (P:Program) (w:World) (H:Hp) (s:Shared) (Q:VK) (E:XK) (r:Result) (s':Shared):Prop :=
 match r with
 | .ok (.ret u)=>CE outer P w H s Q u s'
 | .ok _=>False
 | .error e=>CX outer H s E e s'
structure FnOk (P:Program) (w:World) (K:PySem.W.Frag) (mg:Str→Option Value) (base:Heap) (CX:CXT) (k:Nat) (f:Addr) (fd:FuncData) (ps:List Str) (sp:Sp):Prop where
 len:∀ vs H Q E,sp vs H Q E→vs.length=ps.length
 run:∀ (A:Around) (outer:List Env) (s:Shared) (H:Hp) (args:Args) (us:List Value) (vs:List V) (Q:VK) (E:XK),Room k A→Env0 P w K mg base A outer s H→BindsTo s fd args (ps.zip us)→Vals vs us→sp vs H Q E →
  codeAny (model P w) A (.call (.ref f) args) (CR CX outer P w H s Q E) s
theorem FnOk.mono {P:Program} {w:World} {K:PySem.W.Frag} {mg:Str→Option Value} {base:Heap} {CX:CXT} {j k:Nat} {f:Addr} {fd:FuncData} {ps:List Str} {sp:Sp} (F:FnOk P w K mg base CX j f fd ps sp) (h:j≤k) :
  FnOk P w K mg base CX k f fd ps sp:=⟨F.len,fun A outer s H args us vs Q E hr=>F.run A outer s H args us vs Q E (hr.mono h)⟩
theorem FnOk.imp {P:Program} {w:World} {K:PySem.W.Frag} {mg:Str→Option Value} {base:Heap} {CX:CXT} {k:Nat} {f:Addr} {fd:FuncData} {ps:List Str} {sp sp':Sp} (F:FnOk P w K mg base CX k f fd ps sp)
  (h:∀ vs H Q E,sp' vs H Q E→sp vs H Q E):FnOk P w K mg base CX k f fd ps sp' :=
 ⟨fun vs H Q E q=>F.len vs H Q E (h _ _ _ _ q),fun A outer s H args us vs Q E hr he hb hv hs=>F.run A outer s H args us vs Q E hr he hb hv (h _ _ _ _ hs)⟩
theorem Env0.in1 {P:Program} {w:World} {K:PySem.W.Frag} {mg:Str→Option Value} {base:Heap} {A:Around} {outer:List Env} {s:Shared} {H:Hp} (e:Env0 P w K mg base A outer s H) :
  Env0 P w K mg base A.in1 outer s H:=⟨e.frames,e.mod,e.bs,e.bsz,e.funs,e.frf,e.hok,e.bare⟩
section
variable {X:Cx} {pins:List (Addr×Obj)} {σ:St} {H:Hp} {s s':Shared}
theorem Inv.env0 (I:Inv X pins σ H s):Env0 X.prog X.w X.K X.mg X.base X.A X.stack s H :=
 ⟨I.ok.frames,I.ok.mod,I.bs,Nat.le_trans I.ok.bsz I.sz,I.stack,I.stkFree,I.hok,I.bare⟩
theorem Inv.after {Q:VK} {u:Value} (I:Inv X pins σ H s) (h:CE X.stack X.prog X.w H s Q u s'):EP X pins σ Q u s':=by
 obtain ⟨v,H',os,bare,un,hok,r,q⟩:=h
 obtain ⟨hh,g,d,t,os'⟩:=s'
 obtain rfl:os'=s.os:=os
 exact ⟨v,H',I.call (h':=hh) (g':=g) (d':=d) (t':=t) (ch:=[]) un hok bare (fun b z=>absurd z (by simp)),r,q⟩
end
def ZlE (sp:Sp) (dvs:List V) (E:XK) (t:TA):TE:=fun σ H Q=>t σ H fun vs H1=>sp (vs++dvs) H1 Q E
def Binds (K:PySem.W.Frag) (fd:FuncData) (ps:List Str) (ds:List Value):Prop :=
 ∀ (s:Shared) (us:List Value),K.In s.heap→(us++ds).length=ps.length→BindsTo s fd ⟨us,[]⟩ (ps.zip (us++ds))
theorem Binds.all {K:PySem.W.Frag} {fd:FuncData} {ps:List Str} (h:∀ us:List Value,us.length=ps.length→bindArgs fd ⟨us,[]⟩=pure (ps.zip us)):Binds K fd ps []:=fun s us _ hl=>by
 rw [List.append_nil] at hl ⊢
 exact .of_eq (h us hl)
def ZdK (CX:CXT) (X:Cx) (E:XK):Prop:=∀ (pins:List (Addr×Obj)) (σ:St) (H:Hp) (s:Shared) (e:Value) (s':Shared),Inv X pins σ H s→CX X.stack H s E e s'→X.xe e s'
section
variable {X:Cx} {CX:CXT} {k:Nat} {f C:Addr} {fd:FuncData} {ps:List Str} {sp:Sp} {dvs:List V} {ds:List Value} {E:XK} {x m:Str} {p pos apos:Pos} {e o:Expr} {es:List Expr} {ta:TE} {t:TA}
theorem Zru {pins:List (Addr×Obj)} {σ:St} {H:Hp} {s:Shared} {Q:VK} {us:List Value} {vs:List V} (F:FnOk X.prog X.w X.K X.mg X.base CX k f fd ps sp) (hr:Room k X.A) (hb:Binds X.K fd ps ds) (hd:Vals dvs ds) (hx:ZdK CX X E)
  (I:Inv X pins σ H s) (r:Vals vs us) (h:sp (vs++dvs) H Q E):wpAny (model X.prog X.w) X.A (call (.ref f) us) (EP X pins σ Q) X.xe s:=by
 have r2:Vals (vs++dvs) (us++ds):=r.append hd
 have hl:(us++ds).length=ps.length:=by rw [← r2.length];exact F.len _ _ _ _ h
 refine wpAny_call (codeAny_mono (F.run X.A X.stack s H ⟨us,[]⟩ (us++ds) (vs++dvs) Q E hr I.env0 (hb s us I.kIn hl) r2 h) fun r s' hq=>?_)
 cases r with
 | error e=>exact hx pins σ H s e s' I hq
 | ok fl =>
  cases fl with
  | ret u=>exact I.after hq
  | next=>exact False.elim hq
  | brk=>exact False.elim hq
  | cont=>exact False.elim hq
theorem ZkS (F:FnOk X.prog X.w X.K X.mg X.base CX k f fd ps sp) (hr:Room k X.A) (hg:Gl X x) (hm:X.mg x=some (.ref f)) (hk:PySem.W.keepIn X.K (.ref f)=true) (hb:Binds X.K fd ps ds) (hd:Vals dvs ds) (hx:ZdK CX X E)
  (ha:PA X (e::es) t) (hdb:(x==("__debug__":Str))=false:=by decide) (he:starEach (e::es) X.env=(false,eval e X.env)::starEach es X.env:=by rfl) (hpl:(backTo pos (starEach es X.env)).any (·.1)=false:=by rfl) :
  PE X (.Call (.Name x p) (e::es) [] pos) (ZlE sp dvs E t):=by
 intro pins s σ H Q I h
 refine wpAny_Call_Name_kw (ZkW I hg hm ?_ hdb)
 refine PySem.W.callWith_K (h₀:=X.base) I.ok.mod.kin hk (thn (ha pos pins s σ H _ I h) fun us s1 ⟨vs,H1,I1,r,q⟩=>⟨I1.kIn,?_⟩) he hpl
 exact Zru F hr hb hd hx I1 r q
end
def PK (X:Cx) (kws:List Keyword) (t:TA):Prop :=
 ∀ (pos:Pos) (pins:List (Addr×Obj)) (s:Shared) (σ:St) (H:Hp) (Q:List V→Hp→Prop),Inv X pins σ H s→t σ H Q→wpAny (model X.prog X.w) X.A (evalAll ((backToKw pos (keywordEach kws X.env)).map (·.2))) (AP X pins σ Q) X.xe s
section
variable {X:Cx} {CX:CXT} {k:Nat} {f C:Addr} {fd:FuncData} {ps ks:List Str} {sp:Sp} {E:XK} {x m:Str} {p pos apos kpos:Pos} {e o:Expr} {es:List Expr} {kws:List Keyword} {te ta:TE} {t tk:TA} {nm:Option Str}
theorem Zp1:PK X [] Zq0:=fun _ _ _ _ H Q I h=>wpAny_evalAll_nil ⟨[],H,I,.nil,h⟩
theorem Zof (ha:PE X e te) (hr:PK X kws t):PK X (⟨nm,e,kpos⟩::kws) (ZnT te t):=by
 intro pos pins s σ H Q I h
 show wpAny _ _ (evalAll ((do let v ← eval e X.env;standAt pos;pure v)::(backToKw pos (keywordEach kws X.env)).map (·.2))) _ _ s
 refine wpAny_evalAll_cons (wpAny_bind (thn (ha pins s σ H _ I h) fun u s1 ⟨x,H1,I1,r1,q1⟩=>wpAny_bind (wpAny_standAt (wpAny_pure ?_))))
 exact thn (hr pos pins s1 σ H1 _ I1 q1) fun us s2 ⟨xs,H2,I2,r2,q2⟩=>⟨x::xs,H2,I2,.cons r1 r2,q2⟩
variable {g:List Value→List Value→List Value} {gV:List V→List V→List V}
end
structure ZL (N P:List Str) (sc:Scope):Prop where
 kind:sc.kind=.function
 co:sc.isCoroutine=false
 gen:sc.isGenerator=false
 nd:N.Nodup
 pre:N.take P.length=P
 par:∀ x∈P,sc.names.lookup x=some .local∨sc.names.lookup x=some .cell
 nofree:∀ y∈sc.names,y.2≠.free
theorem ZiI {kindOf:Str→Option NameKind} {x:Str}:∀ {binds:List (Str×Value)} {m:Str→Option Value},(∀ v,(x,v)∉binds)→bindL kindOf binds m x=m x
 | [],_,_=>rfl
 | (n,v)::r,m,h=>by
  unfold bindL
  rw [ZiI fun w hw=>h w (List.mem_cons_of_mem _ hw)]
  split
  ·have:x≠n:=by rintro rfl;exact h v List.mem_cons_self
   simp [this]
  ·rfl
theorem Zir {kindOf:Str→Option NameKind} {x:Str}:∀ {binds:List (Str×Value)} {m:Str→Option Value},(∀ v,(x,v)∉binds)→bindC kindOf binds m x=m x
 | [],_,_=>rfl
 | (n,v)::r,m,h=>by
  unfold bindC
  rw [Zir fun w hw=>h w (List.mem_cons_of_mem _ hw)]
  split
  ·rfl
  ·have:x≠n:=by rintro rfl;exact h v List.mem_cons_self
   simp [this]
theorem Ziv {kindOf:Str→Option NameKind} {x:Str} {v:Value}:∀ {P:List Str} {vs:List Value} {i:Nat} {m:Str→Option Value},P.Nodup→P[i]?=some x→vs[i]?=some v→kindOf x=some .local →
  bindL kindOf (P.zip vs) m x=some v
 | [],_,_,_,_,h,_,_=>by simp at h
 | _::_,[],_,_,_,_,h,_=>by simp at h
 | p::P,w::vs,0,m,nd,h1,h2,hk=>by
  simp at h1 h2;subst h1;subst h2
  show bindL kindOf ((p,w)::P.zip vs) m p=_
  unfold bindL
  rw [ZiI fun v hv=>(List.nodup_cons.mp nd).1 (List.of_mem_zip hv).1,if_pos hk]
  simp
 | p::P,w::vs,i+1,m,nd,h1,h2,hk=>by
  show bindL kindOf ((p,w)::P.zip vs) m x=_
  unfold bindL
  exact Ziv (i:=i) (List.nodup_cons.mp nd).2 (by simpa using h1) (by simpa using h2) hk
theorem Zig {kindOf:Str→Option NameKind} {x:Str} {v:Value}:∀ {P:List Str} {vs:List Value} {i:Nat} {m:Str→Option Value},P.Nodup→P[i]?=some x→vs[i]?=some v→kindOf x≠some .local →
  bindC kindOf (P.zip vs) m x=some v
 | [],_,_,_,_,h,_,_=>by simp at h
 | _::_,[],_,_,_,_,h,_=>by simp at h
 | p::P,w::vs,0,m,nd,h1,h2,hk=>by
  simp at h1 h2;subst h1;subst h2
  show bindC kindOf ((p,w)::P.zip vs) m p=_
  unfold bindC
  rw [Zir fun v hv=>(List.nodup_cons.mp nd).1 (List.of_mem_zip hv).1,if_neg hk]
  simp
 | p::P,w::vs,i+1,m,nd,h1,h2,hk=>by
  show bindC kindOf ((p,w)::P.zip vs) m x=_
  unfold bindC
  exact Zig (i:=i) (List.nodup_cons.mp nd).2 (by simpa using h1) (by simpa using h2) hk
def ZcT (N:List Str) (vs:List V):St:=vs.map some++List.replicate (N.length-vs.length) none
def Zf7 (CX:CXT) (P:Program) (w:World) (K:PySem.W.Frag) (mg:Str→Option Value) (base:Heap) (N:List Str) (qual:Str) (scope:Scope) (f:Addr) (cd:Value) (A:Around) (outer:List Env) (s:Shared) (H:Hp) (E:XK):Cx where
 prog:=P
 w:=w
 K:=K
 mg:=mg
 base:=base
 A:=A.deeper (envOfC qual scope s.heap.objs.size f cd)
 N:=N
 s₀:=s
 H₀:=H
 env:=envOfC qual scope s.heap.objs.size f cd
 outer:=outer
 stack:=envOfC qual scope s.heap.objs.size f cd::outer
 ex:=[]
 calm:=true
 fn:=fun _=>true
 pn:=[]
 xe:=fun e s'=>wpAny (model P w) (A.deeper (envOfC qual scope s.heap.objs.size f cd)) (leaving (envOfC qual scope s.heap.objs.size f cd) e) (fun _ s''=>CX outer H s E e s'') (fun e' s''=>CX outer H s E e' s'') s'
theorem Zj4 {sc:Scope} {n:Nat} {x:Str} (h:sc.names.lookup x=some .cell):∃ c,(cellsFrom n sc.names []).lookup x=some c:=by
 have q:=PySem.W.cellsFrom_some sc.names n [] (.inl h)
 exact Option.isSome_iff_exists.mp q
theorem Zmn {CX:CXT} {P:Program} {w:World} {K:PySem.W.Frag} {mg:Str→Option Value} {base:Heap} {N ps:List Str} {qual:Str} {scope:Scope} {f:Addr} {cd:Value} {A:Around} {outer:List Env} {s s1:Shared} {H:Hp} {E:XK} {us:List Value} {vs:List V}
  (S:ZL N ps scope) (hd:A.handled=none) (e0:Env0 P w K mg base A outer s H) (hl:vs.length=ps.length) (r:Vals vs us)
  (x:InCallC s s.heap.objs.size (bindL (envOfC qual scope s.heap.objs.size f cd).kindOf (ps.zip us) fun _=>none) (cellsFrom (s.heap.objs.size+1) scope.names []) (bindC (envOfC qual scope s.heap.objs.size f cd).kindOf (ps.zip us) fun _=>none) s1) :
  Inv (Zf7 CX P w K mg base N qual scope f cd A outer s H E) [] (ZcT N vs) H s1:=by
 have hpl:ps.length≤N.length:=by have:=congrArg List.length S.pre;rw [List.length_take] at this;omega
 obtain ⟨h1,tk,rfl,hk⟩:=x.done
 have noA:∀ b:Addr,b∉(Zf7 CX P w K mg base N qual scope f cd A outer s H E).ex:=fun b z=>absurd (show b∈([]:List Addr) from z) (by simp)
 refine ⟨⟨e0.mod,S.kind,rfl,rfl,Nat.le_refl _,fun y z c h1 h2=>?_,fun y hy=>?_,fun y c _ h=>?_,fun _=>hd,Around.frames_deeper e0.frames,.inr ⟨rfl,rfl⟩,fun b z=>absurd z (noA b),e0.bs,e0.bsz,fun b _ _=>noA b,fun b z=>absurd z (noA b),e0.funs,e0.frf⟩,
  rfl,e0.bare,Un.kept hk,⟨_,x.toInCall.ns,fun i y v h1 h2 h3=>?_⟩,fun y c h=>⟨_,x.cell y c h⟩,e0.hok.fresh (Nat.le_refl _),fun y c h=>?_,fun p hp=>absurd (show p∈([]:List (Addr×Obj)) from hp) (by simp),e0.hok.kept hk,?_⟩
 ·exact name_of_addr x.apart (PySem.mem_of_lookup h1) (PySem.mem_of_lookup h2)
 ·have hy:scope.names.lookup y=some .cell∨scope.names.lookup y=some .free:=hy
  rcases hy with hy | hy
  ·exact Zj4 hy
  ·exact absurd rfl (S.nofree _ (PySem.mem_of_lookup hy))
 ·exact Nat.le_of_lt (x.above y c (PySem.mem_of_lookup h))
 ·have hi:i<vs.length:=by
   unfold ZcT at h2
   by_cases hi:i<vs.length
   ·exact hi
   ·rw [List.getElem?_append_right (by simpa using hi)] at h2
    rw [List.getElem?_replicate] at h2
    split at h2<;>cases h2
  have ha:vs[i]?=some v:=by
   unfold ZcT at h2
   rw [List.getElem?_append_left (by simpa using hi),List.getElem?_map] at h2
   cases e:vs[i]? with
   | none=>rw [e] at h2;cases h2
   | some a=>rw [e] at h2;cases h2;rfl
  obtain ⟨u,hu,rv⟩:=r.get ha
  have hp:ps[i]?=some y:=by
   rw [← S.pre,List.getElem?_take_of_lt (by omega)];exact h1
  have ndP:ps.Nodup:=by rw [← S.pre];exact S.nd.sublist (List.take_sublist _ _)
  refine ⟨u,rv,?_⟩
  rcases S.par y (List.mem_of_getElem? hp) with k | k
  ·exact .inl ⟨k,Ziv ndP hp hu k⟩
  ·obtain ⟨c,e⟩:=Zj4 (n:=s.heap.objs.size+1) k
   refine .inr ⟨.inl k,c,e,?_⟩
   have q:=x.cell y c e
   rw [Zig ndP hp hu (by show scope.names.lookup y≠_;rw [k];decide)] at q
   exact q
 ·exact e0.hok.fresh (Nat.le_of_lt (x.above y c (PySem.mem_of_lookup h)))
 ·unfold ZcT
  show _=N.length
  rw [List.length_append,List.length_map,List.length_replicate]
  omega
theorem Zr0 {CX:CXT} {P:Program} {w:World} {K:PySem.W.Frag} {mg:Str→Option Value} {base:Heap} {k:Nat} {f:Addr} {name qual:Str} {params:Arguments} {body:List Stmt} {scope:Scope} {dV kV doc pm cdv ct oc:Value} {an od:Option Addr}
  {osl:Array (Option Value)} {N ps:List Str} {sp:Sp} (lk:K.lookup f=some ⟨oc,od,.func (PySem.W.fnOf name qual params body scope dV kV doc pm an cdv ct),osl⟩) (hcd:PySem.W.codeIn K cdv qual=true) (S:ZL N ps scope)
  (len:∀ vs H Q E,sp vs H Q E→vs.length=ps.length)
  (hbody:∀ (A:Around) (outer:List Env) (s:Shared) (H:Hp) (vs:List V) (Q:VK) (E:XK),Room k (A.deeper (envOfC qual scope s.heap.objs.size f cdv))→sp vs H Q E →
   ∃ t,PSs (Zf7 CX P w K mg base N qual scope f cdv A outer s H E) body t∧t { nx:=fun _ H'=>Q .non H',rt:=Q } (ZcT N vs) H) :
  FnOk P w K mg base CX (k+1) f (PySem.W.fnOf name qual params body scope dV kV doc pm an cdv ct) ps sp:=by
 refine ⟨len,fun A outer s H args us vs Q E hr e0 hb r hsp=>?_⟩
 have hl:=len _ _ _ _ hsp
 have KX:K.In s.heap:=e0.mod.kin.keeps fun b o e=>(e0.bs b o e).1
 have lim:s.heap.NoLimit:=e0.mod.nolimit.keeps fun b o e=>(e0.bs b o e).1
 have hkind:∀ y∈ps.zip us,scope.names.lookup y.1=some .local∨(scope.names.lookup y.1=some .cell∧((cellsFrom (s.heap.objs.size+1) scope.names []).lookup y.1).isSome=true):=fun ⟨n,v⟩ hy=>by
  rcases S.par n (List.of_mem_zip hy).1 with q | q
  ·exact .inl q
  ·exact .inr ⟨q,PySem.W.cellsFrom_some _ _ _ (.inl q)⟩
 refine codeAny_call_function hr.depth (KX _ _ lk) rfl S.co S.gen rfl (PySem.W.codeRec_of KX hcd) (hb _ _ _ _ ?_)
 refine wpAny_newFunctionEnv_cells S.kind hkind fun env he s1 x=>?_
 subst he
 refine ⟨lim.keeps x.toInCall.keep,codeAny_func ?_⟩
 obtain ⟨t,ht,hq⟩:=hbody A outer s H vs Q E (hr.deeper _) hsp
 have I:Inv (Zf7 CX P w K mg base N qual scope f cdv A outer s H E) [] (ZcT N vs) H s1:=Zmn S hr.hd e0 hl r x
 refine wpAny_mono (ht [] s1 (ZcT N vs) H _ I hq) (fun fl s' hs=>?_) fun e s' hs=>hs
 have fin:∀ {σ':St} {H':Hp} {v:V} {u:Value},Inv (Zf7 CX P w K mg base N qual scope f cdv A outer s H E) [] σ' H' s'→RelV v u→Q v H'→CE outer P w H s Q u s' :=
  fun {σ' H' v u} J rv q=>⟨v,H',J.os,J.bare,J.base,J.hok,rv,q⟩
 cases fl with
 | ret u =>
  obtain ⟨v,σ',H',J,rv,q⟩:=hs
  exact fin J rv q
 | next =>
  obtain ⟨σ',H',J,q⟩:=hs
  exact fin (v:=V.non) (u:=Value.none) J rfl q
 | brk =>
  obtain ⟨_,_,_,q⟩:=hs
  exact False.elim q
 | cont =>
  obtain ⟨_,_,_,q⟩:=hs
  exact False.elim q
end L2
namespace L2
open PySem PySem.Spec PyProof.Rows
section
variable {X:Cx} {x:Str} {p pos:Pos} {e:Expr} {es:List Expr} {t:TA} {id T:String} {r:List V→Hp→VK→Prop}
def tCB (r:List V→Hp→VK→Prop) (t:TA):TE:=fun σ H Q=>t σ H fun vs H1=>r vs H1 Q
theorem ZmL (hc:CallR X (.builtin id) r) (hg:Gl X x) (hm:X.mg x=none) (hv:bootBuiltins x=some (.builtin id)) (ha:PA X (e::es) t) (hn:x≠"__name__":=by decide) (hdb:(x==("__debug__":Str))=false:=by decide)
  (he:starEach (e::es) X.env=(false,eval e X.env)::starEach es X.env:=by rfl) (hpl:(backTo pos (starEach es X.env)).any (·.1)=false:=by rfl):PE X (.Call (.Name x p) (e::es) [] pos) (tCB r t):=by
 intro pins s σ H Q I h
 refine wpAny_Call_Name_kw (ZdT I hg hm hv ?_ hn hdb)
 exact PyProof.Rows.callWith_builtin1 (thn (ha pos pins s σ H _ I h) fun us s1 ⟨vs,H1,I1,r1,q1⟩=>hc pins s1 σ H1 vs us Q I1 r1 q1) he hpl
theorem Zin (hc:CallR X (.type T) r) (hg:Gl X x) (hm:X.mg x=none) (hv:bootBuiltins x=some (.type T)) (ha:PA X (e::es) t) (hn:x≠"__name__":=by decide) (hdb:(x==("__debug__":Str))=false:=by decide)
  (he:starEach (e::es) X.env=(false,eval e X.env)::starEach es X.env:=by rfl) (hpl:(backTo pos (starEach es X.env)).any (·.1)=false:=by rfl):PE X (.Call (.Name x p) (e::es) [] pos) (tCB r t):=by
 intro pins s σ H Q I h
 refine wpAny_Call_Name_kw (ZdT I hg hm hv ?_ hn hdb)
 exact PyProof.Rows.callWith_type1 (thn (ha pos pins s σ H _ I h) fun us s1 ⟨vs,H1,I1,r1,q1⟩=>hc pins s1 σ H1 vs us Q I1 r1 q1) he hpl
end
end L2
namespace HT
open PySem PyProof.Rows
theorem rcLt_int (A:Around) (s:Shared) (a:Int) (t:Tok) (c:Int) (u:Tok) (prog:Program) (w:World) (E:Value→Shared→Prop) (Q:Value→Shared→Prop) (h:Q (.bool (decide (a<c))) s) :
  wpAny (model prog w) A (richCompare .Lt (.int a t) (.int c u)) Q E s :=
 (PyProof.Rows.lt_int h:wpAny (model prog w) A (compareOp .Lt (.int a t) (.int c u)) Q E s)
section
open PySem.SeqAt
open PySem.AutoSeq1 (wpAny_loadPart')
open PySem.MeetsSeq PySem.MeetsSeq2 PySem.MeetsSeq3
end
section
variable {prog:Program} {w:World} {A:Around} {E:Value→Shared→Prop} {s:Shared}
def sIx (n d:Nat):Option Int→Nat
 | none=>d
 | some v=>if v<0 then (v+(n:Int)).toNat else min v.toNat n
theorem Zrk (n d:Nat) (hd:d≤n) (o:Option Int):sIx n d o≤n:=by
 cases o with
 | none=>exact hd
 | some v =>
  show (if v<0 then (v+(n:Int)).toNat else min v.toNat n)≤n
  by_cases hv:v<0
  ·rw [if_pos hv];omega
  ·rw [if_neg hv];exact Nat.min_le_right _ _
theorem Zks (v:Int) (n d:Nat):(if v<0 then max (v+(n:Int)) 0 else min v (n:Int))=((sIx n d (some v):Nat):Int):=by
 show (if v<0 then max (v+(n:Int)) 0 else min v (n:Int))=(((if v<0 then (v+(n:Int)).toNat else min v.toNat n):Nat):Int)
 by_cases hv:v<0
 ·simp only [if_pos hv];omega
 ·simp only [if_neg hv];omega
theorem Zlc (lo hi:Option Int) (n:Nat):Builtin.Slice.sliceAdjust lo hi 1 (n:Int)=(((sIx n 0 lo:Nat):Int),((sIx n n hi:Nat):Int)):=by
 have h1:¬ ((1:Int)<0):=by omega
 unfold Builtin.Slice.sliceAdjust
 simp only [h1,if_false]
 refine Prod.ext ?_ ?_
 ·cases lo with
  | none=>rfl
  | some v=>exact Zks v n 0
 ·cases hi with
  | none=>rfl
  | some v=>exact Zks v n n
theorem Zle (i j:Nat):Builtin.Slice.slicePlaces (i:Int) (j:Int) 1=j-i:=by
 unfold Builtin.Slice.slicePlaces
 have h1:(1:Int) > 0:=by omega
 simp only [h1,if_true,Int.ediv_one]
 split<;>omega
theorem ZhA {v:Value} {o:Option Int} {Q:Option Int→Shared→Prop} (p:IsPart v o) (h:Q o s):wpAny (model prog w) A (Builtin.Slice.slicePartIndex v) Q E s:=by
 cases p with
 | none=>exact slicePart_none h
 | int i t=>exact slicePart_int h
theorem sliceApplied_gen {sl:Addr} {vl vu:Value} {lo hi:Option Int} {n:Nat} {Q:Int×Int×Nat→Shared→Prop} (hs:s.heap.IsSliceOf sl vl vu .none) (pl:IsPart vl lo) (pu:IsPart vu hi)
  (h:Q (((sIx n 0 lo:Nat):Int),1,sIx n n hi-sIx n 0 lo) s):wpAny (model prog w) A (Builtin.Slice.sliceApplied (.ref sl) (pure (n:Int))) Q E s:=by
 obtain ⟨os,hos,hcs,hds⟩:=id hs
 unfold Builtin.Slice.sliceApplied Builtin.Slice.sliceFields
 refine wpAny_bind (wpAny_bind (wpAny_field hos hds (x:=vl) rfl (wpAny_bind (wpAny_field hos hds (x:=vu) rfl (wpAny_bind (wpAny_field hos hds (x:=.none) rfl (wpAny_pure ?_)))))))
 refine wpAny_bind (slicePart_none ?_)
 show wpAny _ _ (if ((1:Int)==0)=true then _ else _) _ _ s
 rw [if_neg (by decide)]
 refine wpAny_bind (ZhA pl (wpAny_bind (ZhA pu (wpAny_bind (wpAny_pure ?_)))))
 show wpAny _ _ (match Builtin.Slice.sliceAdjust lo hi 1 (n:Int) with | (lo,hi)=>pure (lo,(1:Int),Builtin.Slice.slicePlaces lo hi 1)) _ _ s
 rw [Zlc lo hi n]
 show wpAny _ _ (pure (((sIx n 0 lo:Nat):Int),(1:Int),Builtin.Slice.slicePlaces ((sIx n 0 lo:Nat):Int) ((sIx n n hi:Nat):Int) 1)) _ _ s
 rw [Zle]
 exact wpAny_pure h
theorem ZmR (xs:Array Value) (i k:Nat):((List.range k).filterMap fun (m:Nat)=>xs[((i:Int)+(m:Int) * 1).toNat]?).toArray=((xs.toList.drop i).take k).toArray:=by
 have e:(fun (m:Nat)=>xs[((i:Int)+(m:Int) * 1).toNat]?)=fun m=>xs[i+m]?:=by
  funext m
  have:((i:Int)+(m:Int) * 1).toNat=i+m:=by omega
  rw [this]
 rw [e]
 have:=pick_run xs i k
 rw [List.filterMap_map] at this
 have e2:((fun x=>xs[x]?)∘fun x=>i+x)=fun m=>xs[i+m]?:=rfl
 rw [e2] at this
 rw [this]
theorem getItem_tuple_cut {t sl:Addr} {items:Array Value} {vl vu:Value} {lo hi:Option Int} {Q:Value→Shared→Prop} (ht:IsTup s.heap t items) (hs:s.heap.IsSliceOf sl vl vu .none) (pl:IsPart vl lo) (pu:IsPart vu hi)
  (hw:¬ (sIx items.size 0 lo=0∧sIx items.size items.size hi=items.size))
  (h:Q (.ref s.heap.objs.size) { s with heap:=s.heap.push { cls:=.type "tuple",data:=.seq ((items.toList.drop (sIx items.size 0 lo)).take (sIx items.size items.size hi-sIx items.size 0 lo)).toArray } })
  (hsz:items.size≤sizeLine):wpAny (model prog w) A (getItem (.ref t) (.ref sl)) Q E s:=by
 have htake:sizeOk (.seq ((items.toList.drop (sIx items.size 0 lo)).take (sIx items.size items.size hi-sIx items.size 0 lo)).toArray):=by
  show ((items.toList.drop (sIx items.size 0 lo)).take (sIx items.size items.size hi-sIx items.size 0 lo)).toArray.size≤sizeLine
  rw [List.size_toArray,List.length_take,List.length_drop,Array.length_toList]
  omega
 have hj:sIx items.size items.size hi≤items.size:=Zrk _ _ (Nat.le_refl _) hi
 obtain ⟨os,hos,hcs,hds⟩:=id hs
 have hTs:s.TypeIs (.ref sl) "slice":=⟨os,hos,hcs⟩
 unfold getItem
 try with_reducible refine wpAny_holding ?_
 first | refine wpAny_bind (wpAny_pure ?_) | skip
 refine wpAny_bind (wpAny_sequenceKey ht.typeIs (by decide) ?_)
 refine wpAny_bind (wpAny_callSpecial?_slot (name:=Str.ofString "__getitem__") ht.typeIs PyProof.Rows.slot_tuple_getitem
  (wpAny_call_entry PyProof.Rows.slot_tuple_getitem ht.typeIs entry_tuple_getitem ?_ (args_tuple_getitem _ _)))
 show wpAny _ _ (Builtin.Tuple.tupleItemsOf (.ref t) >>= _) _ _ s
 refine wpAny_bind (tupleItemsOf_ ht ?_)
 refine wpAny_bind (wpAny_typeOf hTs ?_)
 rw [if_pos (by decide)]
 refine wpAny_bind (sliceApplied_gen hs pl pu ?_)
 have hno:¬ ((((sIx items.size 0 lo:Nat):Int)==0&&(1:Int)==1&&(sIx items.size items.size hi-sIx items.size 0 lo)==items.size)=true):=by
  intro q
  rw [Bool.and_eq_true,Bool.and_eq_true] at q
  have q1:((sIx items.size 0 lo:Nat):Int)=0:=eq_of_beq q.1.1
  have q2:sIx items.size items.size hi-sIx items.size 0 lo=items.size:=eq_of_beq q.2
  exact hw ⟨by omega,by omega⟩
 show wpAny _ _ (if (((sIx items.size 0 lo:Nat):Int)==0&&(1:Int)==1&&(sIx items.size items.size hi-sIx items.size 0 lo)==items.size)=true then _ else _) _ _ s
 rw [if_neg hno,ZmR]
 first
  | exact wpAny_bind (m:=Builtin.Tuple.tupleExact _) (wpAny_newObj_type (wpAny_pure ⟨_,rfl,wpAny_pure h⟩) htake)
  | exact wpAny_bind (m:=Builtin.Tuple.tupleExact _) (wpAny_newObj_type (wpAny_bind (wpAny_pure (wpAny_pure ⟨_,rfl,wpAny_pure h⟩))) htake)
  | exact wpAny_bind (wpAny_bind (m:=Builtin.Tuple.tupleExact _) (wpAny_newObj_type (wpAny_pure (wpAny_pure ⟨_,rfl,wpAny_pure h⟩)) htake))
  | exact wpAny_bind (wpAny_bind (m:=Builtin.Tuple.tupleExact _) (wpAny_newObj_type (wpAny_pure ⟨_,rfl,wpAny_pure h⟩) htake))
end
end HT
namespace L2
open PySem PySem.Spec PyProof.Rows
abbrev TO:=St→Hp→(Option Int→Hp→Prop)→Prop
def PO (X:Cx) (e:Option Expr) (t:TO):Prop :=
 ∀ (pins:List (Addr×Obj)) (s:Shared) (σ:St) (H:Hp) (Q:Option Int→Hp→Prop),Inv X pins σ H s→t σ H Q →
  wpAny (model X.prog X.w) X.A (evalPart e X.env) (fun u s'=>∃ o H',Inv X pins σ H' s'∧IsPart u o∧Q o H') X.xe s
def Zoa:TO:=fun _ H Q=>Q none H
def ZrQ (t:TE):TO:=fun σ H Q=>t σ H fun x H1=>∃ i,x=.int i∧Q (some i) H1
section
variable {X:Cx} {e:Expr} {te:TE} {lo hi:Option Expr} {tl th:TO} {pos p2:Pos}
theorem Zn9:PO X none Zoa:=by
 intro pins s σ H Q I h
 rw [evalPart_none]
 exact wpAny_pure ⟨none,H,I,.none,h⟩
theorem Zpg (h:PE X e te):PO X (some e) (ZrQ te):=by
 intro pins s σ H Q I hw
 rw [evalPart_some]
 refine thn (h pins s σ H _ I hw) fun u s1 ⟨x,H1,I1,r1,q1⟩=>?_
 obtain ⟨i,rfl,q⟩:=q1
 obtain ⟨t,rfl⟩:=r1
 exact ⟨some i,H1,I1,.int i t,q⟩
def SlR (X:Cx) (r:V→Option Int→Option Int→Hp→VK→Prop):Prop :=
 ∀ (pins:List (Addr×Obj)) (s:Shared) (σ:St) (H:Hp) (x:V) (v vl vu:Value) (lo hi:Option Int) (sl:Addr) (Q:VK),Inv X pins σ H s→RelV x v→s.heap.IsSliceOf sl vl vu .none→IsPart vl lo→IsPart vu hi→r x lo hi H Q →
  ∃ T id,typeLookup (.type T) "__getitem__"=pure (some (.builtin id))∧s.TypeIs v T∧wpAny (model X.prog X.w) X.A (getItem v (.ref sl)) (EP X pins σ Q) X.xe s
theorem SlR.or {r r':V→Option Int→Option Int→Hp→VK→Prop} (h:SlR X r) (h':SlR X r'):SlR X (fun x lo hi H Q=>r x lo hi H Q∨r' x lo hi H Q):=by
 intro pins s σ H x v vl vu lo hi sl Q I rx hs pl pu q
 rcases q with q | q
 ·exact h pins s σ H x v vl vu lo hi sl Q I rx hs pl pu q
 ·exact h' pins s σ H x v vl vu lo hi sl Q I rx hs pl pu q
def tSl (r:V→Option Int→Option Int→Hp→VK→Prop) (te:TE) (tl th:TO):TE:=fun σ H Q=>te σ H fun x H1=>tl σ H1 fun l H2=>th σ H2 fun u H3=>r x l u H3 Q
theorem ZmM {r:V→Option Int→Option Int→Hp→VK→Prop} (hr:SlR X r) (he:PE X e te) (hl:PO X lo tl) (hu:PO X hi th):PE X (.Subscript e (.Slice lo hi none p2) pos) (tSl r te tl th):=by
 intro pins s σ H Q I h
 refine Subscript_ (thn (he pins s σ H _ I h) fun v s1 ⟨x,H1,I1,r1,q1⟩=>?_)
 refine wpAny_Slice (thn (hl pins s1 σ H1 _ I1 q1) fun vl s2 ⟨l,H2,I2,pl,q2⟩=>thn (hu pins s2 σ H2 _ I2 q2) fun vu s3 ⟨u,H3,I3,pu,q3⟩=>?_)
 rw [evalPart_none]
 refine wpAny_pure ?_
 have I4:Inv X pins σ H3 { s3 with heap:=s3.heap.push { cls:=.type "slice",data:=.fields #[vl,vu,.none] } }:=I3.kept (t':=s3.toks) fun b ob q=>Heap.get?_push_of_some _ q
 obtain ⟨T,id,hT,ht,hg⟩:=hr pins { s3 with heap:=s3.heap.push { cls:=.type "slice",data:=.fields #[vl,vu,.none] } } σ H3 x v vl vu l u s3.heap.objs.size Q I4 r1 (Heap.IsSliceOf.new ..) pl pu q3
 show wpAny (model X.prog X.w) X.A (subscriptTail e (.Slice lo hi none p2) v (.ref s3.heap.objs.size)) (EP X pins σ Q) X.xe { s3 with heap:=s3.heap.push { cls:=.type "slice",data:=.fields #[vl,vu,.none] } }
 exact tail_any (ops:=[.ref s3.heap.objs.size,v]) ht hT hg (by with_unfolding_all rfl)
def ZdR (xs:List V) (lo hi:Option Int):List V:=(xs.drop (HT.sIx xs.length 0 lo)).take (HT.sIx xs.length xs.length hi-HT.sIx xs.length 0 lo)
theorem Zg5 (xs:List V) (lo hi:Option Int):(ZdR xs lo hi).length≤xs.length:=by
 unfold ZdR
 rw [List.length_take,List.length_drop]
 omega
def ZsW (K:PySem.W.Frag):V→Option Int→Option Int→Hp→VK→Prop:=fun x lo hi H Q=>∃ a xs,x=.ref a∧SqT K H a xs ∧
 ¬ (HT.sIx xs.length 0 lo=0∧HT.sIx xs.length xs.length hi=xs.length)∧∀ p,H p=none→Q (.ref p) (upd H p (.tup (ZdR xs lo hi)))
theorem Zrq:SlR X (ZsW X.K):=by
 intro pins s σ H x v vl vu lo hi sl Q I rx hs pl pu h
 obtain ⟨a,xs,rfl,hx,hw,q⟩:=h
 cases rx
 obtain ⟨its,r,ht,hz⟩:=I.tuple hx
 have hlen:its.toArray.size=xs.length:=by rw [List.size_toArray];exact r.length.symm
 refine ⟨"tuple",_,PyProof.Rows.slot_tuple_getitem.lookup,ht.typeIs,?_⟩
 refine HT.getItem_tuple_cut ht hs pl pu (by rw [hlen];exact hw) ?_ (by rw [hlen];exact hz)
 rw [hlen]
 refine ⟨.ref s.heap.objs.size,_,I.laid (t':=s.toks) (o:=.tup (ZdR xs lo hi)) (fun b ob q=>Heap.get?_push_of_some _ q) (Nat.le_refl _) ?_,rfl,q _ (I.hok.fresh (Nat.le_refl _))⟩
 exact ⟨Nat.le_trans (Zg5 xs lo hi) hz,_,(r.drop (HT.sIx xs.length 0 lo)).take (HT.sIx xs.length xs.length hi-HT.sIx xs.length 0 lo),IsTup.new _ _⟩
end
end L2
namespace L2
open PySem PySem.Spec PyProof.Rows
def ixN (n:Nat) (i:Int):Option Nat:=if 0≤i then (if i<n then some i.toNat else none) else if -(n:Int)≤i then some (i+n).toNat else none
def atI {α:Type} (xs:List α) (i:Int):Option α:=(ixN xs.length i).bind fun j=>xs[j]?
theorem ZoJ {n:Nat} {i:Int} {j:Nat} (h:ixN n i=some j):seqIndex? i n=some j∧j<n ∧ -(n:Int)≤i∧i<n:=by
 unfold ixN at h
 by_cases h0:0≤i
 ·rw [if_pos h0] at h
  by_cases h1:i<n
  ·rw [if_pos h1] at h
   have e:i.toNat=j:=Option.some.inj h
   exact ⟨by rw [seqIndex_of h0 h1,e],by omega,by omega,h1⟩
  ·rw [if_neg h1] at h;cases h
 ·rw [if_neg h0] at h
  by_cases h1 : -(n:Int)≤i
  ·rw [if_pos h1] at h
   have e:(i+n).toNat=j:=Option.some.inj h
   exact ⟨by rw [seqIndex_neg (by omega) h1,e],by omega,h1,by omega⟩
  ·rw [if_neg h1] at h;cases h
theorem Zh0 {α:Type} {xs:List α} {i:Int} {v:α} (h:atI xs i=some v):∃ j,seqIndex? i xs.length=some j∧xs[j]?=some v∧j<xs.length ∧ -(xs.length:Int)≤i∧i<xs.length:=by
 unfold atI at h
 cases e:ixN xs.length i with
 | none=>rw [e] at h;cases h
 | some j =>
  rw [e] at h
  obtain ⟨h1,h2,h3,h4⟩:=ZoJ e
  exact ⟨j,h1,h,h2,h3,h4⟩
theorem Zb3 {α:Type} {xs:List α} {j:Nat} {v:α} (h:xs[j]?=some v):atI xs (j:Int)=some v:=by
 have hj:j<xs.length:=(List.getElem?_eq_some_iff.mp h).1
 have e:ixN xs.length (j:Int)=some j:=by
  unfold ixN
  rw [if_pos (by omega),if_pos (by omega)];simp
 unfold atI;rw [e];exact h
theorem Zhf {α:Type} (xs:List α) (v:α):atI (xs++[v]) (-1)=some v:=by
 have hl:(xs++[v]).length=xs.length+1:=by simp
 have e:ixN (xs++[v]).length (-1)=some xs.length:=by
  unfold ixN
  rw [hl,if_neg (by decide),if_pos (by omega)]
  congr 1
  omega
 unfold atI
 rw [e]
 show (xs++[v])[xs.length]?=some v
 simp
def Zdm (b:Expr):Prop:=∀ o i,subscripted b false o i=operate [o,i] (getItem o i)
def IxR (X:Cx) (r:R2):Prop :=
 ∀ (value slice:Expr) (pins:List (Addr×Obj)) (s:Shared) (σ:St) (H:Hp) (x y:V) (v u:Value) (Q:VK),Inv X pins σ H s→RelV x v→RelV y u→r x y H Q →
  subscripted slice false v u=operate [v,u] (getItem v u)→wpAny (model X.prog X.w) X.A (subscriptTail value slice v u) (EP X pins σ Q) X.xe s
def MtR (X:Cx) (id:String) (r:V→List V→Hp→VK→Prop):Prop :=
 ∀ (pins:List (Addr×Obj)) (s:Shared) (σ:St) (H:Hp) (x:V) (xs:List V) (v:Value) (us:List Value) (Q:VK),Inv X pins σ H s→RelV x v→Vals xs us→r x xs H Q →
  wpAny (model X.prog X.w) X.A (call (.builtin id) (v::us)) (EP X pins σ Q) X.xe s
section
variable {X:Cx} {a b:Expr} {ta tb:TE} {pos:Pos}
theorem IxR.or {r r':R2} (h:IxR X r) (h':IxR X r'):IxR X (fun x y H Q=>r x y H Q∨r' x y H Q):=by
 intro value slice pins s σ H x y v u Q I rx ry q hs
 rcases q with q | q
 ·exact h value slice pins s σ H x y v u Q I rx ry q hs
 ·exact h' value slice pins s σ H x y v u Q I rx ry q hs
theorem MtR.or {id:String} {r r':V→List V→Hp→VK→Prop} (h:MtR X id r) (h':MtR X id r'):MtR X id (fun x xs H Q=>r x xs H Q∨r' x xs H Q):=by
 intro pins s σ H x xs v us Q I rx rs q
 rcases q with q | q
 ·exact h pins s σ H x xs v us Q I rx rs q
 ·exact h' pins s σ H x xs v us Q I rx rs q
theorem Zsd {r:R2} (hr:IxR X r) (ha:PE X a ta) (hb:PE X b tb) (hs:Zdm b):PE X (.Subscript a b pos) (tOp r ta tb):=by
 intro pins s σ H Q I h
 exact Subscript_ (Zm3 ha hb I h fun v u s2 x y H2 I2 rx ry q=>hr a b pins s2 σ H2 x y v u Q I2 rx ry q (hs _ _))
def ZrA (K:PySem.W.Frag):R2:=fun x y H Q=>∃ p xs i v,x=.ref p∧y=.int i∧SqL K H p xs∧atI xs i=some v∧Q v H
def ZpF (K:PySem.W.Frag):R2:=fun x y H Q=>∃ p xs i v,x=.ref p∧y=.int i∧SqT K H p xs∧atI xs i=some v∧Q v H
def ZpD:R2:=fun x y H Q=>∃ z i c,x=.str z∧y=.int i∧z.length≤sizeLine∧atI z.cps.toList i=some c∧Q (.str ⟨#[c]⟩) H
theorem ix_list:IxR X (ZrA X.K):=by
 intro value slice pins s σ H x y v u Q I rx ry h hs
 obtain ⟨p,xs,i,z,rfl,rfl,hq,he,q⟩:=h
 cases rx
 obtain ⟨t,rfl⟩:=ry
 obtain ⟨its,r,pl,hz⟩:=I.list hq
 obtain ⟨j,h1,h2,h3,h4,h5⟩:=Zh0 he
 obtain ⟨w,ew,rw'⟩:=r.get h2
 have hl:=r.length
 have hn:=Zf3
 have fin:EP X pins σ Q w s:=⟨z,H,I,rw',q⟩
 by_cases h0:0≤i
 ·have hj:i.toNat=j:=by
   rw [seqIndex_of h0 h5] at h1
   exact Option.some.inj h1
  exact item_listR pl.isList h0 (by omega) (by rw [hj];simpa using ew) fin hs
 ·have hj:(i+(its.toArray.size:Int)).toNat=j:=by
   rw [seqIndex_neg (by omega) h4] at h1
   rw [List.size_toArray,← hl]
   exact Option.some.inj h1
  exact subscriptTail_builtinR (x:=w) pl.isList.typeIs slot_list_getitem.lookup
   (wpAny_getItem_list_neg (Q:=fun r s'=>r=w∧EP X pins σ Q r s') pl.isList (by omega) (by rw [List.size_toArray]<;>omega) (by omega) (by rw [hj];simpa using ew) ⟨rfl,fin⟩) hs
theorem ix_tup:IxR X (ZpF X.K):=by
 intro value slice pins s σ H x y v u Q I rx ry h hs
 obtain ⟨p,xs,i,z,rfl,rfl,hq,he,q⟩:=h
 cases rx
 obtain ⟨t,rfl⟩:=ry
 obtain ⟨its,r,pl,hz⟩:=I.tuple hq
 obtain ⟨j,h1,h2,h3,h4,h5⟩:=Zh0 he
 obtain ⟨w,ew,rw'⟩:=r.get h2
 have hl:=r.length
 have hn:=Zf3
 have fin:EP X pins σ Q w s:=⟨z,H,I,rw',q⟩
 exact subscriptTail_builtinR (x:=w) pl.typeIs slot_tuple_getitem.lookup
  (getItem_tuple (j:=j) (Q:=fun r s'=>r=w∧EP X pins σ Q r s') pl (by omega) (by omega) (by rw [List.size_toArray,← hl];exact h1) (by simpa using ew) ⟨rfl,fin⟩) hs
theorem ZqC:IxR X ZpD:=by
 intro value slice pins s σ H x y v u Q I rx ry h hs
 obtain ⟨z,i,c,rfl,rfl,hz,he,q⟩:=h
 obtain ⟨t,rfl⟩:=rx
 obtain ⟨t',rfl⟩:=ry
 obtain ⟨j,h1,h2,h3,h4,h5⟩:=Zh0 he
 have hl:z.cps.toList.length=z.length:=by simp [Str.length]
 rw [hl] at h1 h4 h5
 have hn:=Zf3
 exact tail_any (typeIs_str s z t) slot_str_getitem.lookup (getItem_str (c:=c) (by
  have e1:decide (i < -(2^63:Int))=false:=decide_eq_false (by omega)
  have e2:decide (i≥2^63)=false:=decide_eq_false (by omega)
  rw [e1,e2,Bool.or_false]) (by rw [h1];simpa using h2) ⟨.str ⟨#[c]⟩,H,I.tok _,⟨_,rfl⟩,q⟩) hs
def rIx (K:PySem.W.Frag):R2:=fun x y H Q=>ZrA K x y H Q∨ZpF K x y H Q∨ZpD x y H Q
theorem ZpJ:IxR X (rIx X.K):=ix_list.or (ix_tup.or ZqC)
theorem Inv.lst {pins:List (Addr×Obj)} {σ:St} {H:Hp} {s:Shared} {p:Addr} {xs:List V} (I:Inv X pins σ H s) (h:H p=some (.lst xs)) :
  ∃ (its:List Value) (n:Nat),Vals xs its∧s.heap.get? p=some { cls:=.type "list",data:=.seq its.toArray n }∧xs.length≤sizeLine:=by
 obtain ⟨z,its,n,r,e⟩:=I.hok p _ h
 exact ⟨its,n,r,e,z⟩
theorem ZjZ (lo hi:Option Int) (n:Nat):(sliceBounds lo hi none n).1=((HT.sIx n 0 lo:Nat):Int)∧(sliceBounds lo hi none n).2.1=((HT.sIx n n hi:Nat):Int)∧(sliceBounds lo hi none n).2.2=1:=by
 refine ⟨?_,?_,rfl⟩
 ·cases lo with
  | none=>simp [sliceBounds,HT.sIx]
  | some i =>
   simp only [sliceBounds,HT.sIx,Option.getD_none,show (1:Int) > 0 by decide,if_true]
   by_cases h:i<0
   ·simp only [h,if_true]<;>omega
   ·simp only [h,if_false]<;>omega
 ·cases hi with
  | none=>simp [sliceBounds,HT.sIx]
  | some i =>
   simp only [sliceBounds,HT.sIx,Option.getD_none,show (1:Int) > 0 by decide,if_true]
   by_cases h:i<0
   ·simp only [h,if_true]<;>omega
   ·simp only [h,if_false]<;>omega
theorem ZiO (its:List Value) (lo hi:Option Int):slicePick its.toArray lo hi none=((its.drop (HT.sIx its.length 0 lo)).take (HT.sIx its.length its.length hi-HT.sIx its.length 0 lo)).toArray:=by
 obtain ⟨h1,h2,h3⟩:=ZjZ lo hi its.toArray.size
 unfold slicePick
 rw [h1,h2,h3]
 simp only [sliceRange_one,pick_run,List.size_toArray]<;>rfl
def ZsE (K:PySem.W.Frag):V→Option Int→Option Int→Hp→VK→Prop:=fun x lo hi H Q=>∃ a xs,x=.ref a∧SqL K H a xs∧∀ p,H p=none→Q (.ref p) (upd H p (.lst (ZdR xs lo hi)))
theorem sl_list:SlR X (ZsE X.K):=by
 intro pins s σ H x v vl vu lo hi sl Q I rx hs pl pu h
 obtain ⟨a,xs,rfl,hx,q⟩:=h
 cases rx
 obtain ⟨its,r,ht,hz⟩:=I.list hx
 have hlen:=r.length
 refine ⟨"list",_,slot_list_getitem.lookup,ht.isList.typeIs,?_⟩
 refine wpAny_getItem_list_slice ht.isList hs pl pu .none (by simp) ?_ (by rw [List.size_toArray]<;>omega)
 rw [ZiO,← hlen]
 refine ⟨.ref s.heap.objs.size,_,I.laid (t':=s.toks) (o:=.lst (ZdR xs lo hi)) (fun b ob q=>Heap.get?_push_of_some _ q) (Nat.le_refl _) ?_,rfl,q _ (I.hok.fresh (Nat.le_refl _))⟩
 exact ⟨Nat.le_trans (Zg5 xs lo hi) hz,_,0,(r.drop (HT.sIx xs.length 0 lo)).take (HT.sIx xs.length xs.length hi-HT.sIx xs.length 0 lo),Heap.get?_push_size _ rfl⟩
def ZnO:V→Bool
 | .non=>true
 | .bl _=>true
 | .int _=>true
 | .str _=>true
 | _=>false
def eqV:V→V→Bool
 | .non,.non=>true
 | .bl a,.bl b=>a==b
 | .bl a,.int b=>(if a then 1 else 0)==b
 | .int a,.bl b=>a==(if b then 1 else 0)
 | .int a,.int b=>a==b
 | .str a,.str b=>a==b
 | _,_=>false
theorem CallR.or {f:Value} {r r':List V→Hp→VK→Prop} (h:CallR X f r) (h':CallR X f r'):CallR X f (fun xs H Q=>r xs H Q∨r' xs H Q):=by
 intro pins s σ H xs us Q I rs q
 rcases q with q | q
 ·exact h pins s σ H xs us Q I rs q
 ·exact h' pins s σ H xs us Q I rs q
theorem Zgy:CallR X (.type "list") (fun xs H Q=>∃ p ys,xs=[.ref p]∧(SqL X.K H p ys∨SqT X.K H p ys)∧∀ l,H l=none→Q (.ref l) (upd H l (.lst ys))):=by
 intro pins s σ H xs us Q I r h
 obtain ⟨p,ys,rfl,hq,q⟩:=h
 obtain ⟨u,rfl,rx⟩:=ZgN r
 cases rx
 have fin:∀ (its:List Value),Vals ys its→ys.length≤sizeLine→∀ (h':Heap) (c':Nat),(∀ b o',s.heap.get? b=some o'→h'.get? b=some o') →
   h'.get? s.heap.objs.size=some { cls:=.type "list",dict:=none,data:=.seq its.toArray c',slots:=#[] }→EP X pins σ Q (.ref s.heap.objs.size) { s with heap:=h' }:=fun its r' hz h' c' kp e =>
  ⟨.ref s.heap.objs.size,_,I.laid (t':=s.toks) kp (Nat.le_refl _) (show ObjOk X.prog X.w _ h' _ (.lst ys) from ⟨hz,its,c',r',e⟩),rfl,q _ (I.hok.fresh (Nat.le_refl _))⟩
 rcases hq with hq | hq
 ·obtain ⟨its,r',pl,hz⟩:=I.list hq
  have hlen:=r'.length
  obtain ⟨o,ho,hc,n,hd⟩:=pl.isList
  exact call_list_seq p (.inl rfl) ho hc hd (fun h' c' kp e=>fin its r' hz h' c' kp e) (by simp only [List.size_toArray]<;>omega)
 ·obtain ⟨its,r',pl,hz⟩:=I.tuple hq
  have hlen:=r'.length
  obtain ⟨o,ho,hc,n,hd⟩:=pl
  exact call_list_seq p (.inr rfl) ho hc hd (fun h' c' kp e=>fin its r' hz h' c' kp e) (by simp only [List.size_toArray]<;>omega)
theorem Zcg:CallR X (.type "tuple") (fun xs H Q=>∃ p ys,xs=[.ref p]∧((SqL X.K H p ys∧∀ l,H l=none→Q (.ref l) (upd H l (.tup ys)))∨(SqT X.K H p ys∧Q (.ref p) H))):=by
 intro pins s σ H xs us Q I r h
 obtain ⟨p,ys,rfl,h⟩:=h
 obtain ⟨u,rfl,rx⟩:=ZgN r
 cases rx
 rcases h with ⟨hq,q⟩ | ⟨hq,q⟩
 ·obtain ⟨its,r',pl,hz⟩:=I.list hq
  have hlen:=r'.length
  refine call_tuple_list pl.isList (fun h' kp=>?_) (by simp only [List.size_toArray]<;>omega)
  have I1:Inv X pins σ H { s with heap:=h' }:=I.kept (t':=s.toks) kp
  have I2:Inv X pins σ (upd H h'.objs.size (.tup ys)) { s with heap:=h'.push { cls:=.type "tuple",data:=.seq its.toArray } } :=
   I1.laid (t':=s.toks) (fun b o e=>Heap.get?_push_of_some _ e) (Nat.le_refl _) (show ObjOk X.prog X.w _ _ _ (.tup ys) from ⟨hz,its,r',IsTup.new _ _⟩)
  exact ⟨.ref h'.objs.size,_,I2,rfl,q _ (I1.hok.fresh (Nat.le_refl _))⟩
 ·obtain ⟨its,r',pl,hz⟩:=I.tuple hq
  exact call_tuple_same pl ⟨.ref p,H,I,rfl,q⟩
def tyV (K:PySem.W.Frag) (T:String) (x:V) (H:Hp):Prop:=match x with
 | .str _=>T="str"
 | .int _=>T="int"
 | .ref p=>(T="list"∧∃ xs,SqL K H p xs)∨(T="tuple"∧∃ o,K.lookup p=some o∧o.cls=.type "tuple"∧o.dict=none) ∨
   (T="dict"∧((∃ kvs,H p=some (.dK kvs))∨(∃ kvs,H p=some (.dT kvs))∨∃ ks vs,Rd H p (.dct ks vs)))∨(T="set"∧∃ S n,H p=some (.set S n))
 | _=>False
theorem Zro {pins:List (Addr×Obj)} {σ:St} {H:Hp} {s:Shared} {T:String} {x:V} {v:Value} (I:Inv X pins σ H s) (r:RelV x v) (ty:tyV X.K T x H) :
  s.TypeIs v T∧∀ a,v=.ref a→∃ ob,s.heap.get? a=some ob∧ob.dict=none:=by
 cases x with
 | str z =>
  obtain ⟨t,rfl⟩:=r
  cases (show T="str" from ty)
  exact ⟨typeIs_str s z t,fun _ e=>nomatch e⟩
 | int i =>
  obtain ⟨t,rfl⟩:=r
  cases (show T="int" from ty)
  exact ⟨typeIs_int s i t,fun _ e=>nomatch e⟩
 | ref p =>
  cases r
  rcases ty with ⟨rfl,xs,hq⟩ | ⟨rfl,o,hk,hc,hd⟩ | ⟨rfl,hk⟩ | ⟨rfl,S,n,hk⟩
  ·obtain ⟨its,_,pl,_⟩:=I.list hq
   refine ⟨pl.isList.typeIs,fun a e=>?_⟩
   cases e
   obtain ⟨o,n,e,c,hd,_⟩:=pl
   exact ⟨o,e,hd⟩
  ·refine ⟨⟨o,I.kIn p o hk,hc⟩,fun a e=>?_⟩
   cases e
   exact ⟨o,I.kIn _ o hk,hd⟩
  ·have z:∃ o,s.heap.get? p=some o∧o.ExactDict:=by
    rcases hk with ⟨kvs,hk⟩ | ⟨kvs,hk⟩ | ⟨ks,vs,hk⟩
    ·obtain ⟨_,_,_,_,o,_,_,e,ex,_⟩:=I.hok p _ hk
     exact ⟨o,e,ex⟩
    ·obtain ⟨_,_,_,_,o,_,_,e,ex,_⟩:=I.hok p _ hk
     exact ⟨o,e,ex⟩
    ·obtain ⟨_,_,_,o,_,_,e,ex,_⟩:=hk.ok I.hok
     exact ⟨o,e,ex⟩
   obtain ⟨o,e,ex⟩:=z
   refine ⟨⟨o,e,ex.1⟩,fun a e2=>?_⟩
   cases e2
   exact ⟨o,e,ex.2.1⟩
  ·obtain ⟨o,_,_,_,e,ex,_⟩:=I.hok p _ hk
   refine ⟨⟨o,e,ex.1⟩,fun a e2=>?_⟩
   cases e2
   exact ⟨o,e,ex.2.1⟩
 | _=>exact False.elim ty
def tBM (K:PySem.W.Frag) (T:String) (r:V→List V→Hp→VK→Prop) (to:TE) (t:TA):TE:=fun σ H Q=>to σ H fun x H1=>tyV K T x H1∧t σ H1 fun xs H2=>r x xs H2 Q
variable {o e:Expr} {es:List Expr} {to:TE} {t:TA} {name:Str} {apos cpos:Pos} {T id:String} {r:V→List V→Hp→VK→Prop}
theorem Zld (pa:PlainAttrs T) (slot:Slot T name id) (hty:typeOf (.builtin id)=pure (.type "method_descriptor")) (hm:MtR X id r) (ho:PE X o to) (ha:PA X (e::es) t)
  (hbase:attributeBase o name X.env (eval o X.env)=eval o X.env:=by rfl)
  (hfew:((backTo cpos (starEach (e::es) X.env)).all (fun x=>!x.1)&&(backToKw cpos (keywordEach [] X.env)).all (fun x=>x.1.isSome)
   && decide ((e::es).length+([]:List Keyword).length+(if ([]:List Keyword).isEmpty then 0 else 1)<30))=true:=by rfl)
  (hline:(apos.endLine==cpos.line)=true:=by rfl) (hs:starEach (e::es) X.env=(false,eval e X.env)::starEach es X.env:=by rfl) (hplain:(backTo cpos (starEach es X.env)).any (·.1)=false:=by rfl) :
  PE X (.Call (.Attribute o name apos) (e::es) [] cpos) (tBM X.K T r to t):=by
 intro pins s σ H Q I h
 refine wpAny_Call_method_late hbase hfew hline rfl (thn (ho pins s σ H _ I h) fun v s1 ⟨x,H1,I1,r1,ty,q1⟩=>?_)
 obtain ⟨h1,h2⟩:=Zro I1 r1 ty
 refine ⟨T,id,pa,slot,hty,h1,h2,?_⟩
 have hA:=ha cpos pins s1 σ H1 _ I1 q1
 rw [hs] at hA ⊢
 refine Calls.callWith_builtin (by show (false||(backTo cpos (starEach es X.env)).any (·.1))=false;rw [hplain]<;>rfl) (Calls.evalArgs_plain ?_)
 exact thn hA fun us s2 ⟨vs,H2,I2,r2,q2⟩=>hm pins s2 σ H2 x vs v us Q I2 r1 r2 q2
end
end L2
namespace L2
open PySem PySem.Spec PyProof.Rows
def MtM (X:Cx) (id:String) (r:V→List V→Hp→VK→Prop):Prop :=
 ∀ (pins:List (Addr×Obj)) (s:Shared) (σ:St) (H:Hp) (x:V) (xs:List V) (v:Value) (us:List Value) (Q:VK),Inv X pins σ H s→RelV x v→Vals xs us→r x xs H Q →
  wpAny (model X.prog X.w) X.A (call (.builtin id) (v::us)) (EP X pins σ Q) X.xe s
theorem Vals.one:∀ {x:V} {us:List Value},Vals [x] us→∃ u,us=[u]∧RelV x u
 | _,_,.cons r .nil=>⟨_,rfl,r⟩
theorem Vals.two:∀ {x y:V} {us:List Value},Vals [x,y] us→∃ u v,us=[u,v]∧RelV x u∧RelV y v
 | _,_,_,.cons r (.cons q .nil)=>⟨_,_,rfl,r,q⟩
theorem Vals.reverse {xs:List V} {us:List Value} (h:Vals xs us):Vals xs.reverse us.reverse:=by
 induction h with
 | nil=>exact .nil
 | cons r t ih=>rw [List.reverse_cons,List.reverse_cons];exact Vals.append ih (.cons r .nil)
theorem Vals.rep {xs:List V} {us:List Value} (h:Vals xs us):∀ k:Nat,Vals (List.replicate k xs).flatten (List.replicate k us).flatten
 | 0=>.nil
 | k+1=>by
  rw [List.replicate_succ,List.replicate_succ,List.flatten_cons,List.flatten_cons]
  exact Vals.append h (Vals.rep h k)
section
variable {X:Cx} {pins:List (Addr×Obj)} {σ:St} {H:Hp} {s:Shared} {l b:Addr} {xs ys zs:List V}
theorem Inv.lset {its its':List Value} {n:Nat} {f:Array Value→Array Value} {t':Nat} (I:Inv X pins σ H s) (hH:H l=some (.lst xs))
  (e:s.heap.get? l=some { cls:=.type "list",data:=.seq its.toArray n }) (hf:f its.toArray=its'.toArray) (hv:Vals ys its') (hz:ys.length≤sizeLine) :
  Inv X pins σ (upd H l (.lst ys)) { s with heap:=s.heap.update l (Obj.mapSeq f),toks:=t' }:=by
 have q:=PySem.IsL.update e f
 rw [hf] at q
 refine I.write (x:=l) (e:=l) (by rw [hH];exact trivial) (.inl rfl) (fun b' u hb hu=>(Heap.get?_update_other s.heap (Obj.mapSeq f) (Ne.symm hb)).trans hu) ⟨_,q⟩ ?_
 exact ⟨hz,its',_,hv,q⟩
theorem Inv.lnew {its:List Value} {t':Nat} (I:Inv X pins σ H s) (hv:Vals ys its) (hz:ys.length≤sizeLine) :
  Inv X pins σ (upd H s.heap.objs.size (.lst ys)) { s with heap:=s.heap.push { cls:=.type "list",data:=.seq its.toArray },toks:=t' } :=
 I.laid (fun _ _ q=>Heap.get?_push_of_some _ q) (Nat.le_refl _) ⟨hz,its,0,hv,Heap.get?_push_size _ rfl⟩
theorem Inv.fresh (I:Inv X pins σ H s):H s.heap.objs.size=none:=I.hok.fresh (Nat.le_refl _)
theorem Inv.lstM (I:Inv X pins σ H s) (hH:H l=some (.lst xs)):xs.length≤sizeLine∧∃ (its:List Value) (n:Nat),Vals xs its∧xs.length=its.length∧s.heap.get? l=some { cls:=.type "list",data:=.seq its.toArray n }:=by
 obtain ⟨z,its,n,r,e⟩:=I.hok l _ hH
 exact ⟨z,its,n,r,r.length,e⟩
end
section
variable {X:Cx}
def ZoH:V→List V→Hp→VK→Prop:=fun x vs H Q=>∃ l xs y,x=.ref l∧vs=[y]∧H l=some (.lst xs)∧xs.length<sizeLine∧Q .non (upd H l (.lst (xs++[y])))
theorem Zl9:MtM X "list.append" ZoH:=by
 intro pins s σ H x vs v us Q I rx rv h
 obtain ⟨l,xs,y,rfl,rfl,hH,hz,q⟩:=h
 cases rx
 obtain ⟨u,rfl,ru⟩:=rv.one
 obtain ⟨z,its,n,r,hl,e⟩:=I.lstM hH
 refine call_meets F.slot_list_append ⟨_,e,rfl⟩ F.entry_list_append (F.args_list_append_2 _ _) (PySem.list_append l its.toArray n u (by rw [List.size_toArray];omega)) ⟨e,?_⟩
 refine ⟨.non,_,I.lset (its':=its++[u]) hH e (by simp) (r.append (.cons ru .nil)) ?_,rfl,q⟩
 rw [List.length_append,List.length_singleton]
 omega
end
section
variable {prog:Program} {w:World} {A:Around} {E:Value→Shared→Prop} {s:Shared}
set_option maxRecDepth 100000 in
end
section
variable {X:Cx}
end
end L2
namespace Att
open PySem PySem.W PySem.Calls PyProof.Rows
theorem Zhw {P:Params} {h:Heap}:∀ (ns:List Int) (vs:List Value),WellAll P h vs (ns.map WData.int)→IntsAre vs ns:=by
 intro ns
 induction ns with
 | nil =>
  intro vs w
  rw [List.map_nil] at w
  cases w
  exact .nil
 | cons n ns ih =>
  intro vs w
  rw [List.map_cons] at w
  cases w with
  | cons a b =>
   cases a
   exact .cons _ _ (ih _ b)
theorem Zmh {l:OpenLaw} {n:Nat} (hn:l.most=some n) {P:Params} {h:Heap} {args:List WData} {Zp:List Value}
  (hpre:l.row.toRowW.claim.pre args=true) (hwl:WellAll P h Zp args) :
  ∃ a vs ns,Zp=[Value.ref a]∧args=[WData.list (ns.map WData.int)]∧h.get? a=some { cls:=.type "list",data:=.seq vs.toArray }∧IntsAre vs ns∧ns.length≤n:=by
 have hsh:WShape.hasAll [] args [.list .int]=true:=(pre_splitW hpre).1
 have hc:l.pre.holds [] { args:=args }=true:=(pre_splitW hpre).2
 obtain ⟨d,r,rfl,h1,h2⟩:=hasAllW_cons hsh
 obtain rfl:=hasAllW_nil h2
 obtain ⟨xs,rfl,h3⟩:=hasW_list h1
 obtain ⟨ns,rfl⟩:=items_int h3
 have hlen:ns.length≤n:=by
  unfold OpenLaw.pre at hc
  have h4:(WTm.not (.lt (.lit (.int (n:Int))) (.len (.arg 0)))).holds [] { args:=[.list (ns.map .int)] }=true:=by
   have h4:=(holds_andW hc).1
   rw [hn] at h4
   exact h4
  have h5:=condW_of h4 (w_not (w_lt w_lit (w_len_list (w_arg rfl))))
  rw [List.length_map] at h5
  refine Nat.le_of_not_lt fun q=>?_
  have q':(n:Int)<((ns.length:Nat):Int):=by omega
  first
   | (rw [decide_eq_true q'] at h5;exact absurd h5 (by decide))
   | (simp at h5;omega)
 cases hwl with
 | cons w1 w2 =>
  cases w2
  cases w1 with
  | list ho hall=>exact ⟨_,_,ns,rfl,rfl,ho,Zhw ns _ hall,hlen⟩
theorem Zmv (l:OpenLaw) (args:List WData):l.row.toRowW.claim.post args (.bool true) args=true :=
 postW_of (r:=l.row.toRowW) (X:=(true==true))
  (show WShape.has [] (.bool true) .bool=true by first | rfl | decide | simp [WShape.has,WShape.arms,WShape.armsAll])
  (show (WTm.eq .res (.lit (.bool true))).value [] { args:=args,res:=some (.bool true),after:=args }=some (.bool (true==true)) from w_eq_bool (w_res rfl) w_lit) rfl
theorem attach_call {l:OpenLaw} {n:Nat} {q:Program} {loose:List Str} {XP:(Str→Option Value)→Heap→Prop} {YP:World→Heap→Prop} {d:DefRec}
  (hn:l.most=some n) (hdf:d.params.defaults=[])
  (call:∀ (w:World) (s₀ s₁:Shared) (mg mb:Str→Option Value) (fa:Addr) (o:Obj) (pm cd doc:Value) (a:Addr) (vs:List Value) (ns:List Int),
   Ground q loose [] XP w s₀ mg mb s₁.heap→YP w s₁.heap →
   s₁.heap.get? fa=some o→o.data=.func (docDef d.name d.params d.body d.scope pm cd doc)→s₁.heap.CodeRec cd d.name→mg d.name=some (.ref fa) →
   s₁.heap.get? a=some { cls:=.type "list",data:=.seq vs.toArray }→IntsAre vs ns→ns.length≤n→s₁.gens=#[] →
   codeAny (model l.prog w) callerA (.call (.ref fa) ⟨[.ref a],[]⟩) (fun r s'=>r=.ok (.ret (.bool true))∧OldK s₁.heap s'.heap∧s'.os=s₁.os∧AllBare s'.gens) s₁) :
  WalkO q loose XP YP l.row.toRowW d [] (fun f vs=>PySem.call f vs):=by
 intro w s₀ s₁ mg mb G Y fa o pm cd doc dV kV ho hd hcd hD hmg hg args Zp as hpre hlay hrd hwl hlo
 obtain rfl:dV=.none:=Dflts.none hD hdf
 obtain rfl:kV=.none:=Dflts.noKw hD
 obtain ⟨a,vs,ns,rfl,rfl,hobj,hints,hlen⟩:=Zmh hn hpre hwl
 refine enter_call (codeAny_mono (call w s₀ s₁ mg mb fa o pm cd doc a vs ns G Y ho (fd_plain hd) hcd hmg hobj hints hlen hg) fun r s' hq=>?_)
 obtain ⟨rfl,h2,h3,h4⟩:=hq
 exact ⟨.inl ⟨.bool true,.bool true,[],rfl,fun _=>rfl,.bool true,Zmv l _,fun _=>⟨List.Pairwise.nil,fun _ hm=>(nomatch hm)⟩⟩,h2,h3,h4⟩
section
variable {prog:Program} {w:World} {A:Around} {E:Value→Shared→Prop} {s:Shared} {K:Frag}
end
end Att
namespace L2
open PySem PySem.Spec PyProof.Rows
theorem ZiC:∀ {vs:List Value} {ns:List Int},IntsAre vs ns→Vals (ns.map V.int) vs
 | _,_,.nil=>.nil
 | _,_,.cons n t h=>.cons ⟨t,rfl⟩ (ZiC h)
def ZnC (H:Hp):Prop:=∀ b,H b=none∨∃ o xs,H b=some (.frz o (.lst xs))
theorem Znw {P:Program} {w:World} {K:PySem.W.Frag} {mg mb:Str→Option Value} {CX:CXT} {k:Nat} {fa a:Addr} {fd:FuncData} {x:Str} {sp:Sp} {s₁:Shared} {vs:List Value} {ns:List Int}
  (KX:K.In s₁.heap) (hns:s₁.heap.Ns mainGlobals mg) (hb:s₁.heap.Ns builtinsNs mb) (hbb:∀ x:Str,x≠"__name__"→mb x=bootBuiltins x) (hlim:s₁.heap.NoLimit) (hg:s₁.gens=#[])
  (ha:s₁.heap.get? a=some { cls:=.type "list",data:=.seq vs.toArray }) (hi:IntsAre vs ns) (hl:ns.length≤sizeLine) (hr:Room k callerA)
  (F:∀ base:Heap,K.In base→base.Ns mainGlobals mg→FnOk P w K mg base CX k fa fd [x] sp) (hbind:∀ (s:Shared) (u:Value),BindsTo s fd ⟨[u],[]⟩ [(x,u)])
  (hsp:∀ H:Hp,ZnC H→SqL K H a (ns.map V.int)→sp [.ref a] H (fun v _=>v=.bl true) fun _ _ _=>False)
  (hCX:∀ H e s',CX [] H s₁ (fun _ _ _=>False) e s'→False) :
  codeAny (model P w) callerA (.call (.ref fa) ⟨[.ref a],[]⟩) (fun r s'=>r=.ok (.ret (.bool true))∧OldK s₁.heap s'.heap∧s'.os=s₁.os∧AllBare s'.gens) s₁:=by
 have rv:=ZiC hi
 have lenV:=hi.length
 -- from an abstract heap in which nothing but the script may be tracked
 have core:∀ H:Hp,ZnC H→SqL K H a (ns.map V.int)→HOk P w H s₁.heap→(∀ b,H b≠none→b=a)→(H a≠none→K.lookup a=none) →
   codeAny (model P w) callerA (.call (.ref fa) ⟨[.ref a],[]⟩) (fun r s'=>r=.ok (.ret (.bool true))∧OldK s₁.heap s'.heap∧s'.os=s₁.os∧AllBare s'.gens) s₁:=by
  intro H hO hS hok hA hK
  have base_of:∀ {b:Addr} {o:Obj},s₁.heap.get? b=some o→H b=none→(ZeS s₁.heap H).get? b=some o:=fun e n=>Znn e n
  have noA:∀ {b:Addr} {o:Obj} {es:Array DictEntry} {ep:Nat},s₁.heap.get? b=some o→o.data=.dict es ep→H b=none:=fun {b o es ep} e d=>by
   cases q:H b with
   | none=>rfl
   | some u =>
    have e':b=a:=hA b (by rw [q];simp)
    subst e'
    rw [ha] at e;cases e
    have d':Data.seq vs.toArray _=Data.dict es ep:=d
    cases d'
  have nsK:∀ {b:Addr} {m:Str→Option Value},s₁.heap.Ns b m→(ZeS s₁.heap H).Ns b m:=fun {b m} ⟨o,es,ep,e,d,r⟩=>⟨o,es,ep,base_of e (noA e d),d,r⟩
  have hKb:K.In (ZeS s₁.heap H):=fun b o e=>base_of (KX b o e) (by
   cases q:H b with
   | none=>rfl
   | some u =>
    have e':b=a:=hA b (by rw [q];simp)
    subst e'
    rw [hK (by rw [q];simp)] at e;cases e)
  have hM:Mod K mg (ZeS s₁.heap H):=⟨hKb,nsK hns,⟨mb,nsK hb,hbb⟩,let ⟨mc,h1,h2⟩:=hlim;⟨mc,nsK h1,h2⟩⟩
  have e0:Env0 P w K mg (ZeS s₁.heap H) callerA [] s₁ H:=⟨rfl,hM,fun b o e=>Zpe e,Nat.le_of_eq (Zmo _ _),trivial,fun b hb=>absurd (show b∈([]:List Addr) from hb) (by simp),hok,.of_eq hg⟩
  refine codeAny_mono ((F _ hKb (nsK hns)).run callerA [] s₁ H ⟨[.ref a],[]⟩ [.ref a] [.ref a] _ _ hr e0 (hbind s₁ (.ref a)) (.cons rfl .nil) (hsp H hO hS)) fun r s' h=>?_
  cases r with
  | error e=>exact (hCX H e s' h).elim
  | ok fl =>
   cases fl with
   | next=>exact False.elim h
   | brk=>exact False.elim h
   | cont=>exact False.elim h
   | ret u =>
    obtain ⟨v,H',os,bare,un,hok',r',q⟩:=h
    have q':v=.bl true:=q
    subst q'
    obtain rfl:u=Value.bool true:=r'
    refine ⟨rfl,OldK.of_keep fun b o e=>?_,os,bare⟩
    cases q:H b with
    | none=>exact un.keep b o e q (by intro z;exact absurd (show b∈([]:List Addr) from z) (by simp)) (by simp)
    | some u =>
     rcases hO b with z | ⟨ob,xs,z⟩
     ·rw [q] at z;cases z
     ·have z2:=un.frzs b ob _ z
      obtain ⟨e1,_⟩:=hok b _ z
      obtain ⟨e2,_⟩:=hok' b _ z2
      rw [e] at e1;cases e1
      exact e2
 cases hk:K.lookup a with
 | some o =>
  -- the script is one of the module's own objects
  have e:=KX a o hk
  rw [ha] at e
  cases e
  refine core (fun _=>none) (fun _=>.inl rfl) (.inr ⟨_,vs.toArray,_,hk,rfl,rfl,rfl,by rw [List.size_toArray,lenV];exact hl,by simpa using rv⟩) (fun b u z=>by have z':(none:Option HO)=some u:=z;cases z') (fun b z=>absurd rfl z) fun z=>absurd rfl z
 | none =>
  refine core (fun b=>if b=a then some (.frz { cls:=.type "list",data:=.seq vs.toArray } (.lst (ns.map V.int))) else none) (fun b=>?_) (.inl (.inr ⟨{ cls:=.type "list",data:=.seq vs.toArray },if_pos rfl⟩)) (fun b u z=>?_) (fun b z=>?_) fun _=>hk
  ·by_cases hb:b=a
   ·exact .inr ⟨_,_,if_pos hb⟩
   ·exact .inl (if_neg hb)
  ·by_cases hb:b=a
   ·have z':=(if_pos hb).symm.trans z
    cases z'
    subst hb
    exact ⟨ha,by rw [List.length_map];exact hl,vs,_,rv,ha⟩
   ·have z':=(if_neg hb).symm.trans z
    cases z'
  ·by_cases hb:b=a
   ·exact hb
   ·exact absurd (if_neg hb) z
end L2
namespace L2
open PySem PySem.Spec PyProof.Rows
theorem walk_of {l:PySem.W.OpenLaw} {n k:Nat} {q:Program} {loose:List Str} {XP:(Str→Option Value)→Heap→Prop} {YP:World→Heap→Prop} {d:DefRec} {K:Params→PySem.W.Frag} {CX:World→CXT} {sp:World→Sp} {x:Str}
  (hn:l.most=some n) (hn2:n≤sizeLine) (hdf:d.params.defaults=[]) (hr:Room k callerA)
  (hY:∀ (w:World) (h:Heap),YP w h→(K w.params).In h)
  (F:∀ (w:World) (mg:Str→Option Value) (fa:Addr) (h:Heap),(K w.params).In h→h.Ns mainGlobals mg→mg d.name=some (.ref fa) →
   ∃ fd:FuncData,(∀ (s:Shared) (u:Value),BindsTo s fd ⟨[u],[]⟩ [(x,u)]) ∧
    ∀ base:Heap,(K w.params).In base→base.Ns mainGlobals mg→FnOk l.prog w (K w.params) mg base (CX w) k fa fd [x] (sp w))
  (hsp:∀ (w:World) (H:Hp) (a:Addr) (ns:List Int),ns.length≤n→ZnC H→SqL (K w.params) H a (ns.map V.int)→sp w [.ref a] H (fun v _=>v=.bl true) fun _ _ _=>False)
  (hCX:∀ (w:World) (H:Hp) (s:Shared) (e:Value) (s':Shared),CX w [] H s (fun _ _ _=>False) e s'→False) :
  PySem.W.WalkO q loose XP YP l.row.toRowW d [] (fun f vs=>PySem.call f vs):=by
 refine Att.attach_call hn hdf fun w s₀ s₁ mg mb fa o pm cd doc a vs ns G Y ho hd hcd hmg hobj hints hlen hg=>?_
 have KX:=hY w _ Y
 obtain ⟨fd,hb,hF⟩:=F w mg fa _ KX G.T.g hmg
 exact Znw KX G.T.g G.T.b G.T.builtins G.T.nolimit hg hobj hints (Nat.le_trans hlen hn2) hr hF hb (fun H hO hS=>hsp w H a ns hlen hO hS) fun H e s'=>hCX w H s₁ e s'
end L2
namespace L2
open PySem PySem.Spec PyProof.Rows
def ZO (s:Stmt):Arguments:=match s with
 | .FunctionDef _ a _ _ _ _ _ _ _ _=>a
 | _=>{ posonlyargs:=[],args:=[],vararg:=none,kwonlyargs:=[],kw_defaults:=[],kwarg:=none,defaults:=[] }
def ZK (s:Stmt):List Stmt:=match s with
 | .FunctionDef _ _ b _ _ _ _ _ _ _=>b
 | _=>[]
def Zn (s:Stmt):Scope:=match s with
 | .FunctionDef _ _ _ _ _ _ sc _ _ _=>sc
 | _=>{ kind:=.function,names:=[],isGenerator:=false,isCoroutine:=false }
abbrev CX0:CXT:=fun _ _ _ _ _ _=>False
abbrev E0:XK:=fun _ _ _=>False
theorem ZH {X:Cx}:ZdK CX0 X E0:=fun _ _ _ _ _ _ _ h=>h.elim
structure Fun (K:PySem.W.Frag) (x qual:Str) (st:Stmt) (f:Addr) (fd:FuncData):Prop where
 ex:∃ (oc:Value) (od:Option Addr) (kV doc pm:Value) (an:Option Addr) (cdv ct:Value) (osl:Array (Option Value)),
  fd=PySem.W.fnOf x qual (ZO st) (ZK st) (Zn st) .none kV doc pm an cdv ct∧K.lookup f=some ⟨oc,od,.func fd,osl⟩∧PySem.W.codeIn K cdv qual=true
 kp:PySem.W.keepIn K (.ref f)=true
section
variable {P:Program} {w:World} {K:PySem.W.Frag} {mg:Str→Option Value} {base:Heap}
theorem Fun.ok {x qual:Str} {st:Stmt} {f:Addr} {fd:FuncData} {N ps:List Str} {k:Nat} {sp:Sp} (F:Fun K x qual st f fd) (S:ZL N ps (Zn st)) (len:∀ vs H Q E,sp vs H Q E→vs.length=ps.length)
  (hbody:∀ (cdv:Value) (A:Around) (outer:List Env) (s:Shared) (H:Hp) (vs:List V) (Q:VK) (E:XK),Room k (A.deeper (envOfC qual (Zn st) s.heap.objs.size f cdv))→sp vs H Q E →
   ∃ t,PSs (Zf7 CX0 P w K mg base N qual (Zn st) f cdv A outer s H E).nox (ZK st) t∧t { nx:=fun _ H'=>Q .non H',rt:=Q } (ZcT N vs) H):FnOk P w K mg base CX0 (k+1) f fd ps sp:=by
 obtain ⟨oc,od,kV,doc,pm,an,cdv,ct,osl,rfl,lk,hcd⟩:=F.ex
 refine Zr0 lk hcd S len fun A outer s H vs Q E hr hsp=>?_
 obtain ⟨t,h,q⟩:=hbody cdv A outer s H vs Q E hr hsp
 exact ⟨t,h.nox,q⟩
theorem Fun.binds {x qual:Str} {st:Stmt} {f:Addr} {fd:FuncData} {ps:List Str} (F:Fun K x qual st f fd)
  (h:∀ (kV doc pm:Value) (an:Option Addr) (cdv ct:Value) (us:List Value),us.length=ps.length→bindArgs (PySem.W.fnOf x qual (ZO st) (ZK st) (Zn st) .none kV doc pm an cdv ct) ⟨us,[]⟩=pure (ps.zip us)):Binds K fd ps []:=by
 obtain ⟨oc,od,kV,doc,pm,an,cdv,ct,osl,rfl,lk,hcd⟩:=F.ex
 exact .all (h kV doc pm an cdv ct)
theorem Z4 {x qual:Str} {st:Stmt} {f:Addr} {oc:Value} {od an:Option Addr} {osl:Array (Option Value)} {kV doc pm cdv ct:Value} (l:K.lookup f=some ⟨oc,od,.func (PySem.W.fnOf x qual (ZO st) (ZK st) (Zn st) .none kV doc pm an cdv ct),osl⟩)
  (c:PySem.W.codeIn K cdv qual=true) (k:PySem.W.keepIn K (.ref f)=true):Fun K x qual st f (PySem.W.fnOf x qual (ZO st) (ZK st) (Zn st) .none kV doc pm an cdv ct):=⟨⟨oc,od,kV,doc,pm,an,cdv,ct,osl,rfl,l,c⟩,k⟩
end
section
variable {X:Cx}
end
def Same (H H':Hp):Prop:=∀ b o,H b=some o→H' b=some o
theorem Same.refl (H:Hp):Same H H:=fun _ _ h=>h
theorem Same.trans {H H1 H2:Hp} (a:Same H H1) (b:Same H1 H2):Same H H2:=fun c o h=>b c o (a c o h)
theorem Same.free {H H':Hp} (e:Same H H') {l:Addr} (h:H' l=Option.none):H l=Option.none:=by
 cases q:H l with
 | none=>rfl
 | some o =>
  rw [e l o q] at h
  cases h
theorem Same.seq {K:PySem.W.Frag} {H H':Hp} {a:Addr} {xs:List V} (e:Same H H') (h:SqL K H a xs):SqL K H' a xs:=by
 rcases h with (h | ⟨o,h⟩) | h
 ·exact .inl (.inl (e _ _ h))
 ·exact .inl (.inr ⟨o,e _ _ h⟩)
 ·exact .inr h
end L2
set_option Elab.async false
set_option linter.all false
set_option maxRecDepth 100000
set_option maxHeartbeats 4000000
namespace L2
open PySem PySem.Spec PyProof.Rows
def Za4 (env:Env):List (Str×NameKind)→List (Str×Addr)→List (Str×Addr)
 | [],cs=>cs
 | (n,k)::r,cs=>if k=NameKind.free then Za4 env r ((n,(env.cells.lookup n).getD 0)::cs) else Za4 env r cs
theorem ZfG {scope:Scope} {env:Env} (h:∀ x∈scope.names,x.2=.free→∃ c,env.cells.lookup x.1=some c) :
  closureFor scope env=pure (Za4 env scope.names []):=by
 have all:∀ (l:List (Str×NameKind)) (cs:List (Str×Addr)),(∀ x∈l,x.2=.free→∃ c,env.cells.lookup x.1=some c) →
   (forIn l cs (fun (x:Str×NameKind) (cs:List (Str×Addr))=>if (x.2==NameKind.free)=true then (do let a ← cellOf env x.1;pure (ForInStep.yield ((x.1,a)::cs))) else pure (ForInStep.yield cs)):Sem (List (Str×Addr)))=pure (Za4 env l cs):=by
  intro l
  induction l with
  | nil=>intro cs _;rfl
  | cons x l ih =>
   intro cs hx
   obtain ⟨n,k⟩:=x
   rw [List.forIn_cons]
   have hr:=fun cs=>ih cs (fun y hy=>hx y (List.mem_cons_of_mem _ hy))
   by_cases hk:k=.free
   ·subst hk
    obtain ⟨c,hc⟩:=hx (n,.free) List.mem_cons_self rfl
    have e:cellOf env n=pure c:=by unfold cellOf;simp only [hc]
    simp only [beq_self_eq_true,if_true,e,pure_bind,hr,Za4,hc,Option.getD_some]
   ·have hb:(k==NameKind.free)=false:=by simpa using hk
    simp only [hb,Bool.false_eq_true,if_false,pure_bind,hr,Za4,hk]
 have:=all scope.names [] h
 simp only [closureFor]
 rw [← bind_pure (pure (Za4 env scope.names []):Sem _),← this]
theorem ZgD {env:Env}:∀ (l:List (Str×NameKind)) (cs:List (Str×Addr)),(∀ x∈l,x.2=.free→∃ c,env.cells.lookup x.1=some c) →
  (∀ p∈cs,env.cells.lookup p.1=some p.2)→∀ p∈Za4 env l cs,env.cells.lookup p.1=some p.2
 | [],cs,_,h=>h
 | (n,k)::r,cs,hx,h=>by
  have hr:∀ x∈r,x.2=.free→∃ c,env.cells.lookup x.1=some c:=fun y hy=>hx y (List.mem_cons_of_mem _ hy)
  by_cases hk:k=.free
  ·subst hk
   obtain ⟨c,hc⟩:=hx (n,.free) List.mem_cons_self rfl
   simp only [Za4,if_true]
   refine ZgD r _ hr fun p hp=>?_
   rcases List.mem_cons.mp hp with e | hp
   ·subst e;simp only [hc,Option.getD_some]
   ·exact h p hp
  ·simp only [Za4,hk,if_false]
   exact ZgD r cs hr h
theorem Zgx {env:Env}:∀ (l:List (Str×NameKind)) (cs:List (Str×Addr)) (x:Str),((x,NameKind.free)∈l∨∃ c,(x,c)∈cs)→∃ c,(x,c)∈Za4 env l cs
 | [],cs,x,h=>by
  rcases h with h | h
  ·cases h
  ·exact h
 | (n,k)::r,cs,x,h=>by
  by_cases hk:k=.free
  ·subst hk
   simp only [Za4,if_true]
   refine Zgx r _ x ?_
   rcases h with h | ⟨c,h⟩
   ·rcases List.mem_cons.mp h with e | h
    ·cases e;exact .inr ⟨_,List.mem_cons_self⟩
    ·exact .inl h
   ·exact .inr ⟨c,List.mem_cons_of_mem _ h⟩
  ·simp only [Za4,hk,if_false]
   refine Zgx r cs x ?_
   rcases h with h | h
   ·rcases List.mem_cons.mp h with e | h
    ·cases e;exact absurd rfl hk
    ·exact .inl h
   ·exact .inr h
theorem Zhv {β:Type}:∀ {l:List (Str×β)} {x:Str} {c:β},(x,c)∈l→∃ d,l.lookup x=some d
 | [],_,_,h=>by cases h
 | (n,b)::r,x,c,h=>by
  rw [List.lookup_cons]
  cases e:x==n with
  | true=>exact ⟨b,rfl⟩
  | false =>
   rcases List.mem_cons.mp h with z | h
   ·cases z;simp at e
   ·exact Zhv h
structure Zag (own outs:List Str) (sc osc:Scope):Prop where
 kind:sc.kind=.function
 nocell:∀ x∈sc.names,x.2≠.cell
 free:∀ x∈sc.names,x.2=.free→osc.names.lookup x.1=some .cell∨osc.names.lookup x.1=some .free
 loc:∀ x∈sc.names,x.2=.local→sc.names.lookup x.1=some .local
 out:∀ x∈outs,sc.names.lookup x=some .free
 nd:(own++outs).Nodup
theorem relabel_free {env:Env}:∀ {names:List (Str×NameKind)} {x:Str},names.lookup x=some .free →
  ((names.map fun (n,k)=>if (k==NameKind.free&&env.scope.kind==.function&&env.kindOf n==some .cell) then (n,NameKind.cell) else (n,k)).lookup x=some .cell ∨
    (names.map fun (n,k)=>if (k==NameKind.free&&env.scope.kind==.function&&env.kindOf n==some .cell) then (n,NameKind.cell) else (n,k)).lookup x=some .free)
 | [],_,h=>by simp at h
 | (n,k)::r,x,h=>by
  have ih:=@relabel_free env r x
  rw [List.map_cons]
  by_cases hc:(k==NameKind.free&&env.scope.kind==.function&&env.kindOf n==some .cell)=true
  ·rw [show (match ((n,k):Str×NameKind) with | (n,k)=>if (k==NameKind.free&&env.scope.kind==.function&&env.kindOf n==some .cell) then (n,NameKind.cell) else (n,k))=(n,NameKind.cell) from if_pos hc]
   rw [List.lookup_cons] at h ⊢
   cases hx:x==n with
   | true=>exact .inl rfl
   | false=>rw [hx] at h;exact ih h
  ·rw [show (match ((n,k):Str×NameKind) with | (n,k)=>if (k==NameKind.free&&env.scope.kind==.function&&env.kindOf n==some .cell) then (n,NameKind.cell) else (n,k))=(n,k) from if_neg hc]
   rw [List.lookup_cons] at h ⊢
   cases hx:x==n with
   | true=>rw [hx] at h;exact .inr h
   | false=>rw [hx] at h;exact ih h
theorem relabel_mem {env:Env}:∀ {names:List (Str×NameKind)} {x:Str} {k:NameKind},k=.cell∨k=.free→(∀ y∈names,y.2≠.cell) →
  (names.map fun (n,k)=>if (k==NameKind.free&&env.scope.kind==.function&&env.kindOf n==some .cell) then (n,NameKind.cell) else (n,k)).lookup x=some k→(x,NameKind.free)∈names
 | [],_,_,_,_,h=>by simp at h
 | (n,j)::r,x,k,hk,hn,h=>by
  have ih:=@relabel_mem env r x k hk fun y hy=>hn y (List.mem_cons_of_mem _ hy)
  rw [List.map_cons] at h
  by_cases hc:(j==NameKind.free&&env.scope.kind==.function&&env.kindOf n==some .cell)=true
  ·rw [show (match ((n,j):Str×NameKind) with | (n,k)=>if (k==NameKind.free&&env.scope.kind==.function&&env.kindOf n==some .cell) then (n,NameKind.cell) else (n,k))=(n,NameKind.cell) from if_pos hc] at h
   rw [List.lookup_cons] at h
   cases hx:x==n with
   | true =>
    have e:x=n:=by simpa using hx
    have ej:j=.free:=by
     simp only [Bool.and_eq_true,beq_iff_eq] at hc
     exact hc.1.1
    subst e ej
    exact List.mem_cons_self
   | false=>rw [hx] at h;exact List.mem_cons_of_mem _ (ih h)
  ·rw [show (match ((n,j):Str×NameKind) with | (n,k)=>if (k==NameKind.free&&env.scope.kind==.function&&env.kindOf n==some .cell) then (n,NameKind.cell) else (n,k))=(n,j) from if_neg hc] at h
   rw [List.lookup_cons] at h
   cases hx:x==n with
   | true =>
    rw [hx] at h
    have e:x=n:=by simpa using hx
    have ej:j=k:=Option.some.inj h
    subst e ej
    rcases hk with hk | hk
    ·exact absurd hk (hn _ List.mem_cons_self)
    ·subst hk;exact List.mem_cons_self
   | false=>rw [hx] at h;exact List.mem_cons_of_mem _ (ih h)
def cxC (X:Cx) (own outs:List Str) (scope:Scope) (C:Addr) (s2:Shared) (H2:Hp) (fp:List Addr) (pins:List (Addr×Obj)):Cx where
 prog:=X.prog
 w:=X.w
 K:=X.K
 mg:=X.mg
 base:=X.base
 A:=X.A
 N:=own++outs
 s₀:=s2
 H₀:=H2
 env:=compEnvC scope (Za4 X.env scope.names []) C X.env
 outer:=X.stack
 stack:=X.stack
 ex:=fp
 fn:=fun _=>false
 calm:=X.calm
 pn:=X.pn++pins
 xe:=fun _ _=>False
def PFs (X:Cx) (ifs:List Expr) (tt:TT):Prop :=
 ∀ (pins:List (Addr×Obj)) (s:Shared) (σ:St) (H:Hp) (Q:Bool→Hp→Prop),Inv X pins σ H s→tt σ H Q →
  wpAny (model X.prog X.w) X.A (forIn ifs true fun c r=>if r=true then do let ok ← isTrue c X.env (eval c X.env);pure (ForInStep.yield ok) else pure (ForInStep.yield r)) (TP X pins σ Q) X.xe s
def ZsG:TT:=fun _ H Q=>Q true H
theorem Zqn {X:Cx}:PFs X [] ZsG:=fun _ _ _ H _ I h=>wpAny_tests_nil ⟨H,I,h⟩
theorem ZpG {X:Cx} {c:Expr} {tt:TT} (h:PT X c tt):PFs X [c] tt:=fun pins s σ H Q I q=>wpAny_tests_one (h pins s σ H Q I q)
def ZaL (k:Nat) (oix:List Nat) (σ:St):St:=List.replicate k none++oix.map fun j=>(σ[j]?).join
def ZmA (k:Nat) (oix:List Nat) (g:TG) (tt:TT) (te:TE) (J:It) (σ:St) (H:Hp) (Q:VK):Prop :=
 ∃ (n:Nat) (W:Nat→List V→Hp→Prop),W 0 [] H∧∀ i ys H2,W i ys H2 →
  (J.stop i H2∧ys.length≤sizeLine∧∀ p,H2 p=none→Q (.ref p) (upd H2 p (.lst ys))) ∨
  (J.go i H2∧i<n∧ys.length<sizeLine∧∃ N:List V→Hp→Prop,(∀ ys' H',N ys' H'→W (i+1) ys' H')∧∀ x H3,J.yld i H2 x H3→g x (ZaL k oix σ) H3 fun σ4 H4=>σ4.drop k=(ZaL k oix σ).drop k ∧
   tt σ4 H4 fun b H5=>if b=true then te σ4 H5 fun y H6=>N (ys++[y]) H6 else N ys H5)
def Zlw (k:Nat) (oix:List Nat) (wi:TI) (g:TG) (tt:TT) (te:TE):TE:=fun σ H Q=>wi σ H fun J H1=>ZmA k oix g tt te J σ H1 Q
def Zco (its:List Value) (n:Nat):Obj:={ cls:=.type "list",data:=.seq its.toArray n }
theorem HOk.track {P:Program} {w:World} {H:Hp} {h:Heap} {a:Addr} {o:HO} (x:HOk P w H h) (hn:H a=none) (new:ObjOk P w (upd H a o) h a o):HOk P w (upd H a o) h:=fun b u e=>by
 by_cases hb:b=a
 ·subst hb;rw [ZaJ] at e;cases e;exact new
 ·rw [ZG hb] at e
  exact (x b u e).stay (fun c v _ q=>q) (fun c q=>by rw [ZG (Zac q hn)];exact q) fun c xs q=>by rw [ZG (Zac q hn)];exact q
theorem ZiH {X:Cx} {pins:List (Addr×Obj)} {σ:St} {H2:Hp} {s2:Shared} {tg elt iter:Expr} {ifs:List Expr} {scope:Scope} {pos:Pos} {J:It} {fp:List Addr} {it:Addr} {tn:Nat→Heap→Prop}
  {own outs:List Str} {oix:List Nat} {g:TG} {tt:TT} {te:TE} {Q:VK} {E:Value→Shared→Prop} {RR:Value→Addr→Result→Shared→Prop}
  (S:Zag own outs scope X.env.scope) (hox:oix.map (fun j=>X.N[j]?)=outs.map some) (hc:X.calm=true)
  (hg:∀ C s2 H2 fp pins,PG (cxC X own outs scope C s2 H2 fp pins) tg g)
  (ht:∀ C s2 H2 fp pins,PFs (cxC X own outs scope C s2 H2 fp pins) ifs tt)
  (he:∀ C s2 H2 fp pins,PE (cxC X own outs scope C s2 H2 fp pins) elt te)
  (I2:Inv X pins σ H2 s2) (T:Zgp X.prog X.w X.K tg J fp it tn) (st:tn 0 s2.heap) (f2:∀ b∈fp,ZcI X pins H2 b)
  (h:ZmA own.length oix g tt te J σ H2 Q)
  (hRR:∀ (C:Addr) (s':Shared) (m:Str→Option Value) (H':Hp),s'.heap.Ns C m→Inv X pins σ H' s'→H' C=none→C≠X.env.locals→X.s₀.heap.objs.size≤C →
   (∀ x c,X.env.cells.lookup x=some c→c≠C)→(∀ p∈X.pn++pins,p.1≠C)→Q (.ref s2.heap.objs.size) H'→RR (.ref s2.heap.objs.size) C (.ok .next) s') :
  wpAny (model X.prog X.w) X.A (newList []) (fun acc s₃=>wpAny (model X.prog X.w) X.A (newFunctionEnv scope X.env.globals (Za4 X.env scope.names []) [] X.env.qual none .none (some X.env)) (fun cenv s₄ =>
   codeAny (model X.prog X.w) X.A (.compStart (.ListComp elt [⟨tg,iter,ifs,0⟩] scope pos) 0 (.ref it) acc { cenv with scope:=relabel scope X.env }) (RR acc cenv.locals) s₄) E s₃) E s2:=by
 obtain ⟨n,W,w0,turn⟩:=h
 refine wpAny_newObj_type (wpAny_newFunctionEnv S.nocell (by intro y hy;simp at hy) (fun h₁ hns₁ hsb₁=>?_) S.kind)
 dsimp only at hns₁ hsb₁ ⊢
 generalize hP:s2.heap.push { cls:=.type "list",dict:=none,data:=.seq ([]:List Value).toArray }=hp at hns₁ hsb₁ ⊢
 have hC:hp.objs.size=s2.heap.objs.size+1:=by rw [← hP,Heap.size_push]
 generalize hCC:hp.objs.size=C at hns₁ hsb₁ hC ⊢
 have hDC:s2.heap.objs.size≠C:=by rw [hC];exact Nat.ne_of_lt (Nat.lt_succ_self _)
 have hDC':s2.heap.objs.size<C:=by rw [hC];exact Nat.lt_succ_self _
 have old:∀ b o,s2.heap.get? b=some o→h₁.get? b=some o:=fun b o e =>
  hsb₁.extBut b o (Nat.ne_of_lt (Nat.lt_trans (Heap.lt_size e) hDC')) (Heap.get?_push_of_some _ (hP ▸ Heap.get?_push_of_some _ e))
 have hacc:h₁.get? s2.heap.objs.size=some (Zco [] 0):=hsb₁.extBut _ _ hDC (Heap.get?_push_of_some _ (hP ▸ Heap.get?_push_size _ rfl))
 -- the cells of the closure are cells of the frame
 have hcells:∀ x∈scope.names,x.2=.free→∃ c,X.env.cells.lookup x.1=some c:=fun x hx hf=>I2.ok.has x.1 (S.free x hx hf)
 have clX:∀ x c,(Za4 X.env scope.names []).lookup x=some c→X.env.cells.lookup x=some c:=fun x c e =>
  ZgD scope.names [] hcells (fun p hp=>by cases hp) (x,c) (PySem.mem_of_lookup e)
 have clHas:∀ x,(x,NameKind.free)∈scope.names→∃ c,(Za4 X.env scope.names []).lookup x=some c:=fun x hx=>by
  obtain ⟨c,hc⟩:=Zgx (env:=X.env) scope.names [] x (.inl hx)
  exact Zhv hc
 have fpLt:∀ b∈fp,b<s2.heap.objs.size:=fun b hb=>by
  obtain ⟨o,e,_⟩:=T.obj 0 _ st b hb
  exact Heap.lt_size e
 have cLt:∀ x c,X.env.cells.lookup x=some c→c<s2.heap.objs.size:=fun x c e=>by
  obtain ⟨v,q⟩:=I2.cell x c e
  exact q.lt
 have fpStk:∀ b∈fp,b∉frs X.stack:=fun b hb z=>by
  rcases List.mem_cons.mp (I2.stkSub b z) with e | z
  ·exact (f2 b hb).2.1 e
  ·exact (f2 b hb).2.2.1 z
 have pinLt:∀ p∈X.pn++pins,p.1<s2.heap.objs.size:=fun p hp=>Heap.lt_size (I2.pin p hp).1
 have pinStk:∀ p∈X.pn++pins,p.1∉frs X.stack:=fun p hp z=>by
  rcases List.mem_cons.mp (I2.stkSub _ z) with e | z
  ·exact (I2.pin p hp).2.2.1 e
  ·exact (I2.pin p hp).2.2.2.1 z
 have fsLt:∀ b∈frs X.stack,b<s2.heap.objs.size:=fun b hb=>by
  obtain ⟨_,o,ho,_⟩:=I2.stack.mem hb
  exact Heap.lt_size ho
 let Y:Cx:=cxC X own outs scope C s2 H2 fp pins
 have okY:Y.Ok:={
  mod:=I2.ok.mod
  kind:=S.kind
  glob:=I2.ok.glob
  blt:=I2.ok.blt
  above:=Nat.le_of_lt hDC'
  inj:=fun x y c h1 h2=>I2.ok.inj x y c (clX x c h1) (clX y c h2)
  has:=fun x hx=>by
   refine clHas x ?_
   rcases hx with hx | hx
   ·exact relabel_mem (env:=X.env) (.inl rfl) S.nocell hx
   ·exact relabel_mem (env:=X.env) (.inr rfl) S.nocell hx
  cab:=fun x c hf _=>absurd (show false=true from hf) Bool.false_ne_true
  hd:=I2.ok.hd
  frames:=I2.ok.frames
  stk:=.inl rfl
  exf:=fun b hb=>⟨Nat.ne_of_lt (Nat.lt_trans (fpLt b hb) hDC'),fun x c e=>(f2 b hb).2.2.2.2.1 x c (clX x c e)⟩
  bs:=I2.bs
  bsz:=Nat.le_trans I2.ok.bsz I2.sz
  noex:=fun b o e hb=>by
   rcases (f2 b hb).2.2.2.1 with z | z
   ·exact I2.ok.noex b o e z
   ·exact absurd (Nat.lt_of_lt_of_le (Heap.lt_size e) (Nat.le_trans I2.ok.bsz z)) (Nat.lt_irrefl _)
  exfs:=fpStk
  funs:=I2.stack
  frf:=I2.stkFree }
 have hCH:∀ H':Hp,HOk X.prog X.w H' h₁→True:=fun _ _=>trivial
 have lenS:(ZaL own.length oix σ).length=Y.N.length:=by
  have e:=congrArg List.length hox
  simp only [List.length_map] at e
  show (List.replicate own.length none++oix.map _).length=(own++outs).length
  rw [List.length_append,List.length_append,List.length_replicate,List.length_map,e]
 have I4:Inv Y [(s2.heap.objs.size,Zco [] 0)] (ZaL own.length oix σ) H2 { s2 with heap:=h₁ }:={
  ok:=okY
  os:=rfl
  bare:=I2.bare
  base:=Un.kept old
  loc:=by
   refine ⟨_,hns₁,fun i x v e1 e2 e3=>?_⟩
   -- an outer name
   have hi:own.length≤i:=by
    apply Nat.le_of_not_lt
    intro hlt
    unfold ZaL at e2
    rw [List.getElem?_append_left (by rw [List.length_replicate];exact hlt),List.getElem?_replicate] at e2
    rw [if_pos hlt] at e2
    cases e2
   unfold ZaL at e2
   rw [List.getElem?_append_right (by rw [List.length_replicate];exact hi),List.length_replicate,List.getElem?_map] at e2
   have e1':outs[i-own.length]?=some x:=by
    have e1:(own++outs)[i]?=some x:=e1
    rwa [List.getElem?_append_right hi] at e1
   cases ej:oix[i-own.length]? with
   | none=>rw [ej] at e2;cases e2
   | some j =>
    rw [ej] at e2
    have e2':(σ[j]?).join=some v:=Option.some.inj e2
    have e2'':σ[j]?=some (some v):=by
     cases eσ:σ[j]? with
     | none=>rw [eσ] at e2';cases e2'
     | some z=>rw [eσ] at e2';exact congrArg some e2'
    have eN:X.N[j]?=some x:=by
     have q:=congrArg (fun l=>l[i-own.length]?) hox
     simp only [List.getElem?_map,ej,e1',Option.map_some] at q
     exact Option.some.inj q
    have hfree:scope.names.lookup x=some .free:=S.out x (List.mem_of_getElem? e1')
    have hmem:(x,NameKind.free)∈scope.names:=PySem.mem_of_lookup hfree
    have hk:X.env.scope.names.lookup x=some .cell∨X.env.scope.names.lookup x=some .free:=S.free (x,.free) hmem rfl
    obtain ⟨m,hn,hl⟩:=I2.loc
    obtain ⟨u,r,l⟩:=hl j x v eN e2'' (by rcases hk with hk | hk;exact .inr (.inl hk);exact .inr (.inr hk))
    refine ⟨u,r,.inr ⟨relabel_free (env:=X.env) hfree,?_⟩⟩
    obtain ⟨c,ec⟩:=clHas x hmem
    refine ⟨c,ec,?_⟩
    have ec':=clX x c ec
    rcases l with ⟨k,_⟩ | ⟨_,c',e',o,ho,hd⟩
    ·rcases hk with hk | hk
     ·exact absurd (k.symm.trans hk) (by decide)
     ·exact absurd (k.symm.trans hk) (by decide)
    ·rw [ec'] at e'
     cases e'
     exact ⟨o,old _ _ ho,hd⟩
  cell:=fun x c e=>by
   obtain ⟨v,o,ho,hd⟩:=I2.cell x c (clX x c e)
   exact ⟨v,o,old _ _ ho,hd⟩
  free:=I2.hok.fresh (Nat.le_of_lt hDC')
  freeC:=fun x c e=>I2.freeC x c (clX x c e)
  pin:=fun p hp=>by
   rcases List.mem_append.mp hp with hp | hp
   ·obtain ⟨e,n,_,_,d⟩:=I2.pin p hp
    exact ⟨old _ _ e,n,Nat.ne_of_lt (Nat.lt_trans (pinLt p hp) hDC'),pinStk p hp,d⟩
   ·have e:p=(s2.heap.objs.size,Zco [] 0):=by simpa using hp
    subst e
    refine ⟨hacc,I2.hok.fresh (Nat.le_refl _),hDC,fun z=>absurd (fsLt _ z) (Nat.lt_irrefl _),fun v z=>?_⟩
    have z':Data.seq _ _=Data.cell v:=z
    cases z'
  hok:=I2.hok.kept old
  len:=lenS }
 -- what stays of the iterator's records
 have fpY:∀ {H':Hp} {its:List Value} {k:Nat},(∀ b∈fp,H' b=none)→∀ b∈fp,ZcI Y [(s2.heap.objs.size,Zco its k)] H' b:=fun {H' its k} hn b hb=>by
  refine ⟨hn b hb,Nat.ne_of_lt (Nat.lt_trans (fpLt b hb) hDC'),fpStk b hb,.inl hb,fun x c e=>(f2 b hb).2.2.2.2.1 x c (clX x c e),fun p hp=>?_⟩
  rcases List.mem_append.mp hp with hp | hp
  ·exact (f2 b hb).2.2.2.2.2 p hp
  ·have e:p=(s2.heap.objs.size,Zco its k):=by simpa using hp
   subst e
   exact Nat.ne_of_gt (fpLt b hb)
 -- the end
 have fin:∀ (i:Nat) (ys:List V) (its:List Value) (k:Nat) (H':Hp) (s':Shared),Inv Y [(s2.heap.objs.size,Zco its k)] (ZaL own.length oix σ) H' s'→Vals ys its→ys.length≤sizeLine →
   Q (.ref s2.heap.objs.size) (upd H' s2.heap.objs.size (.lst ys))→RR (.ref s2.heap.objs.size) C (.ok .next) s':=fun i ys its k H' s' I' rv hz q=>by
  obtain ⟨m,hn,_⟩:=I'.loc
  obtain ⟨eD,nD,_⟩:=I'.pin (s2.heap.objs.size,Zco its k) (List.mem_append_right _ (by simp))
  have un:Un (frs X.stack) fp H2 H' s2.heap s'.heap:=I'.base
  have neD:∀ b o,s2.heap.get? b=some o→b≠s2.heap.objs.size:=fun b o e=>Nat.ne_of_lt (Heap.lt_size e)
  have neH:∀ b o,H2 b=some o→b≠s2.heap.objs.size:=fun b o e=>Nat.ne_of_lt (I2.hok.lt e)
  have un':Un (frs X.stack) fp H2 (upd H' s2.heap.objs.size (.lst ys)) s2.heap s'.heap :=
   ⟨un.keep,un.slot,fun b o e n hx=>by rw [ZG (neD b o e)];exact un.free b o e n hx,un.there,fun b xs e=>by rw [ZG (neH b _ e)];exact un.tups b xs e,
    fun b o u e=>by rw [ZG (neH b _ e)];exact un.frzs b o u e,fun b ps e=>by rw [ZG (neH b _ e)];exact un.tbls b ps e⟩
  have hok':HOk X.prog X.w (upd H' s2.heap.objs.size (.lst ys)) s'.heap:=HOk.track I'.hok nD ⟨hz,its,k,rv,eD⟩
  have IX:Inv X pins σ (upd H' s2.heap.objs.size (.lst ys)) s':=I2.call' (ch:=fp) I'.os un' hok' I'.bare fun b hb=>⟨(f2 b hb).2.2.2.1,(f2 b hb).2.1,(f2 b hb).2.2.2.2.1,(f2 b hb).2.2.2.2.2⟩
  refine hRR C s' m _ hn IX ?_ ?_ ?_ ?_ ?_ q
  ·rw [ZG (Ne.symm hDC)];exact I'.free
  ·exact Nat.ne_of_gt (Nat.lt_trans I2.lt hDC')
  ·exact Nat.le_trans I2.sz (Nat.le_of_lt hDC')
  ·exact fun x c e=>Nat.ne_of_lt (Nat.lt_trans (cLt x c e) hDC')
  ·exact fun p hp=>Nat.ne_of_lt (Nat.lt_trans (pinLt p hp) hDC')
 have loop:codeAny (model X.prog X.w) X.A (.compLoop (.ListComp elt [⟨tg,iter,ifs,0⟩] scope pos) 0 (.ref it) (.ref s2.heap.objs.size) Y.env) (RR (.ref s2.heap.objs.size) C) { s2 with heap:=h₁ }:=by
  refine codeAny_loop rfl (fun k s'=>∃ (i:Nat) (ys:List V) (its:List Value) (c:Nat) (H':Hp),Inv Y [(s2.heap.objs.size,Zco its c)] (ZaL own.length oix σ) H' s'∧Vals ys its∧tn i s'.heap∧(∀ b∈fp,H' b=none)∧W i ys H'∧k=n-i) (fun k s' hI=>?_) n
   ⟨0,[],[],0,H2,I4,.nil,T.keep 0 _ _ st fun b _ o e=>old b o e,fun b hb=>(f2 b hb).1,w0,rfl⟩
  show wpAny _ X.A ((compTurn (.ListComp elt [⟨tg,iter,ifs,0⟩] scope pos) 0 (.ref it) (.ref s2.heap.objs.size) Y.env).onRaise (fun x=>do noteFrame x Y.env;theTreesLotGoes x)) _ _ s'
  refine wpAny_noted ?_
  rw [compTurn_list]
  obtain ⟨i,ys,its,c,H',I',rv,st',fr',w',ek⟩:=hI
  rcases turn i ys H' w' with ⟨stop,hz,q⟩ | ⟨go,hin,hz,N,hN,step⟩
  ·refine wpAny_bind (wpAny_standAt (wpAny_bind (thn (T.done Y rfl rfl rfl hc i _ s' _ H' _ I' (fpY fr') st' stop) fun r s1 ⟨hr,I1⟩=>?_)))
   subst hr
   obtain ⟨_,nD,_⟩:=I1.pin (s2.heap.objs.size,Zco its c) (List.mem_append_right _ (by simp))
   exact wpAny_pure (fin i ys its c H' s1 I1 rv hz (q _ nD))
  ·refine wpAny_bind (wpAny_standAt (wpAny_bind (thn (T.item Y rfl rfl rfl hc i _ s' _ H' _ I' (fpY fr') st' go) fun r s1 ⟨u,hr,h1⟩=>?_)))
   subst hr
   refine wpAny_bind (thn h1 fun _ s5 ⟨x,H5,I5,r5,y5,st5,fr5⟩=>?_)
   have I5':=I5.pinned (fpY fr5) (T.obj _ _ st5)
   refine wpAny_bind (wpAny_noRaise (thn (hg C s2 H2 fp pins _ s5 _ H5 x u _ I5' r5 (step x H5 y5)) fun _ s6 ⟨σ6,H6,I6,dr6,q6⟩=>?_))
   refine wpAny_bind (wpAny_noRaise (thn (ht C s2 H2 fp pins _ s6 σ6 H6 _ I6 q6) fun ok s7 ⟨H7,I7,q7⟩=>?_))
   -- back to the begin of a turn
   have back:∀ {H8:Hp} {s8:Shared} {its8:List Value} {c8:Nat},Inv Y ([(s2.heap.objs.size,Zco its8 c8)]++ZdF fp s5.heap) σ6 H8 s8 →
     Inv Y [(s2.heap.objs.size,Zco its8 c8)] (ZaL own.length oix σ) H8 s8∧tn (i+1) s8.heap∧∀ b∈fp,H8 b=none:=fun {H8 s8 its8 c8} I8=>by
    refine ⟨I8.unpinned.weak ?_ fun j v e=>?_,T.keep _ _ _ st5 fun b hb o e=>(I8.pin (b,o) (List.mem_append_right _ (List.mem_append_right _ (Zdl hb e)))).1,fun b hb=>?_⟩
    ·exact lenS.trans I8.len.symm
    ·have hj:own.length≤j:=by
      apply Nat.le_of_not_lt
      intro hlt
      unfold ZaL at e
      rw [List.getElem?_append_left (by rw [List.length_replicate];exact hlt),List.getElem?_replicate] at e
      rw [if_pos hlt] at e
      cases e
     have e':=congrArg (fun l=>l[j-own.length]?) dr6
     simp only [List.getElem?_drop] at e'
     rw [show own.length+(j-own.length)=j by omega] at e'
     exact e'.trans e
    ·obtain ⟨o,e,d⟩:=T.obj _ _ st5 b hb
     exact (I8.pin (b,o) (List.mem_append_right _ (List.mem_append_right _ (Zdl hb e)))).2.1
   cases ok with
   | false =>
    obtain ⟨I8,st8,fr8⟩:=back I7
    exact wpAny_pure ⟨rfl,n-(i+1),by omega,i+1,ys,its,c,H7,I8,rv,st8,fr8,hN _ _ q7,rfl⟩
   | true =>
    refine wpAny_bind (wpAny_bind (wpAny_noRaise (thn (he C s2 H2 fp pins _ s7 σ6 H7 _ I7 q7) fun y s8 ⟨z,H8,I8,r8,w8⟩=>?_)))
    obtain ⟨eD,nD,neL,nF,dD⟩:=I8.pin (s2.heap.objs.size,Zco its c) (List.mem_append_right _ (List.mem_append_left _ (by simp)))
    have hl:=rv.length
    refine wpAny_bind (call_meets F.slot_list_append ⟨_,eD,rfl⟩ F.entry_list_append (F.args_list_append_2 _ _) (PySem.list_append _ its.toArray c y (by rw [List.size_toArray];omega)) ⟨eD,?_⟩)
    obtain ⟨n',q⟩:∃ n',(s8.heap.update s2.heap.objs.size (Obj.mapSeq (·.push y))).get? s2.heap.objs.size=some (Zco (its++[y]) n'):=by
     have q:=PySem.IsL.update eD (·.push y)
     rw [show its.toArray.push y=(its++[y]).toArray by simp] at q
     exact ⟨_,q⟩
    have I9:Inv Y (ZdF fp s5.heap) σ6 H8 { s8 with heap:=s8.heap.update s2.heap.objs.size (Obj.mapSeq (·.push y)) } :=
     (I8.pins_of fun p hp=>I8.pin p (List.mem_append_right _ (List.mem_append_right _ hp))).turned (t':=s8.toks) (it:=s2.heap.objs.size) (fun b o hb e=>(Heap.get?_update_other _ _ (Ne.symm hb)).trans e) nD hDC (.inr (Nat.le_refl _))
      (fun x c' e=>Nat.ne_of_lt (cLt x c' (clX x c' e))) fun p hp=>by
       rcases List.mem_append.mp hp with hp | hp
       ·exact Nat.ne_of_lt (pinLt p hp)
       ·exact Nat.ne_of_lt (fpLt _ (Zip hp).1)
    have I10:Inv Y ([(s2.heap.objs.size,Zco (its++[y]) n')]++ZdF fp s5.heap) σ6 H8 { s8 with heap:=s8.heap.update s2.heap.objs.size (Obj.mapSeq (·.push y)) }:=I9.pins_of fun p hp=>by
     rcases List.mem_append.mp hp with hp | hp
     ·have e:p=(s2.heap.objs.size,Zco (its++[y]) n'):=by simpa using hp
      subst e
      exact ⟨q,nD,neL,nF,fun v z=>by
       have z':Data.seq _ _=Data.cell v:=z
       cases z'⟩
     ·exact I9.pin p (List.mem_append_right _ hp)
    obtain ⟨I11,st11,fr11⟩:=back I10
    exact wpAny_pure (wpAny_pure ⟨rfl,n-(i+1),by omega,i+1,ys++[z],its++[y],_,H8,I11,rv.append (.cons r8 .nil),st11,fr11,hN _ _ w8,rfl⟩)
 exact codeAny_compStart_list loop (T.self _ 0 _ _ _ (T.keep 0 _ _ st fun b _ o e=>old b o e) loop)
section
variable {X:Cx} {tg elt iter:Expr} {ifs:List Expr} {scope:Scope} {pos:Pos} {oix:List Nat} {wi:TI} {g:TG} {tt:TT} {te:TE}
theorem Zo0 (own outs:List Str) (oix:List Nat) (S:Zag own outs scope X.env.scope) (hox:oix.map (fun j=>X.N[j]?)=outs.map some) (hc:X.calm=true) (hi:PI X tg iter wi)
  (hg:∀ C s2 H2 fp pins,PG (cxC X own outs scope C s2 H2 fp pins) tg g)
  (ht:∀ C s2 H2 fp pins,PFs (cxC X own outs scope C s2 H2 fp pins) ifs tt)
  (he:∀ C s2 H2 fp pins,PE (cxC X own outs scope C s2 H2 fp pins) elt te)
  (hs:∀ x,foldedSetIterable iter X.env x=pure x:=by intro _;rfl) :
  PE X (.ListComp elt [⟨tg,iter,ifs,0⟩] scope pos) (Zlw own.length oix wi g tt te):=by
 intro pins s σ H Q I h
 rw [eval_ListComp]
 refine wpAny_comprehension_free (use:=none) rfl hs (ZfG fun x hx hf=>I.ok.has x.1 (S.free x hx hf)) S.kind S.loc (thn (hi pins s σ H _ I h) fun xv s₁ h₁=>thn h₁ fun itv s₂ h₂=>?_)
 obtain ⟨it,fp,tn,J,H2,e,I2,T,st2,f2,turns⟩:=h₂
 subst e
 refine ZiH (RR:=fun acc C=>compPost (model X.prog X.w) X.A X.xe none (EP X pins σ Q) acc C) S hox hc hg ht he I2 T st2 f2 turns ?_
 intro C s' m H' hn I' hC hL h0 hcell hpin q
 exact ⟨m,hn,fun h' hs'=>⟨.ref _,H',I'.turned (h':=h') (t':=s'.toks) (it:=C) (fun b o hb e=>hs'.extBut b o hb e) hC hL (.inr h0) hcell hpin,rfl,q⟩⟩
theorem Zlx (own outs:List Str) (oix:List Nat) {i:Nat} {x:Str} {pos' spos:Pos} (S:Zag own outs scope X.env.scope) (hox:oix.map (fun j=>X.N[j]?)=outs.map some) (hc:X.calm=true)
  (hN:X.N.Nodup) (hix:X.N[i]?=some x) (hx:X.env.scope.names.lookup x=some .local) (hi:PI X tg iter wi)
  (hg:∀ C s2 H2 fp pins,PG (cxC X own outs scope C s2 H2 fp pins) tg g)
  (ht:∀ C s2 H2 fp pins,PFs (cxC X own outs scope C s2 H2 fp pins) ifs tt)
  (he:∀ C s2 H2 fp pins,PE (cxC X own outs scope C s2 H2 fp pins) elt te)
  (hsw:swapsWith (.ListComp elt [⟨tg,iter,ifs,0⟩] scope pos) (some (.Name x pos')) spos.line X.env=pure true:=by rfl)
  (hs:∀ x,foldedSetIterable iter X.env x=pure x:=by intro _;rfl) :
  PS X (.Assign [.Name x pos'] (.ListComp elt [⟨tg,iter,ifs,0⟩] scope pos) spos) (Zh8 (Zlw own.length oix wi g tt te) (Ze0 i)):=by
 intro pins s σ H D I h
 rw [exec_Assign_Name_used _ _ _ _ hsw]
 refine wpAny_bind (wpAny_standAt (wpAny_bind ?_))
 show wpAny _ X.A (do let _ ← comprehension (.ListComp elt [⟨tg,iter,ifs,0⟩] scope pos) scope X.env _ (newList []) false (eval iter X.env) (some (assign (.Name x pos') X.env))) _ _ s
 refine wpAny_bind (wpAny_mono (wpAny_comprehension_free (use:=some (assign (.Name x pos') X.env)) (Q:=fun _ s'=>SP X pins D .next s') rfl hs (ZfG fun y hy hf=>I.ok.has y.1 (S.free y hy hf)) S.kind S.loc
  (thn (hi pins s σ H _ I h) fun xv s₁ h₁=>thn h₁ fun itv s₂ h₂=>?_)) (fun _ s' hq=>wpAny_pure (wpAny_pure hq)) fun _ _ e=>e)
 obtain ⟨it,fp,tn,J,H2,e,I2,T,st2,f2,turns⟩:=h₂
 subst e
 refine ZiH (RR:=fun acc C=>compPost (model X.prog X.w) X.A X.xe (some (assign (.Name x pos') X.env)) (fun _ s'=>SP X pins D .next s') acc C) S hox hc hg ht he I2 T st2 f2 turns ?_
 intro C s' m H' hn I' hC hL h0 hcell hpin q
 show wpAny _ X.A (assign (.Name x pos') X.env (.ref s₂.heap.objs.size)) _ _ s'
 refine wpAny_assign_Name (Zij (v:=.ref s₂.heap.objs.size) I' hN hix (.inl hx) rfl (fun s'' I'' hsb=>?_) (.inr hx))
 obtain ⟨a,hsb,ha⟩:=hsb
 have hCa:C≠a:=by
  rcases ha with e | e
  ·rw [e];exact hL
  ·exact Ne.symm (hcell _ _ e)
 exact ⟨m,hn.sameBut hsb hCa,fun h' hs'=>⟨_,H',I''.turned (h':=h') (t':=s''.toks) (it:=C) (fun b o hb e=>hs'.extBut b o hb e) hC hL (.inr h0) hcell hpin,q⟩⟩
end
section
variable {K:PySem.W.Frag} {k:Nat} {oix:List Nat} {g:TG} {tt:TT} {te:TE} {σ:St} {H:Hp} {Q:VK}
end
def Its (x:Str):It:=⟨fun i _=>i<x.cps.size,fun i H v H'=>H'=H∧∃ c,x.cps[i]?=some c∧v=.str ⟨#[c]⟩,fun i _=>x.cps.size≤i⟩
theorem Zlu {P:Program} {w:World} {K:PySem.W.Frag} {tg:Expr} (it:Addr) (x:Str) (t:Tok):Zgp P w K tg (Its x) [it] it (fun i h=>h.IsStrIter it "str_ascii_iterator" x t i) where
 mem:=by simp
 obj:=fun i h st b hb=>by
  have e:b=it:=by simpa using hb
  subst e
  obtain ⟨o,e,c,d⟩:=st
  exact ⟨o,e,fun v z=>by rw [d] at z;cases z⟩
 keep:=fun i h h' st k=>by
  obtain ⟨o,e,r⟩:=st
  exact ⟨o,k it (by simp) o e,r⟩
 item:=by
  intro X hP hw hK hc i pins s σ H E I hf st hg
  subst hP hw hK
  obtain ⟨f0,f1,f2,f3,f4,f5⟩:=hf it (by simp)
  have hg':i<x.cps.size:=hg
  refine wpAny_pyNext_ascii_item st (c:=x.cps[i]) (by simp [hg']) fun h' st' sb=>?_
  have I1:Inv X pins σ H { s with heap:=h',toks:=s.toks+1 }:=I.turned (t':=s.toks+1) (fun b o hb e=>(sb.2 b hb).trans e) f0 f1 f3 f4 f5
  obtain ⟨o,e,c,d⟩:=id st'
  exact ⟨_,rfl,Zhr (s:={ s with heap:=h',toks:=s.toks+1 }) e c d (by decide) ⟨.str ⟨#[x.cps[i]]⟩,H,I1,⟨_,rfl⟩,⟨rfl,_,by simp [hg'],rfl⟩,st',fun b hb=>(hf b hb).1⟩⟩
 done:=by
  intro X hP hw hK hc i pins s σ H E I hf st hg
  subst hP hw hK
  obtain ⟨f0,f1,f2,f3,f4,f5⟩:=hf it (by simp)
  have hg':x.cps.size≤i:=hg
  exact wpAny_pyNext_ascii_end (I.ok.hd hc) st (by simp [hg']) fun h' eb=>⟨rfl,I.turned (t':=s.toks) (fun b o hb e=>eb b o hb e) f0 f1 f3 f4 f5⟩
 self:=fun _ _ _ _ _ st h=>wpAny_pyIter_striter_ascii st h
theorem Zmr {P:Program} {w:World} {K:PySem.W.Frag} {tg:Expr} (it:Addr) (x:Str) (t:Tok):Zgp P w K tg (Its x) [it] it (fun i h=>h.IsStrIter it "str_iterator" x t i) where
 mem:=by simp
 obj:=fun i h st b hb=>by
  have e:b=it:=by simpa using hb
  subst e
  obtain ⟨o,e,c,d⟩:=st
  exact ⟨o,e,fun v z=>by rw [d] at z;cases z⟩
 keep:=fun i h h' st k=>by
  obtain ⟨o,e,r⟩:=st
  exact ⟨o,k it (by simp) o e,r⟩
 item:=by
  intro X hP hw hK hc i pins s σ H E I hf st hg
  subst hP hw hK
  obtain ⟨f0,f1,f2,f3,f4,f5⟩:=hf it (by simp)
  have hg':i<x.cps.size:=hg
  refine wpAny_pyNext_wide_item st (c:=x.cps[i]) (by simp [hg']) fun h' st' sb=>?_
  have I1:Inv X pins σ H { s with heap:=h',toks:=s.toks+1 }:=I.turned (t':=s.toks+1) (fun b o hb e=>(sb.2 b hb).trans e) f0 f1 f3 f4 f5
  obtain ⟨o,e,c,d⟩:=id st'
  exact ⟨_,rfl,Zhr (s:={ s with heap:=h',toks:=s.toks+1 }) e c d (by decide) ⟨.str ⟨#[x.cps[i]]⟩,H,I1,⟨_,rfl⟩,⟨rfl,_,by simp [hg'],rfl⟩,st',fun b hb=>(hf b hb).1⟩⟩
 done:=by
  intro X hP hw hK hc i pins s σ H E I hf st hg
  subst hP hw hK
  obtain ⟨f0,f1,f2,f3,f4,f5⟩:=hf it (by simp)
  have hg':x.cps.size≤i:=hg
  exact wpAny_pyNext_wide_end (I.ok.hd hc) st (by simp [hg']) fun h' eb=>⟨rfl,I.turned (t':=s.toks) (fun b o hb e=>eb b o hb e) f0 f1 f3 f4 f5⟩
 self:=fun _ _ _ _ _ st h=>wpAny_pyIter_striter_wide st h
section
variable {X:Cx} {tg:Expr}
def Zst (tl:TE):TI:=fun σ H R=>tl σ H fun v H1=>∃ x,v=.str x∧R (Its x) H1
theorem ZpH {l:Expr} {tl:TE} (hl:PE X l tl):PI X tg l (Zst tl):=by
 intro pins s σ H R I h
 refine thn (hl pins s σ H _ I h) fun v s1 ⟨y,H1,I1,r1,q1⟩=>?_
 obtain ⟨x,e,q⟩:=q1
 subst e
 obtain ⟨t,rfl⟩:=r1
 have fp:∀ {o:Obj} (b:Addr),b∈[s1.heap.objs.size]→ZcI X pins H1 b:=fun {o} b hb=>by
  have e:b=s1.heap.objs.size:=by simpa using hb
  subst e
  exact I1.fpOk (Nat.le_refl _) (I1.hok.fresh (Nat.le_refl _))
 cases ha:x.cps.all (·<128)
 ·exact wpAny_pyIter_wide ha ⟨s1.heap.objs.size,[s1.heap.objs.size],_,_,H1,rfl,I1.kept (t':=s1.toks) fun b o e=>Heap.get?_push_of_some _ e,Zmr _ x t,⟨_,Heap.get?_push_size _ rfl,rfl,rfl⟩,fp (o:=default),q⟩
 ·exact wpAny_pyIter_ascii ha ⟨s1.heap.objs.size,[s1.heap.objs.size],_,_,H1,rfl,I1.kept (t':=s1.toks) fun b o e=>Heap.get?_push_of_some _ e,Zlu _ x t,⟨_,Heap.get?_push_size _ rfl,rfl,rfl⟩,fp (o:=default),q⟩
end
end L2
set_option Elab.async false
set_option linter.all false
set_option maxRecDepth 100000
set_option maxHeartbeats 4000000
namespace L2
open PySem PySem.Spec PyProof.Rows
section
variable {X:Cx}
end
section
variable {X:Cx}
def ZsJ:V→Option Int→Option Int→Hp→VK→Prop:=fun x lo hi H Q=>∃ z,x=.str z∧z.length≤sizeLine∧Q (.str (Txt.slice z lo hi)) H
theorem Zps:SlR X ZsJ:=by
 intro pins s σ H x v vl vu lo hi sl Q I rx hs pl pu h
 obtain ⟨z,rfl,hz,q⟩:=h
 obtain ⟨t,rfl⟩:=rx
 refine ⟨"str",_,PySem.F.slot_str_getitem.lookup,typeIs_str s z t,?_⟩
 cases pl with
 | none =>
  cases pu with
  | none=>exact wpAny_getItem_str_slice (l:=none) (u:=none) (st:=none) hs rfl (post_val_or_str ⟨Nat.le_trans (Txt.slice_le z _ _) hz,fun t' k=>⟨.str (Txt.slice z none none),H,I.tok _,⟨_,rfl⟩,q⟩⟩)
  | int j uj=>exact wpAny_getItem_str_slice (l:=none) (u:=some (j,uj)) (st:=none) hs rfl (post_val_or_str ⟨Nat.le_trans (Txt.slice_le z _ _) hz,fun t' k=>⟨.str (Txt.slice z none (some j)),H,I.tok _,⟨_,rfl⟩,q⟩⟩)
 | int i ui =>
  cases pu with
  | none=>exact wpAny_getItem_str_slice (l:=some (i,ui)) (u:=none) (st:=none) hs rfl (post_val_or_str ⟨Nat.le_trans (Txt.slice_le z _ _) hz,fun t' k=>⟨.str (Txt.slice z (some i) none),H,I.tok _,⟨_,rfl⟩,q⟩⟩)
  | int j uj=>exact wpAny_getItem_str_slice (l:=some (i,ui)) (u:=some (j,uj)) (st:=none) hs rfl (post_val_or_str ⟨Nat.le_trans (Txt.slice_le z _ _) hz,fun t' k=>⟨.str (Txt.slice z (some i) (some j)),H,I.tok _,⟨_,rfl⟩,q⟩⟩)
end
section
variable {X:Cx}
end
section
open PySem.SeqAt
inductive Zeq (A:Around) (s:Shared):List Value→List Value→Bool→Prop where
 | nn:Zeq A s [] [] false
 | nc {w ws}:Zeq A s [] (w::ws) true
 | cn {v vs}:Zeq A s (v::vs) [] false
 | eq {v w vs ws b}:EqAt A s v w true→Zeq A s vs ws b→Zeq A s (v::vs) (w::ws) b
 | ne {v w vs ws b}:EqAt A s v w false→(∀ (prog:Program) (wo:World) (E Q:Value→Shared→Prop),Q (.bool b) s→wpAny (model prog wo) A (richCompare .Lt v w) Q E s)→Zeq A s (v::vs) (w::ws) b
end
section
open PySem.SeqAt
open PySem.AutoSeq1 (wpAny_loadPart')
open PySem.MeetsSeq PySem.MeetsSeq2 PySem.MeetsSeq3
theorem Zke (l b:Addr) (items items2:Array Value) (n n2:Nat) (dd dd2:Option Addr) (sl sl2:Array (Option Value)) (r:Bool) :
  Meets (Builtin.«tuple.__lt__» ⟨[.ref l,.ref b],[]⟩)
   (fun A R s=>s.heap.get? l=some { cls:=.type "tuple",dict:=dd,data:=.seq items n,slots:=sl }∧s.heap.get? b=some { cls:=.type "tuple",dict:=dd2,data:=.seq items2 n2,slots:=sl2 } ∧
    Zeq A.in1 s items.toList items2.toList r∧R (.ok (.ret (.bool r))) s) :=
 .of_wp fun prog w A R s h=>by
  obtain ⟨hp,g,d,tk,os⟩:=s;obtain ⟨hl,hb,hlt,h⟩:=h
  have f2:=AutoSeq1.sub_tuple_tuple
  wp_walk using wpAny_loadPart' hl,wpAny_loadPart' hb,wpAny_forIn_list _ (fun ZE b s'=>b.1=none∧s'=⟨hp,g,d,tk,os⟩∧∃ (vs ws:List Value),ZE=vs.zip ws ∧
   Zeq A.in1 ⟨hp,g,d,tk,os⟩ vs ws r∧vs.length+items2.size=ws.length+items.size) _
  case turn =>
   rintro ⟨y,x⟩ ZE b s' ⟨hb',rfl,vs,ws,hz,hlt',hlen⟩
   cases hlt' with
   | nn=>rw [List.zip_nil_left] at hz;cases hz
   | nc=>rw [List.zip_nil_left] at hz;cases hz
   | cn=>rw [List.zip_nil_right] at hz;cases hz
   | eq he hr =>
    rw [List.zip_cons_cons] at hz
    injection hz with hyx hrest
    injection hyx with hy hx
    subst hy hx
    simp only [List.length_cons] at hlen
    refine wpAny_bind (he prog w _ _ ?_)
    wp_walk
    exact ⟨rfl,rfl,_,_,hrest,hr,by omega⟩
   | ne he hr =>
    rw [List.zip_cons_cons] at hz
    injection hz with hyx hrest
    injection hyx with hy hx
    subst hy hx
    refine wpAny_bind (he prog w _ _ ?_)
    have hri:=hr prog w
    wp_walk using hri
    exact ⟨_,rfl,by simpa using h⟩
  case fin =>
   rintro ⟨b1,b2⟩ s' ⟨hb',rfl,vs,ws,hz,hlt',hlen⟩
   simp only at hb'
   subst hb'
   have hv:r=decide (items.size<items2.size):=by
    cases hlt' with
    | nn =>
     simp only [List.length_nil] at hlen
     exact (decide_eq_false (by omega)).symm
    | nc =>
     simp only [List.length_nil,List.length_cons] at hlen
     exact (decide_eq_true (by omega)).symm
    | cn =>
     simp only [List.length_nil,List.length_cons] at hlen
     exact (decide_eq_false (by omega)).symm
    | eq _ _=>rw [List.zip_cons_cons] at hz;cases hz
    | ne _ _=>rw [List.zip_cons_cons] at hz;cases hz
   rw [hv] at h
   wp_walk
   exact ⟨_,rfl,by simpa [Builtin.Tuple.tupleCompareSizes] using h⟩
  case h =>
   exact ⟨rfl,rfl,items.toList,items2.toList,rfl,hlt,by simp;omega⟩
end
section
variable {prog:Program} {w:World} {A:Around} {E:Value→Shared→Prop} {s:Shared}
theorem Zm6 {l b:Addr} {items items2:Array Value} {r:Bool} {Q:Value→Shared→Prop} (hl:IsTup s.heap l items) (hb:IsTup s.heap b items2) (hr:Zeq A.in1 s items.toList items2.toList r)
  (hu:A.units<cLine) (h:Q (.bool r) s):wpAny (model prog w) A (richCompare .Lt (.ref l) (.ref b)) Q E s:=by
 obtain ⟨⟨cls,dd,data,sl⟩,ho,hc,n,hd⟩:=id hl
 obtain ⟨⟨cls2,dd2,data2,sl2⟩,ho2,hc2,n2,hd2⟩:=id hb
 simp only at hc hd hc2 hd2
 subst hc hd hc2 hd2
 exact richCompare_meets_room (op:=.Lt) ⟨_,ho,rfl⟩ ⟨_,ho2,rfl⟩ PySem.F.slot_tuple_lt PySem.F.entry_tuple_lt (PySem.F.args_tuple_lt_2 _ _) (Zke l b items items2 n n2 dd dd2 sl sl2 r)
  ⟨ho,ho2,hr,show Value.bool r≠Value.notImplemented∧Q (.bool r) s from ⟨(fun x=>nomatch x),h⟩⟩ hu
end
def ltS:V→V→Option Bool
 | .int i,.int j=>some (decide (i<j))
 | .str a,.str b=>some (decide (a.cps.toList<b.cps.toList))
 | _,_=>none
def ltL:List V→List V→Option Bool
 | [],[]=>some false
 | [],_::_=>some true
 | _::_,[]=>some false
 | x::xs,y::ys=>if (ZnO x&&ZnO y)=true then (if eqV x y=true then ltL xs ys else ltS x y) else none
section
variable {X:Cx}
end
theorem ZgU (x:Str):x.cps.toList.length=x.length:=by simp [Str.length]
def ZiV (K:PySem.W.Frag):Sp:=fun vs H Q _=>∃ (a:Addr) (ns:List Int),vs=[.ref a]∧SqL K H a (ns.map V.int)∧ns.length≤63∧∀ H',Q (.bl true) H'
section
variable {X:Cx}
end
section
variable {X:Cx}
end
theorem ZnK {H:Hp} {p:Addr} {o:HO} (h:H p=none):Same H (upd H p o):=fun b u e=>by rw [ZG (Zac e h)];exact e
end L2
set_option Elab.async false
set_option linter.all false
set_option maxRecDepth 100000
namespace L2
open PySem PySem.Spec PyProof.Rows
theorem ZgO {A B:Prop} (h:A):(if true=true then A else B):=(if_pos (c:=true=true) rfl:ite _ A B=A) ▸ h
theorem ZgP {A B:Prop} (h:B):(if false=true then A else B):=(if_neg (c:=false=true) Bool.false_ne_true:ite _ A B=B) ▸ h
inductive D where
 | non | bl (b:Bool) | int (i:Int) | str (x:Str) | ty (n:String) | tup (xs:List D) | lst (xs:List D) (b:Bool:=false)
def Znk:D→At
 | .int i=>.int i
 | .str x=>.str x
 | _=>.non
def Znq:D→KT
 | .tup l=>.tup (l.map Znk)
 | d=>.at (Znk d)
def Ze6:List D→List KT
 | k::_::r=>Znq k::Ze6 r
 | _=>[]
def CO (b:Bool) (xs:List D) (vs:List V):HO:=match b with
 | false=>.lst vs
 | true=>.dct (Ze6 xs) vs
def isL:HO→Bool
 | .lst _=>true
 | .dct _ _=>true
 | _=>false
theorem ZpX (b:Bool) (xs:List D) (vs:List V):isL (CO b xs vs)=true:=by cases b<;>rfl
abbrev Fb:=Addr→Prop
def KL (K:PySem.W.Frag) (a:Addr) (vs:List V):Prop:=SqL K (fun _=>none) a vs
def LstAt (K:PySem.W.Frag) (N:Fb) (H:Hp) (a:Addr) (o:HO):Prop:=(¬ N a∧Rd H a o)∨∃ vs,o=.lst vs∧KL K a vs
theorem KL.sq {K:PySem.W.Frag} {H:Hp} {a:Addr} {vs:List V} (h:KL K a vs):SqL K H a vs:=by
 rcases h with (h | ⟨o,h⟩) | h
 ·cases h
 ·cases h
 ·exact .inr h
theorem LstAt.sq {K:PySem.W.Frag} {N:Fb} {H:Hp} {a:Addr} {vs:List V} (h:LstAt K N H a (.lst vs)):SqL K H a vs:=by
 rcases h with ⟨_,h⟩ | ⟨ws,e,h⟩
 ·exact .inl h
 ·cases e;exact h.sq
theorem LstAt.of {K:PySem.W.Frag} {N:Fb} {H:Hp} {a:Addr} {o:HO} (n:¬ N a) (h:H a=some o):LstAt K N H a o:=.inl ⟨n,.inl h⟩
theorem LstAt.of_sq {K:PySem.W.Frag} {H:Hp} {a:Addr} {vs:List V} (h:SqL K H a vs):LstAt K (fun _=>False) H a (.lst vs):=by
 rcases h with h | h
 ·exact .inl ⟨id,h⟩
 ·exact .inr ⟨vs,rfl,.inr h⟩
mutual
def Den (K:PySem.W.Frag) (N:Fb) (H:Hp):D→V→Prop
 | .non,v=>v=.non
 | .bl b,v=>v=.bl b
 | .int i,v=>v=.int i
 | .str x,v=>v=.str x
 | .ty n,v=>v=.ty n
 | .tup xs,v=>∃ a vs,v=.ref a∧SqT K H a vs∧DenL K N H xs vs
 | .lst xs b,v=>∃ a vs,v=.ref a∧LstAt K N H a (CO b xs vs)∧DenL K N H xs vs
def DenL (K:PySem.W.Frag) (N:Fb) (H:Hp):List D→List V→Prop
 | [],vs=>vs=[]
 | x::xs,vs=>∃ v r,vs=v::r∧Den K N H x v∧DenL K N H xs r
end
structure Step (M N N':Fb) (H H':Hp):Prop where
 kp:∀ a o,H a=some o→(¬ N a∨M a∨isL o=false)→H' a=some o
 nw:∀ a,N' a→N a∨H a=none
theorem Step.trans {M N N1 N2:Fb} {H H1 H2:Hp} (a:Step M N N1 H H1) (b:Step M N1 N2 H1 H2):Step M N N2 H H2 where
 kp:=fun c o h z=>by
  have h1:=a.kp c o h z
  refine b.kp c o h1 ?_
  rcases z with z | z | z
  ·refine .inl fun n1=>?_
   rcases a.nw c n1 with q | q
   ·exact z q
   ·rw [h] at q;cases q
  ·exact .inr (.inl z)
  ·exact .inr (.inr z)
 nw:=fun c n2=>by
  rcases b.nw c n2 with q | q
  ·exact a.nw c q
  ·cases e:H c with
   | none=>exact .inr rfl
   | some o =>
    refine .inl (Classical.byContradiction fun z=>?_)
    rw [a.kp c o e (.inl z)] at q
    cases q
theorem Step.of_same {M N:Fb} {H H':Hp} (s:Same H H'):Step M N N H H':=⟨fun a o h _=>s a o h,fun a h=>.inl h⟩
theorem Step.refl {M N:Fb} {H:Hp}:Step M N N H H:=Step.of_same (Same.refl H)
theorem Rd.step {M N N':Fb} {H H':Hp} {a:Addr} {u:HO} (s:Step M N N' H H') (h:Rd H a u) (z:¬ N a∨M a∨isL u=false):Rd H' a u:=by
 rcases h with h | ⟨o,h⟩
 ·exact .inl (s.kp a u h z)
 ·exact .inr ⟨o,s.kp a _ h (.inr (.inr rfl))⟩
theorem Rd.same {H H':Hp} {a:Addr} {u:HO} (s:Same H H') (h:Rd H a u):Rd H' a u:=by
 rcases h with h | ⟨o,h⟩
 ·exact .inl (s a u h)
 ·exact .inr ⟨o,s a _ h⟩
theorem SqT.step {K:PySem.W.Frag} {M N N':Fb} {H H':Hp} {a:Addr} {xs:List V} (s:Step M N N' H H') (h:SqT K H a xs):SqT K H' a xs:=by
 rcases h with h | h
 ·exact .inl (h.step s (.inr (.inr rfl)))
 ·exact .inr h
theorem SqT.same {K:PySem.W.Frag} {H H':Hp} {a:Addr} {xs:List V} (s:Same H H') (h:SqT K H a xs):SqT K H' a xs:=SqT.step (M:=fun _=>False) (N:=fun _=>False) (Step.of_same s) h
theorem Rd.has {H:Hp} {a:Addr} {u:HO} (h:Rd H a u):H a≠none:=by
 rcases h with h | ⟨o,h⟩<;>rw [h]<;>exact fun e=>nomatch e
mutual
theorem Den.step {K:PySem.W.Frag} {M N N':Fb} {H H':Hp} (s:Step M N N' H H'):∀ (d:D) (v:V),Den K N H d v→Den K N' H' d v
 | .non,_,h=>h
 | .bl _,_,h=>h
 | .int _,_,h=>h
 | .str _,_,h=>h
 | .ty _,_,h=>h
 | .tup xs,v,h=>by
  simp only [Den] at h ⊢
  obtain ⟨a,vs,e,q,r⟩:=h
  exact ⟨a,vs,e,q.step s,DenL.step s xs vs r⟩
 | .lst xs fl,v,h=>by
  simp only [Den] at h ⊢
  obtain ⟨a,vs,e,q,r⟩:=h
  refine ⟨a,vs,e,?_,DenL.step s xs vs r⟩
  rcases q with ⟨n,q⟩ | q
  ·refine .inl ⟨fun n'=>?_,q.step s (.inl n)⟩
   rcases s.nw a n' with z | z
   ·exact n z
   ·exact q.has z
  ·exact .inr q
theorem DenL.step {K:PySem.W.Frag} {M N N':Fb} {H H':Hp} (s:Step M N N' H H'):∀ (xs:List D) (vs:List V),DenL K N H xs vs→DenL K N' H' xs vs
 | [],_,h=>h
 | x::xs,vs,h=>by
  simp only [DenL] at h ⊢
  obtain ⟨v,r,e,q,t⟩:=h
  exact ⟨v,r,e,Den.step s x v q,DenL.step s xs r t⟩
end
section
variable {K:PySem.W.Frag} {M N N':Fb} {H H':Hp} {d:D} {v:V} {xs ys:List D} {vs ws:List V} {a:Addr}
theorem Den.same (h:Den K N H d v) (s:Same H H'):Den K N H' d v:=Den.step (M:=N) (Step.of_same s) d v h
theorem DenL.same (h:DenL K N H xs vs) (s:Same H H'):DenL K N H' xs vs:=DenL.step (M:=N) (Step.of_same s) xs vs h
theorem Den.nw (h:Den K N H d v) (z:∀ a,N' a→N a∨H a=none):Den K N' H d v:=Den.step (M:=N) (H':=H) ⟨fun _ _ h _=>h,z⟩ d v h
theorem DenL.nw (h:DenL K N H xs vs) (z:∀ a,N' a→N a∨H a=none):DenL K N' H xs vs:=DenL.step (M:=N) (H':=H) ⟨fun _ _ h _=>h,z⟩ xs vs h
theorem DenL.length:∀ {xs:List D} {vs:List V},DenL K N H xs vs→xs.length=vs.length
 | [],_,h=>by simp only [DenL] at h;subst h;rfl
 | _::xs,_,h=>by simp only [DenL] at h;obtain ⟨v,r,e,_,t⟩:=h;subst e;simp [DenL.length t]
theorem DenL.get:∀ {xs:List D} {vs:List V} {i:Nat} {d:D},DenL K N H xs vs→xs[i]?=some d→∃ v,vs[i]?=some v∧Den K N H d v
 | [],_,i,d,_,e=>by simp at e
 | x::xs,_,0,d,h,e=>by
  simp only [DenL] at h;obtain ⟨v,r,e1,q,_⟩:=h;subst e1
  simp at e;subst e;exact ⟨v,rfl,q⟩
 | x::xs,_,i+1,d,h,e=>by
  simp only [DenL] at h;obtain ⟨v,r,e1,_,t⟩:=h;subst e1
  obtain ⟨w,h1,h2⟩:=DenL.get (i:=i) t (by simpa using e)
  exact ⟨w,by simpa using h1,h2⟩
theorem DenL.get':∀ {xs:List D} {vs:List V} {i:Nat} {v:V},DenL K N H xs vs→vs[i]?=some v→∃ d,xs[i]?=some d∧Den K N H d v:=by
 intro xs vs i v h e
 have hl:=h.length
 have hi:i<vs.length:=(List.getElem?_eq_some_iff.mp e).1
 have hx:xs[i]?=some xs[i]:=List.getElem?_eq_getElem (by omega)
 obtain ⟨w,h1,h2⟩:=h.get hx
 rw [e] at h1;cases h1
 exact ⟨_,hx,h2⟩
theorem DenL.append:∀ {xs ys:List D} {vs ws:List V},DenL K N H xs vs→DenL K N H ys ws→DenL K N H (xs++ys) (vs++ws)
 | [],_,_,_,h,h'=>by simp only [DenL] at h;subst h;exact h'
 | x::xs,ys,_,ws,h,h'=>by
  simp only [DenL] at h;obtain ⟨v,r,e,q,t⟩:=h;subst e
  simp only [List.cons_append,DenL]
  exact ⟨v,r++ws,rfl,q,DenL.append t h'⟩
theorem DenL.nil:DenL K N H [] []:=by simp only [DenL]
theorem DenL.cons (h:Den K N H d v) (t:DenL K N H xs vs):DenL K N H (d::xs) (v::vs):=by simp only [DenL];exact ⟨v,vs,rfl,h,t⟩
theorem DenL.take:∀ {xs:List D} {vs:List V} (n:Nat),DenL K N H xs vs→DenL K N H (xs.take n) (vs.take n)
 | _,_,0,_=>by simpa using DenL.nil
 | [],_,n+1,h=>by simp only [DenL] at h;subst h;simpa using DenL.nil
 | x::xs,_,n+1,h=>by
  simp only [DenL] at h;obtain ⟨v,r,e,q,t⟩:=h;subst e
  simpa using DenL.cons q (DenL.take n t)
theorem DenL.drop:∀ {xs:List D} {vs:List V} (n:Nat),DenL K N H xs vs→DenL K N H (xs.drop n) (vs.drop n)
 | _,_,0,h=>by simpa using h
 | [],_,n+1,h=>by simp only [DenL] at h;subst h;simpa using DenL.nil
 | x::xs,_,n+1,h=>by
  simp only [DenL] at h;obtain ⟨v,r,e,q,t⟩:=h;subst e
  simpa using DenL.drop n t
theorem DenL.reverse:∀ {xs:List D} {vs:List V},DenL K N H xs vs→DenL K N H xs.reverse vs.reverse
 | [],_,h=>by simp only [DenL] at h;subst h;simpa using DenL.nil
 | x::xs,_,h=>by
  simp only [DenL] at h;obtain ⟨v,r,e,q,t⟩:=h;subst e
  simpa using DenL.append (DenL.reverse t) (DenL.cons q DenL.nil)
theorem DenL.set:∀ {xs:List D} {vs:List V} (i:Nat),DenL K N H xs vs→Den K N H d v→DenL K N H (xs.set i d) (vs.set i v)
 | [],_,_,h,_=>by simp only [DenL] at h;subst h;simpa using DenL.nil
 | x::xs,_,0,h,q=>by
  simp only [DenL] at h;obtain ⟨v,r,e,_,t⟩:=h;subst e
  simpa using DenL.cons q t
 | x::xs,_,i+1,h,q=>by
  simp only [DenL] at h;obtain ⟨v,r,e,q',t⟩:=h;subst e
  simpa using DenL.cons q' (DenL.set i t q)
theorem DenL.ints:∀ (ns:List Int),DenL K N H (ns.map D.int) (ns.map V.int)
 | []=>DenL.nil
 | n::ns=>DenL.cons (by simp only [Den]) (DenL.ints ns)
end
inductive Sl where
 | no | val (d:D) | own (xs:List D) (b:Bool:=false) | lent (xs:List D) (b:Bool:=false) | exc (c:Str)
def XAt (e C:Addr) (h:Heap):Prop:=∃ o vs,h.get? e=some o∧o.cls=.ref C∧o.data=.fields vs∧vs[2]?=some .none
abbrev VE:=List Sl
def Nf (M:Fb) (ρ:VE) (σ:St):Fb:=fun a=>M a∨∃ (i:Nat) (xs:List D) (b:Bool),ρ[i]?=some (Sl.own xs b)∧σ[i]?=some (some (V.ref a))
def ZqK (K:PySem.W.Frag) (M N:Fb) (H0 H:Hp):Sl→Option V→Prop
 | .no,_=>True
 | .val d,o=>∃ v,o=some v∧Den K N H d v
 | .own xs b,o=>∃ a vs,o=some (.ref a)∧H0 a=none∧¬ M a∧H a=some (CO b xs vs)∧DenL K N H xs vs
 | .lent xs b,o=>∃ a vs,o=some (.ref a)∧M a∧Rd H a (CO b xs vs)∧DenL K N H xs vs
 | .exc c,o=>∃ a C,o=some (.ref a)∧PySem.W.nsIn K mainGlobals c=some (some (.ref C))∧H a=some (.ext (XAt a C))
structure Rel (K:PySem.W.Frag) (M:Fb) (H0:Hp) (ρ:VE) (σ:St) (H:Hp):Prop where
 len:ρ.length=σ.length
 same:Same H0 H
 mh:∀ a,M a→H a≠none
 slot:∀ (i:Nat) (s:Sl),ρ[i]?=some s→ZqK K M (Nf M ρ σ) H0 H s (σ[i]?.join)
 inj:∀ (i j:Nat) (xs ys:List D) (b b':Bool) (a:Addr),ρ[i]?=some (Sl.own xs b)→ρ[j]?=some (Sl.own ys b')→σ[i]?=some (some (V.ref a))→σ[j]?=some (some (V.ref a))→i=j
section
variable {K:PySem.W.Frag} {M N:Fb} {H0 H H':Hp} {ρ:VE} {σ:St}
theorem Rel.nh (R:Rel K M H0 ρ σ H):∀ a,Nf M ρ σ a→H a≠none:=by
 rintro a (h | ⟨i,xs,fl,h1,h2⟩)
 ·exact R.mh a h
 ·obtain ⟨b,vs,e,_,_,q,_⟩:=R.slot i _ h1
  rw [h2] at e
  have e':b=a:=by simpa using e.symm
  rw [← e',q];exact fun z=>nomatch z
theorem Rel.st (R:Rel K M H0 ρ σ H) (s:Same H H'):Rel K M H0 ρ σ H' where
 len:=R.len
 same:=R.same.trans s
 mh:=fun a h z=>R.mh a h (s.free z)
 slot:=fun i sl e=>by
  have q:=R.slot i sl e
  cases sl with
  | no=>trivial
  | val d=>obtain ⟨v,e,h⟩:=q;exact ⟨v,e,h.same s⟩
  | own xs fl=>obtain ⟨a,vs,e,h1,h2,h3,h4⟩:=q;exact ⟨a,vs,e,h1,h2,s _ _ h3,h4.same s⟩
  | lent xs fl=>obtain ⟨a,vs,e,h1,h2,h3⟩:=q;exact ⟨a,vs,e,h1,h2.same s,h3.same s⟩
  | exc c=>obtain ⟨a,C,e,h1,h2⟩:=q;exact ⟨a,C,e,h1,s _ _ h2⟩
 inj:=R.inj
theorem Rel.fresh (R:Rel K M H0 ρ σ H) {p:Addr} (h:H p=none):¬ Nf M ρ σ p:=fun n=>R.nh p n h
end
def tD (K:PySem.W.Frag) (M:Fb) (H0:Hp) (f:VE→Option D):TE:=fun σ H Q=>∃ ρ d,Rel K M H0 ρ σ H∧f ρ=some d∧∀ v H',Same H H'→Den K (Nf M ρ σ) H' d v→Q v H'
def DenP (K:PySem.W.Frag) (N:Fb) (H:Hp) (d:D) (v:V):Prop:=match d with
 | .lst xs=>∃ a vs,v=.ref a∧SqL K H a vs∧DenL K N H xs vs
 | .lst xs true=>∃ a vs,v=.ref a∧Rd H a (.dct (Ze6 xs) vs)∧DenL K N H xs vs
 | d=>Den K N H d v
theorem Den.p {K:PySem.W.Frag} {N:Fb} {H:Hp} {d:D} {v:V} (h:Den K N H d v):DenP K N H d v:=by
 cases d with
 | lst xs fl =>
  simp only [Den] at h
  obtain ⟨a,vs,e,q,r⟩:=h
  cases fl with
  | false=>exact ⟨a,vs,e,LstAt.sq q,r⟩
  | true =>
   rcases q with ⟨_,q⟩ | ⟨ws,z,_⟩
   ·exact ⟨a,vs,e,q,r⟩
   ·cases z
 | _=>exact h
theorem DenP.same {K:PySem.W.Frag} {N:Fb} {H H':Hp} {d:D} {v:V} (h:DenP K N H d v) (s:Same H H'):DenP K N H' d v:=by
 cases d with
 | lst xs fl =>
  cases fl with
  | false=>obtain ⟨a,vs,e,q,r⟩:=h;exact ⟨a,vs,e,s.seq q,r.same s⟩
  | true=>obtain ⟨a,vs,e,q,r⟩:=h;exact ⟨a,vs,e,q.same s,r.same s⟩
 | _=>exact Den.same h s
theorem Zh5 {K:PySem.W.Frag} {N:Fb} {H:Hp} {xs:List D} {vs:List V} {fl:Bool} {a:Addr} (h:Rd H a (CO fl xs vs)) (r:DenL K N H xs vs):DenP K N H (.lst xs fl) (.ref a):=by
 cases fl with
 | false=>exact ⟨a,vs,rfl,.inl h,r⟩
 | true=>exact ⟨a,vs,rfl,h,r⟩
def tP (K:PySem.W.Frag) (M:Fb) (H0:Hp) (f:VE→Option D):TE:=fun σ H Q=>∃ ρ d,Rel K M H0 ρ σ H∧f ρ=some d∧∀ v H',Same H H'→DenP K (Nf M ρ σ) H' d v→Q v H'
def tFb (fl:Bool) (K:PySem.W.Frag) (M:Fb) (H0:Hp) (f:VE→Option (List D)):TE:=fun σ H Q=>∃ ρ xs,Rel K M H0 ρ σ H∧f ρ=some xs ∧
 ∀ a vs H',Same H H'→H a=none→H' a=some (CO fl xs vs)→DenL K (fun b=>Nf M ρ σ b∨b=a) H' xs vs→Q (.ref a) H'
@[reducible] def tF (K:PySem.W.Frag) (M:Fb) (H0:Hp) (f:VE→Option (List D)):TE:=tFb false K M H0 f
def tB' (K:PySem.W.Frag) (M:Fb) (H0:Hp) (f:VE→Option Bool):TT:=fun σ H Q=>∃ ρ b,Rel K M H0 ρ σ H∧f ρ=some b∧∀ H',Same H H'→Q b H'
structure JE (X:Cx) (e:Expr) (t:TE):Prop where h:PE X e t
structure JT (X:Cx) (e:Expr) (t:TT):Prop where h:PT X e t
structure JW (X:Cx) (e:Expr) (t:TT):Prop where h:PW X e t
structure JA (X:Cx) (e:List Expr) (t:TA):Prop where h:PA X e t
structure JS (X:Cx) (e:Stmt) (t:TS):Prop where h:PS X e t
structure JB (X:Cx) (e:List Stmt) (t:TS):Prop where h:PSs X e t
structure JI (X:Cx) (tg e:Expr) (t:TI):Prop where h:PI X tg e t
structure JG (X:Cx) (e:Expr) (t:TG):Prop where h:PG X e t
structure JK (X:Cx) (e:List Expr) (t:TGs):Prop where h:PGs X e t
structure JO (X:Cx) (e:Option Expr) (t:TO):Prop where h:PO X e t
structure JF (X:Cx) (e:List Expr) (t:TT):Prop where h:PFs X e t
theorem PE.mono {X:Cx} {e:Expr} {t t':TE} (h:PE X e t) (m:∀ σ H Q,t' σ H Q→t σ H Q):PE X e t':=fun pins s σ H Q I q=>h pins s σ H Q I (m σ H Q q)
theorem PT.mono {X:Cx} {e:Expr} {t t':TT} (h:PT X e t) (m:∀ σ H Q,t' σ H Q→t σ H Q):PT X e t':=fun pins s σ H Q I q=>h pins s σ H Q I (m σ H Q q)
theorem PW.mono {X:Cx} {e:Expr} {t t':TT} (h:PW X e t) (m:∀ σ H Q,t' σ H Q→t σ H Q):PW X e t':=fun wh pins s σ H Q I q=>h wh pins s σ H Q I (m σ H Q q)
theorem PA.mono {X:Cx} {e:List Expr} {t t':TA} (h:PA X e t) (m:∀ σ H Q,t' σ H Q→t σ H Q):PA X e t':=fun pos pins s σ H Q I q=>h pos pins s σ H Q I (m σ H Q q)
theorem PS.mono {X:Cx} {e:Stmt} {t t':TS} (h:PS X e t) (m:∀ D σ H,t' D σ H→t D σ H):PS X e t':=fun pins s σ H D I q=>h pins s σ H D I (m D σ H q)
theorem PSs.mono {X:Cx} {e:List Stmt} {t t':TS} (h:PSs X e t) (m:∀ D σ H,t' D σ H→t D σ H):PSs X e t':=fun pins s σ H D I q=>h pins s σ H D I (m D σ H q)
section
variable {X:Cx} {K:PySem.W.Frag} {M:Fb} {H0:Hp} {e a b:Expr} {f g:VE→Option D} {pos:Pos}
theorem PE.p (h:PE X e (tD K M H0 f)):PE X e (tP K M H0 f):=h.mono fun σ H Q ⟨ρ,d,R,e,q⟩=>⟨ρ,d,R,e,fun v H' s z=>q v H' s z.p⟩
theorem j_p (h:JE X e (tD K M H0 f)):JE X e (tP K M H0 f):=⟨PE.p h.h⟩
@[simp] def Zw (o:Option (List D)):Option D:=o.map D.lst
@[simp] def Zt6 (o:Option (List D)):Option D:=o.map fun l=>D.lst l true
theorem PE.fd {f:VE→Option (List D)} (h:PE X e (tF K M H0 f)):PE X e (tD K M H0 fun ρ=>Zw (f ρ)):=h.mono fun σ H Q ⟨ρ,d,R,e,q⟩=>by
 try dsimp only at e q
 cases hf:f ρ with
 | none=>rw [hf] at e;cases e
 | some xs =>
  rw [hf] at e
  cases e
  refine ⟨ρ,xs,R,hf,fun a vs H' s z1 z2 z3=>q _ _ s ?_⟩
  simp only [Den]
  refine ⟨a,vs,rfl,.of (R.fresh z1) z2,z3.nw fun b hb=>.inl (.inl hb)⟩
theorem Zcm {f:VE→Option (List D)} (h:JE X e (tF K M H0 f)):JE X e (tD K M H0 fun ρ=>Zw (f ρ)):=⟨PE.fd h.h⟩
@[simp] def rdV (ρ:VE) (i:Nat):Option D:=match ρ[i]? with
  | some (.val d)=>some d
  | _=>none
@[simp] def rdP (ρ:VE) (i:Nat):Option D:=match ρ[i]? with
  | some (.val d)=>some d
  | some (.own xs b)=>some (.lst xs b)
  | some (.lent xs b)=>some (.lst xs b)
  | _=>none
theorem Zm9 {ρ:VE} {i:Nat} {d:D} (h:rdV ρ i=some d):ρ[i]?=some (.val d):=by
 unfold rdV at h
 split at h
 ·cases h;assumption
 ·cases h
theorem ZrE {i:Nat} {x:Str} (hN:X.N[i]?=some x) (hv:Vis X.env.scope x) (hd:(x==("__debug__":Str))=false:=by decide) (hcd:(x==("__classdict__":Str))=false:=by decide):PE X (.Name x pos) (tD K M H0 fun ρ=>rdV ρ i) :=
 (Zcb hN hv hd hcd).mono fun σ H Q ⟨ρ,d,R,e,q⟩=>by
  try dsimp only at e q
  obtain ⟨v,e1,h⟩:=R.slot i _ (Zm9 e)
  refine ⟨v,?_,q v H (Same.refl H) h⟩
  cases z:σ[i]? with
  | none=>rw [z] at e1;cases e1
  | some o=>rw [z] at e1;cases e1;rfl
theorem Zq5 {i:Nat} {x:Str} (hN:X.N[i]?=some x) (hv:Vis X.env.scope x) (hd:(x==("__debug__":Str))=false:=by decide) (hcd:(x==("__classdict__":Str))=false:=by decide):PE X (.Name x pos) (tP K M H0 fun ρ=>rdP ρ i) :=
 (Zcb hN hv hd hcd).mono fun σ H Q ⟨ρ,d,R,e,q⟩=>by
  try dsimp only at e q
  have fin:∀ v,σ[i]?.join=some v→DenP K (Nf M ρ σ) H d v→∃ v,σ[i]?=some (some v)∧Q v H:=fun v e1 h=>by
   refine ⟨v,?_,q v H (Same.refl H) h⟩
   cases z:σ[i]? with
   | none=>rw [z] at e1;cases e1
   | some o=>rw [z] at e1;cases e1;rfl
  unfold rdP at e
  split at e
  ·next h=>cases e;obtain ⟨v,e1,h⟩:=R.slot i _ h;exact fin v e1 h.p
  ·next h=>cases e;obtain ⟨a,vs,e1,_,_,h3,h4⟩:=R.slot i _ h;exact fin _ e1 (Zh5 (.inl h3) h4)
  ·next h=>cases e;obtain ⟨a,vs,e1,_,h3,h4⟩:=R.slot i _ h;exact fin _ e1 (Zh5 h3 h4)
  ·cases e
theorem Zi5 {d:D} {v:V} {e:Expr} (h:PE X e (tC v)) (hd:∀ N H,Den K N H d v):PE X e (tD K M H0 fun _=>some d) :=
 h.mono fun σ H Q ⟨ρ,d',R,e,q⟩=>by (try dsimp only at e q);cases e;exact q v H (Same.refl H) (hd _ _)
theorem Zq7 {i j pos}:PE X (.Constant (.int i) j pos) (tD K M H0 fun _=>some (.int i)):=Zi5 Zqa fun _ _=>by simp only [Den]
theorem Zg {i j pos}:JE X (.Constant (.int i) j pos) (tD K M H0 fun _=>some (.int i)):=⟨Zq7 ⟩
theorem Zsc {i j pos}:PE X (.Constant (.bool i) j pos) (tD K M H0 fun _=>some (.bl i)):=Zi5 Zsg fun _ _=>by simp only [Den]
theorem ZbX {i j pos}:JE X (.Constant (.bool i) j pos) (tD K M H0 fun _=>some (.bl i)):=⟨Zsc ⟩
theorem Zqy {j pos}:PE X (.Constant .none j pos) (tD K M H0 fun _=>some .non):=Zi5 Zqz fun _ _=>by simp only [Den]
theorem ZcP {j pos}:JE X (.Constant .none j pos) (tD K M H0 fun _=>some .non):=⟨Zqy ⟩
theorem ZqG {i j pos}:PE X (.Constant (.str i) j pos) (tD K M H0 fun _=>some (.str i)):=Zi5 Zqh fun _ _=>by simp only [Den]
theorem Zhj {i j pos}:JE X (.Constant (.str i) j pos) (tD K M H0 fun _=>some (.str i)):=⟨ZqG ⟩
def R2D (K:PySem.W.Frag) (r:R2) (F:D→D→Option D):Prop:=∀ (N:Fb) (H:Hp) (x y:V) (d1 d2 d:D) (Q:VK),(∀ a,N a→H a≠none)→DenP K N H d1 x→DenP K N H d2 y→F d1 d2=some d →
 (∀ v H',Same H H'→Den K N H' d v→Q v H')→r x y H Q
@[simp] def Zd (F:D→D→Option D) (f g:VE→Option D):VE→Option D:=fun ρ=>(f ρ).bind fun x=>(g ρ).bind fun y=>F x y
theorem Znp {F:D→D→Option D} {f g:VE→Option D} {ρ:VE} {d:D} (h:Zd F f g ρ=some d):∃ x y,f ρ=some x∧g ρ=some y∧F x y=some d:=by
 unfold Zd at h
 cases hf:f ρ with
 | none=>rw [hf] at h;cases h
 | some x =>
  cases hg:g ρ with
  | none=>rw [hf,hg] at h;cases h
  | some y=>rw [hf,hg] at h;exact ⟨x,y,rfl,rfl,h⟩
theorem ZiW {r:R2} {F:D→D→Option D} (hr:R2D K r F) {σ:St} {H:Hp} {Q:VK} (h:tD K M H0 (Zd F f g) σ H Q):tOp r (tP K M H0 f) (tP K M H0 g) σ H Q:=by
 obtain ⟨ρ,d,R,e,q⟩:=h
 try dsimp only at e q
 obtain ⟨x,y,e1,e2,e3⟩:=Znp e
 refine ⟨ρ,x,R,e1,fun v H1 s1 h1=>⟨ρ,y,R.st s1,e2,fun u H2 s2 h2=>?_⟩⟩
 exact hr (Nf M ρ σ) H2 v u x y d Q ((R.st s1).st s2).nh (h1.same s2) h2 e3 fun w H3 s3 h3=>q w H3 ((s1.trans s2).trans s3) h3
theorem ZeQ {op:Operator} {r:R2} {F:D→D→Option D} (ho:OpR X (binaryOp op) r) (hr:R2D K r F) (ha:PE X a (tP K M H0 f)) (hb:PE X b (tP K M H0 g)):PE X (.BinOp a op b pos) (tD K M H0 (Zd F f g)) :=
 (Zsf ho ha hb).mono fun _ _ _ h=>ZiW hr h
theorem ZjK {op:CmpOp} {r:R2} {F:D→D→Option D} (ho:OpR X (compareOp op) r) (hr:R2D K r F) (ha:PE X a (tP K M H0 f)) (hb:PE X b (tP K M H0 g)) (hm:behindInMarks op b=false):PE X (.Compare a [op] [b] pos) (tD K M H0 (Zd F f g)) :=
 (ZoF ho ha hb hm).mono fun _ _ _ h=>ZiW hr h
theorem ZnV {r:R2} {F:D→D→Option D} (ho:IxR X r) (hr:R2D K r F) (ha:PE X a (tP K M H0 f)) (hb:PE X b (tP K M H0 g)) (hs:Zdm b):PE X (.Subscript a b pos) (tD K M H0 (Zd F f g)) :=
 (Zsd ho ha hb hs).mono fun _ _ _ h=>ZiW hr h
@[simp] def orO {α:Type} (a b:Option α):Option α:=match a with
  | some x=>some x
  | none=>b
theorem R2D.or {r r':R2} {F F':D→D→Option D} (h:R2D K r F) (h':R2D K r' F'):R2D K (fun x y H Q=>r x y H Q∨r' x y H Q) (fun x y=>orO (F x y) (F' x y)):=by
 intro N H x y d1 d2 d Q nh h1 h2 e q
 cases hF:F d1 d2 with
 | some z=>simp only [hF,orO] at e;cases e;exact .inl (h N H x y d1 d2 d Q nh h1 h2 hF q)
 | none=>simp only [hF,orO] at e;exact .inr (h' N H x y d1 d2 d Q nh h1 h2 e q)
@[simp] def asB:Option D→Option Bool
  | some (.bl b)=>some b
  | _=>none
theorem Ze1 {o:Option D} {b:Bool} (h:asB o=some b):o=some (.bl b):=by
 unfold asB at h
 split at h
 ·cases h;rfl
 ·cases h
theorem Zpk {t:TE} {σ:St} {H:Hp} {Q:Bool→Hp→Prop} (ht:∀ σ H Q,tD K M H0 f σ H Q→t σ H Q) (h:tB' K M H0 (fun ρ=>asB (f ρ)) σ H Q):tB t σ H Q:=by
 obtain ⟨ρ,b,R,e,q⟩:=h
 try dsimp only at e q
 refine ht σ H _ ⟨ρ,.bl b,R,Ze1 e,fun v H' s hv=>?_⟩
 simp only [Den] at hv
 exact ⟨b,hv,q H' s⟩
theorem ZdX {op:CmpOp} {r:R2} {F:D→D→Option D} (ho:OpR X (compareOp op) r) (hr:R2D K r F) (ha:PE X a (tP K M H0 f)) (hb:PE X b (tP K M H0 g)) (hm:behindInMarks op b=false):PT X (.Compare a [op] [b] pos) (tB' K M H0 fun ρ=>asB (Zd F f g ρ)) :=
 (Zpf ho ha hb hm).mono fun _ _ _ q=>Zpk (t:=tOp r (tP K M H0 f) (tP K M H0 g)) (fun _ _ _ z=>ZiW hr z) q
@[simp] def ZaX (o:Option Bool):Option Bool:=o.map (!·)
@[simp] def Zbm (o p:Option Bool):Option Bool:=match o with
  | some true=>p
  | some false=>some false
  | none=>none
@[simp] def orB (o p:Option Bool):Option Bool:=match o with
  | some true=>some true
  | some false=>p
  | none=>none
section
variable {c c':VE→Option Bool} {ZE:List Expr}
theorem ZqO (h:PT X a (tB' K M H0 c)):PT X (.UnaryOp .Not a pos) (tB' K M H0 fun ρ=>ZaX (c ρ)):=(ZrC h).mono fun σ H Q ⟨ρ,b,R,e,q⟩=>by
 try dsimp only at e q
 cases hc:c ρ with
 | none=>rw [hc] at e;cases e
 | some k=>rw [hc] at e;cases e;exact ⟨ρ,k,R,hc,q⟩
theorem Zcl (h:JT X a (tB' K M H0 c)):JT X (.UnaryOp .Not a pos) (tB' K M H0 fun ρ=>ZaX (c ρ)):=⟨ZqO h.h⟩
theorem Zpc (h:PT X a (tB' K M H0 c)):PW X (.BoolOp .And [a] pos) (tB' K M H0 c):=Zo1 h
theorem Zeg (h:JT X a (tB' K M H0 c)):JW X (.BoolOp .And [a] pos) (tB' K M H0 c):=⟨Zpc h.h⟩
theorem ZpI (h:PT X a (tB' K M H0 c)):PW X (.BoolOp .Or [a] pos) (tB' K M H0 c):=ZqQ h
theorem Zdt (h:JT X a (tB' K M H0 c)):JW X (.BoolOp .Or [a] pos) (tB' K M H0 c):=⟨ZpI h.h⟩
theorem Zrb {σ:St} {H:Hp} {Q:Bool→Hp→Prop} (h:tB' K M H0 (fun ρ=>Zbm (c ρ) (c' ρ)) σ H Q):Zqk (tB' K M H0 c) (tB' K M H0 c') σ H Q:=by
 obtain ⟨ρ,b,R,e,q⟩:=h
 try dsimp only at e q
 cases hc:c ρ with
 | none=>rw [hc] at e;cases e
 | some k =>
  cases k with
  | true=>rw [hc] at e;exact ⟨ρ,true,R,hc,fun H1 s=>by refine ZgO ?_;exact ⟨ρ,b,R.st s,e,fun H2 s2=>q H2 (s.trans s2)⟩⟩
  | false=>rw [hc] at e;cases e;exact ⟨ρ,false,R,hc,fun H1 s=>by refine ZgP ?_;exact q H1 s⟩
theorem ZrI {σ:St} {H:Hp} {Q:Bool→Hp→Prop} (h:tB' K M H0 (fun ρ=>orB (c ρ) (c' ρ)) σ H Q):tOr (tB' K M H0 c) (tB' K M H0 c') σ H Q:=by
 obtain ⟨ρ,b,R,e,q⟩:=h
 try dsimp only at e q
 cases hc:c ρ with
 | none=>rw [hc] at e;cases e
 | some k =>
  cases k with
  | false=>rw [hc] at e;exact ⟨ρ,false,R,hc,fun H1 s=>by refine ZgP ?_;exact ⟨ρ,b,R.st s,e,fun H2 s2=>q H2 (s.trans s2)⟩⟩
  | true=>rw [hc] at e;cases e;exact ⟨ρ,true,R,hc,fun H1 s=>by refine ZgO ?_;exact q H1 s⟩
theorem ZpN (h:PT X a (tB' K M H0 c)) (h':PW X (.BoolOp .And (b::ZE) pos) (tB' K M H0 c')):PW X (.BoolOp .And (a::b::ZE) pos) (tB' K M H0 fun ρ=>Zbm (c ρ) (c' ρ)):=(ZpT h h').mono fun _ _ _ q=>Zrb q
theorem ZeN (h:JT X a (tB' K M H0 c)) (h':JW X (.BoolOp .And (b::ZE) pos) (tB' K M H0 c')):JW X (.BoolOp .And (a::b::ZE) pos) (tB' K M H0 fun ρ=>Zbm (c ρ) (c' ρ)):=⟨ZpN h.h h'.h⟩
theorem ZrU (h:PT X a (tB' K M H0 c)) (h':PW X (.BoolOp .Or (b::ZE) pos) (tB' K M H0 c')):PW X (.BoolOp .Or (a::b::ZE) pos) (tB' K M H0 fun ρ=>orB (c ρ) (c' ρ)):=(ZrN h h').mono fun _ _ _ q=>ZrI q
theorem Zer (h:JT X a (tB' K M H0 c)) (h':JW X (.BoolOp .Or (b::ZE) pos) (tB' K M H0 c')):JW X (.BoolOp .Or (a::b::ZE) pos) (tB' K M H0 fun ρ=>orB (c ρ) (c' ρ)):=⟨ZrU h.h h'.h⟩
@[simp] def blO (o:Option Bool):Option D:=o.map D.bl
theorem ZiX {σ:St} {H:Hp} {Q:VK} (h:tD K M H0 (fun ρ=>blO (c ρ)) σ H Q):∃ ρ b,Rel K M H0 ρ σ H∧c ρ=some b∧∀ H',Same H H'→Q (.bl b) H':=by
 obtain ⟨ρ,d,R,e,q⟩:=h
 try dsimp only at e q
 cases hc:c ρ with
 | none=>rw [hc] at e;cases e
 | some k=>rw [hc] at e;cases e;exact ⟨ρ,k,R,hc,fun H' s=>q _ H' s (by simp only [Den])⟩
theorem Zp7 (h:PE X a (tD K M H0 f)):PE X (.UnaryOp .Not a pos) (tD K M H0 fun ρ=>blO (ZaX (asB (f ρ)))):=(Zq9 h).mono fun σ H Q q=>by
 obtain ⟨ρ,b,R,e,q⟩:=ZiX q
 try dsimp only at e q
 cases hc:asB (f ρ) with
 | none=>rw [hc] at e;cases e
 | some k =>
  rw [hc] at e;cases e
  refine ⟨ρ,.bl k,R,Ze1 hc,fun v H' s hv=>?_⟩
  simp only [Den] at hv
  exact ⟨k,hv,q H' s⟩
theorem Zns (h:JE X a (tD K M H0 f)):JE X (.UnaryOp .Not a pos) (tD K M H0 fun ρ=>blO (ZaX (asB (f ρ)))):=⟨Zp7 h.h⟩
theorem Zre {op} (h:PE X a (tD K M H0 f)):PE X (.BoolOp op [a] pos) (tD K M H0 fun ρ=>blO (asB (f ρ))):=(ZqY h).mono fun σ H Q q=>by
 obtain ⟨ρ,b,R,e,q⟩:=ZiX q
 try dsimp only at e q
 exact ⟨ρ,.bl b,R,Ze1 e,fun v H' s hv=>by simp only [Den] at hv;subst hv;exact q H' s⟩
theorem ZjS {op} (h:JE X a (tD K M H0 f)):JE X (.BoolOp op [a] pos) (tD K M H0 fun ρ=>blO (asB (f ρ))):=⟨Zre h.h⟩
theorem Zra (h:PE X a (tD K M H0 f)) (h':PE X (.BoolOp .And (b::ZE) pos) (tD K M H0 fun ρ=>blO (c' ρ))):PE X (.BoolOp .And (a::b::ZE) pos) (tD K M H0 fun ρ=>blO (Zbm (asB (f ρ)) (c' ρ))):=(Zpv h h').mono fun σ H Q q=>by
 obtain ⟨ρ,b,R,e,q⟩:=ZiX q
 try dsimp only at e q
 cases hc:asB (f ρ) with
 | none=>rw [hc] at e;cases e
 | some k =>
  refine ⟨ρ,.bl k,R,Ze1 hc,fun v H' s hv=>?_⟩
  simp only [Den] at hv
  refine ⟨k,hv,?_⟩
  cases k with
  | true =>
   rw [hc] at e;refine ZgO ?_
   have e':c' ρ=some b:=e
   exact ⟨ρ,.bl b,R.st s,by show blO (c' ρ)=_;rw [e'];rfl,fun w H2 s2 hw=>by simp only [Den] at hw;subst hw;exact q H2 (s.trans s2)⟩
  | false=>rw [hc] at e;cases e;refine ZgP ?_;exact q H' s
theorem Zjh (h:JE X a (tD K M H0 f)) (h':JE X (.BoolOp .And (b::ZE) pos) (tD K M H0 fun ρ=>blO (c' ρ))):JE X (.BoolOp .And (a::b::ZE) pos) (tD K M H0 fun ρ=>blO (Zbm (asB (f ρ)) (c' ρ))):=⟨Zra h.h h'.h⟩
@[simp] def Zm5 {α:Type} (c:Option Bool) (a b:Option α):Option α:=match c with
  | some true=>a
  | some false=>b
  | none=>none
theorem Znm {k:Expr} (hc:PT X k (tB' K M H0 c)) (ha:PE X a (tD K M H0 f)) (hb:PE X b (tD K M H0 g)):PE X (.IfExp k a b pos) (tD K M H0 fun ρ=>Zm5 (c ρ) (f ρ) (g ρ)):=(ZmY hc ha hb).mono fun σ H Q ⟨ρ,d,R,e,q⟩=>by
 try dsimp only at e q
 cases hc:c ρ with
 | none=>rw [hc] at e;cases e
 | some k =>
  refine ⟨ρ,k,R,hc,fun H1 s=>?_⟩
  cases k with
  | true=>rw [hc] at e;refine ZgO ?_;exact ⟨ρ,d,R.st s,e,fun w H2 s2 hw=>q w H2 (s.trans s2) hw⟩
  | false=>rw [hc] at e;refine ZgP ?_;exact ⟨ρ,d,R.st s,e,fun w H2 s2 hw=>q w H2 (s.trans s2) hw⟩
theorem Zls {k:Expr} (hc:JT X k (tB' K M H0 c)) (ha:JE X a (tD K M H0 f)) (hb:JE X b (tD K M H0 g)):JE X (.IfExp k a b pos) (tD K M H0 fun ρ=>Zm5 (c ρ) (f ρ) (g ρ)):=⟨Znm hc.h ha.h hb.h⟩
@[simp] def isN:D→Bool
  | .non=>true
  | _=>false
@[simp] def Zda (o:Option D):Option Bool:=o.map isN
theorem DenP.isN {K:PySem.W.Frag} {N:Fb} {H:Hp} {d:D} {v:V} (h:DenP K N H d v):decide (v=.non)=L2.isN d:=by
 cases d with
 | non=>simp only [DenP,Den] at h;subst h;rfl
 | bl _=>simp only [DenP,Den] at h;subst h;rfl
 | int _=>simp only [DenP,Den] at h;subst h;rfl
 | str _=>simp only [DenP,Den] at h;subst h;rfl
 | ty _=>simp only [DenP,Den] at h;subst h;rfl
 | tup _=>simp only [DenP,Den] at h;obtain ⟨a,vs,e,_⟩:=h;subst e;rfl
 | lst _ fl=>cases fl<;>(obtain ⟨a,vs,e,_⟩:=h;subst e;rfl)
theorem ZrB {j pos'} (h:PE X a (tP K M H0 f)):PE X (.Compare a [.Is] [.Constant .none j pos'] pos) (tD K M H0 fun ρ=>blO (Zda (f ρ))):=(ZqW (ZlI h)).mono fun σ H Q q=>by
 obtain ⟨ρ,b,R,e,q⟩:=ZiX q
 try dsimp only at e q
 cases hf:f ρ with
 | none=>rw [hf] at e;cases e
 | some d=>rw [hf] at e;cases e;exact ⟨ρ,d,R,hf,fun v H' s hv=>by dsimp only;rw [hv.isN];exact q H' s⟩
theorem ZmG {j pos'} (h:JE X a (tP K M H0 f)):JE X (.Compare a [.Is] [.Constant .none j pos'] pos) (tD K M H0 fun ρ=>blO (Zda (f ρ))):=⟨ZrB h.h⟩
theorem Zqq {j pos'} (h:PE X a (tP K M H0 f)):PT X (.Compare a [.Is] [.Constant .none j pos'] pos) (tB' K M H0 fun ρ=>Zda (f ρ)):=(ZlG (ZlI h)).mono fun σ H Q ⟨ρ,b,R,e,q⟩=>by
 try dsimp only at e q
 cases hf:f ρ with
 | none=>rw [hf] at e;cases e
 | some d=>rw [hf] at e;cases e;exact ⟨ρ,d,R,hf,fun v H' s hv=>⟨_,rfl,by rw [hv.isN];exact q H' s⟩⟩
theorem ZmN {j pos'} (h:JE X a (tP K M H0 f)):JT X (.Compare a [.Is] [.Constant .none j pos'] pos) (tB' K M H0 fun ρ=>Zda (f ρ)):=⟨Zqq h.h⟩
theorem Zot {j pos'} (h:PE X a (tP K M H0 f)):PT X (.Compare a [.IsNot] [.Constant .none j pos'] pos) (tB' K M H0 fun ρ=>ZaX (Zda (f ρ))):=(ZlG (Zn2 h)).mono fun σ H Q ⟨ρ,b,R,e,q⟩=>by
 try dsimp only at e q
 cases hf:f ρ with
 | none=>rw [hf] at e;cases e
 | some d=>rw [hf] at e;cases e;exact ⟨ρ,d,R,hf,fun v H' s hv=>⟨_,rfl,by rw [hv.isN];exact q H' s⟩⟩
theorem Zmt {j pos'} (h:JE X a (tP K M H0 f)):JT X (.Compare a [.IsNot] [.Constant .none j pos'] pos) (tB' K M H0 fun ρ=>ZaX (Zda (f ρ))):=⟨Zot h.h⟩
end
end
end L2
set_option Elab.async false
set_option linter.all false
set_option maxRecDepth 100000
namespace L2
open PySem PySem.Spec PyProof.Rows
theorem Zad {e:Expr} {es:List Expr} {env:Env} (h:∀ x p,e≠.Starred x p):starEach (e::es) env=(false,eval e env)::starEach es env:=by
 cases e with
 | Starred x p=>exact absurd rfl (h x p)
 | _=>rfl
def ArgOk (K:PySem.W.Frag) (N:Fb) (H:Hp):Sl→V→Prop
 | .val d,v=>Den K N H d v
 | .lent xs b,v=>∃ a vs,v=.ref a∧N a∧Rd H a (CO b xs vs)∧DenL K N H xs vs
 | _,_=>False
def ArgsOk (K:PySem.W.Frag) (N:Fb) (H:Hp):List Sl→List V→Prop
 | [],vs=>vs=[]
 | s::ss,vs=>∃ v r,vs=v::r∧ArgOk K N H s v∧ArgsOk K N H ss r
@[simp] def pk:Sl→Option D
  | .val d=>some d
  | .lent xs b=>some (.lst xs b)
  | .own xs b=>some (.lst xs b)
  | .no=>none
  | .exc _=>none
theorem ArgOk.same {K:PySem.W.Frag} {N:Fb} {H H':Hp} {s:Sl} {v:V} (h:ArgOk K N H s v) (sm:Same H H'):ArgOk K N H' s v:=by
 cases s with
 | val d=>exact Den.same h sm
 | lent xs fl=>obtain ⟨a,vs,e,n,q,r⟩:=h;exact ⟨a,vs,e,n,q.same sm,r.same sm⟩
 | no=>exact h
 | own xs fl=>exact h
 | exc c=>exact h
theorem ArgsOk.same {K:PySem.W.Frag} {N:Fb} {H H':Hp} (sm:Same H H'):∀ {ss:List Sl} {vs:List V},ArgsOk K N H ss vs→ArgsOk K N H' ss vs
 | [],_,h=>h
 | s::ss,_,⟨v,r,e,h,t⟩=>⟨v,r,e,h.same sm,ArgsOk.same sm t⟩
theorem ArgOk.p {K:PySem.W.Frag} {N:Fb} {H:Hp} {s:Sl} {v:V} (h:ArgOk K N H s v):∃ d,pk s=some d∧DenP K N H d v:=by
 cases s with
 | val d=>exact ⟨d,rfl,Den.p h⟩
 | lent xs fl=>obtain ⟨a,vs,e,n,q,r⟩:=h;subst e;exact ⟨_,rfl,Zh5 q r⟩
 | no=>exact False.elim h
 | own xs fl=>exact False.elim h
 | exc c=>exact False.elim h
theorem ArgsOk.length {K:PySem.W.Frag} {N:Fb} {H:Hp}:∀ {ss:List Sl} {vs:List V},ArgsOk K N H ss vs→ss.length=vs.length
 | [],_,h=>by cases h;rfl
 | s::ss,_,⟨v,r,e,h,t⟩=>by subst e;simp [ArgsOk.length t]
theorem ArgsOk.get {K:PySem.W.Frag} {N:Fb} {H:Hp}:∀ {ss:List Sl} {vs:List V} {i:Nat} {s:Sl},ArgsOk K N H ss vs→ss[i]?=some s→∃ v,vs[i]?=some v∧ArgOk K N H s v
 | [],_,i,s,h,e=>by simp at e
 | _::ss,_,0,s,⟨v,r,e1,h,t⟩,e=>by subst e1;simp at e;subst e;exact ⟨v,rfl,h⟩
 | _::ss,_,i+1,s,⟨v,r,e1,h,t⟩,e=>by
  subst e1
  obtain ⟨w,h1,h2⟩:=ArgsOk.get (i:=i) t (by simpa using e)
  exact ⟨w,by simpa using h1,h2⟩
def tA' (K:PySem.W.Frag) (M:Fb) (H0:Hp) (f:VE→Option (List Sl)):TA:=fun σ H Q=>∃ ρ ss,Rel K M H0 ρ σ H∧f ρ=some ss∧∀ vs H',Same H H'→ArgsOk K (Nf M ρ σ) H' ss vs→Q vs H'
def tS1 (K:PySem.W.Frag) (M:Fb) (H0:Hp) (f:VE→Option Sl):TE:=fun σ H Q=>∃ ρ s,Rel K M H0 ρ σ H∧f ρ=some s∧∀ v H',Same H H'→ArgOk K (Nf M ρ σ) H' s v→Q v H'
@[simp] def rdA (ρ:VE) (i:Nat):Option Sl:=match ρ[i]? with
  | some (.val d)=>some (.val d)
  | some (.own xs b)=>some (.lent xs b)
  | some (.lent xs b)=>some (.lent xs b)
  | _=>none
@[simp] def Zi (o:Option D):Option Sl:=o.map Sl.val
@[simp] def Zc {α:Type} (a:Option α) (b:Option (List α)):Option (List α):=a.bind fun x=>b.bind fun y=>some (x::y)
theorem Zea {α:Type} {a:Option α} {b:Option (List α)} {l:List α} (h:Zc a b=some l):∃ x y,a=some x∧b=some y∧l=x::y:=by
 cases a with
 | none=>cases h
 | some x =>
  cases b with
  | none=>cases h
  | some y=>cases h;exact ⟨x,y,rfl,rfl,rfl⟩
section
variable {X:Cx} {K:PySem.W.Frag} {M:Fb} {H0:Hp} {e a b:Expr} {es:List Expr} {f g:VE→Option D} {fa:VE→Option (List Sl)} {f1:VE→Option Sl} {pos:Pos}
theorem Zql {i:Nat} {x:Str} (hN:X.N[i]?=some x) (hv:Vis X.env.scope x) (hd:(x==("__debug__":Str))=false:=by decide) (hcd:(x==("__classdict__":Str))=false:=by decide):PE X (.Name x pos) (tS1 K M H0 fun ρ=>rdA ρ i) :=
 (Zcb hN hv hd hcd).mono fun σ H Q ⟨ρ,d,R,e,q⟩=>by
  try dsimp only at e q
  have fin:∀ v,σ[i]?.join=some v→ArgOk K (Nf M ρ σ) H d v→∃ v,σ[i]?=some (some v)∧Q v H:=fun v e1 h=>by
   refine ⟨v,?_,q v H (Same.refl H) h⟩
   cases z:σ[i]? with
   | none=>rw [z] at e1;cases e1
   | some o=>rw [z] at e1;cases e1;rfl
  unfold rdA at e
  split at e
  ·next h=>cases e;obtain ⟨v,e1,h⟩:=R.slot i _ h;exact fin v e1 h
  ·next h =>
   cases e
   obtain ⟨a,vs,e1,_,_,h3,h4⟩:=R.slot i _ h
   refine fin _ e1 ⟨a,vs,rfl,.inr ⟨i,_,_,h,?_⟩,.inl h3,h4⟩
   cases z:σ[i]? with
   | none=>rw [z] at e1;cases e1
   | some o=>rw [z] at e1;cases e1;rfl
  ·next h=>cases e;obtain ⟨a,vs,e1,h2,h3,h4⟩:=R.slot i _ h;exact fin _ e1 ⟨a,vs,rfl,.inl h2,h3,h4⟩
  ·cases e
theorem ZsA (h:PE X e (tD K M H0 f)):PE X e (tS1 K M H0 fun ρ=>Zi (f ρ)):=h.mono fun σ H Q ⟨ρ,s,R,e,q⟩=>by
 try dsimp only at e q
 cases hf:f ρ with
 | none=>rw [hf] at e;cases e
 | some d=>rw [hf] at e;cases e;exact ⟨ρ,d,R,hf,fun v H' s hv=>q v H' s hv⟩
theorem Zl (h:JE X e (tD K M H0 f)):JE X e (tS1 K M H0 fun ρ=>Zi (f ρ)):=⟨ZsA h.h⟩
theorem Zp8:PA X [] (tA' K M H0 fun _=>some []):=pa_nil.mono fun σ H Q ⟨ρ,ss,R,e,q⟩=>by
 try dsimp only at e q
 cases e;exact q [] H (Same.refl H) rfl
theorem Ze :JA X [] (tA' K M H0 fun _=>some []):=⟨Zp8 ⟩
theorem ZoK (h:PE X e (tS1 K M H0 f1)) (hr:PA X es (tA' K M H0 fa)) (hs:starEach (e::es) X.env=(false,eval e X.env)::starEach es X.env:=by exact Zad (fun _ _ z=>nomatch z)):PA X (e::es) (tA' K M H0 fun ρ=>Zc (f1 ρ) (fa ρ)):=(ZbQ h hr hs).mono fun σ H Q ⟨ρ,ss,R,e,q⟩=>by
 try dsimp only at e q
 obtain ⟨s,r,e1,e2,e3⟩:=Zea e
 subst e3
 exact ⟨ρ,s,R,e1,fun v H1 s1 h1=>⟨ρ,r,R.st s1,e2,fun vs H2 s2 h2=>q (v::vs) H2 (s1.trans s2) ⟨v,vs,rfl,h1.same s2,h2⟩⟩⟩
theorem Za (h:JE X e (tS1 K M H0 f1)) (hr:JA X es (tA' K M H0 fa)) (hs:starEach (e::es) X.env=(false,eval e X.env)::starEach es X.env:=by exact Zad (fun _ _ z=>nomatch z)):JA X (e::es) (tA' K M H0 fun ρ=>Zc (f1 ρ) (fa ρ)):=⟨ZoK h.h hr.h hs⟩
@[simp] def Zp:List Sl→Option (List D)
  | []=>some []
  | .val d::r=>Zc (some d) (Zp r)
  | _=>none
theorem Ze8 {K:PySem.W.Frag} {N:Fb} {H:Hp}:∀ {ss:List Sl} {vs:List V} {ds:List D},ArgsOk K N H ss vs→Zp ss=some ds→DenL K N H ds vs
 | [],_,_,h,e=>by cases e;cases h;exact DenL.nil
 | .val d::r,_,_,⟨v,t,e1,h,ht⟩,e=>by
  obtain ⟨x,y,e2,e3,e4⟩:=Zea e
  cases e2;subst e1 e4
  exact DenL.cons h (Ze8 ht e3)
 | .no::_,_,_,_,e=>nomatch e
 | .own _ _::_,_,_,_,e=>nomatch e
 | .lent _ _::_,_,_,_,e=>nomatch e
@[simp] def Zr {α:Type} (o:Option (List α)):Option (List α):=o.bind fun l=>if l.length≤sizeLine then some l else none
theorem ZeV {α:Type} {o:Option (List α)} {l:List α} (h:Zr o=some l):o=some l∧l.length≤sizeLine:=by
 cases o with
 | none=>cases h
 | some x =>
  have h':(if x.length≤sizeLine then some x else none)=some l:=h
  split at h'
  ·cases h';exact ⟨rfl,by assumption⟩
  ·cases h'
theorem ZaG {H:Hp} {p:Addr} {o:HO} (h:H p=none):Same H (upd H p o):=fun b u e=>by rw [ZG (Zac e h)];exact e
theorem Zge {fl:Bool} {ρ:VE} {σ:St} {H H1:Hp} {Q:VK} {xs:List D} {vs:List V} {p:Addr} (s:Same H H1) (hp:H1 p=none) (h:DenL K (Nf M ρ σ) H1 xs vs)
  (q:∀ a vs H',Same H H'→H a=none→H' a=some (CO fl xs vs)→DenL K (fun b=>Nf M ρ σ b∨b=a) H' xs vs→Q (.ref a) H'):Q (.ref p) (upd H1 p (CO fl xs vs)):=by
 refine q p vs _ (s.trans (ZaG hp)) (s.free hp) ZaJ ?_
 refine (h.nw fun b hb=>?_).same (ZaG hp)
 rcases hb with hb | hb
 ·exact .inl hb
 ·subst hb;exact .inr hp
theorem Zqv (h:PA X es (tA' K M H0 fa)):PE X (.List es pos) (tF K M H0 fun ρ=>Zr ((fa ρ).bind Zp)):=(ZqU h).mono fun σ H Q ⟨ρ,xs,R,e,q⟩=>by
 try dsimp only at e q
 obtain ⟨e,hz⟩:=ZeV e
 cases hf:fa ρ with
 | none=>rw [hf] at e;cases e
 | some ss =>
  rw [hf] at e
  refine ⟨ρ,ss,R,hf,fun vs H1 s1 h1=>?_⟩
  have hd:=Ze8 h1 e
  exact ⟨by rw [← hd.length];exact hz,fun p hp=>Zge s1 hp hd q⟩
theorem Zak (h:JA X es (tA' K M H0 fa)):JE X (.List es pos) (tF K M H0 fun ρ=>Zr ((fa ρ).bind Zp)):=⟨Zqv h.h⟩
theorem ZpM {x1} (h:PA X es (tA' K M H0 fa)):PE X (.Tuple es x1 pos) (tD K M H0 fun ρ=>(Zr ((fa ρ).bind Zp)).map D.tup):=(ZqV h).mono fun σ H Q ⟨ρ,d,R,e,q⟩=>by
 try dsimp only at e q
 cases hz:Zr ((fa ρ).bind Zp) with
 | none=>rw [hz] at e;cases e
 | some xs =>
  rw [hz] at e;cases e
  obtain ⟨e,hz⟩:=ZeV hz
  cases hf:fa ρ with
  | none=>rw [hf] at e;cases e
  | some ss =>
   rw [hf] at e
   refine ⟨ρ,ss,R,hf,fun vs H1 s1 h1=>?_⟩
   have hd:=Ze8 h1 e
   refine ⟨by rw [← hd.length];exact hz,fun p hp=>q _ _ (s1.trans (ZaG hp)) ?_⟩
   simp only [Den]
   exact ⟨p,vs,rfl,SqT.of ZaJ,hd.same (ZaG hp)⟩
theorem Z9 {x1} (h:JA X es (tA' K M H0 fa)):JE X (.Tuple es x1 pos) (tD K M H0 fun ρ=>(Zr ((fa ρ).bind Zp)).map D.tup):=⟨ZpM h.h⟩
end
inductive Rv where
 | val (d:D) | own (xs:List D) (b:Bool:=false)
def Zlf (K:PySem.W.Frag) (N:Fb) (H0 H':Hp):Rv→V→Prop
 | .val d,v=>Den K N H' d v
 | .own xs b,v=>∃ a vs,v=.ref a∧H0 a=none∧H' a=some (CO b xs vs)∧DenL K (fun b=>N b∨b=a) H' xs vs
def spD (K:PySem.W.Frag) (F:List Sl→Option Rv):Sp:=fun vs H Q _=>∃ N ss r,(∀ a,N a→H a≠none)∧ArgsOk K N H ss vs∧F ss=some r∧∀ v H',Same H H'→Zlf K N H H' r v→Q v H'
@[simp] def rvD:Rv→D
  | .val d=>d
  | .own xs b=>.lst xs b
@[simp] def rvF:Rv→Option (List D)
  | .own xs=>some xs
  | _=>none
@[simp] def rvG:Rv→Option (List D)
  | .own xs true=>some xs
  | _=>none
section
variable {X:Cx} {K:PySem.W.Frag} {M:Fb} {H0:Hp} {e:Expr} {es:List Expr} {fa:VE→Option (List Sl)} {F:List Sl→Option Rv} {CX:CXT} {k:Nat} {fn:Addr} {fd:FuncData} {ps:List Str} {x:Str} {p pos:Pos} {E:XK}
@[simp] def Zk (F:List Sl→Option Rv) (fa:VE→Option (List Sl)):VE→Option D:=fun ρ=>(fa ρ).bind fun ss=>(F ss).map rvD
@[simp] def ZgV (F:List Sl→Option Rv) (fa:VE→Option (List Sl)):VE→Option (List D):=fun ρ=>(fa ρ).bind fun ss=>(F ss).bind rvF
theorem Zoh {σ:St} {H:Hp} {Q:VK} (h:tD K M H0 (Zk F fa) σ H Q):ZlE (spD K F) [] E (tA' K M H0 fa) σ H Q:=by
 obtain ⟨ρ,d,R,e,q⟩:=h
 try dsimp only at e q
 unfold Zk at e
 cases hf:fa ρ with
 | none=>rw [hf] at e;cases e
 | some ss =>
  rw [hf] at e
  cases hF:F ss with
  | none=>simp only [Option.bind,hF] at e;cases e
  | some r =>
   simp only [Option.bind,hF] at e;cases e
   refine ⟨ρ,ss,R,hf,fun vs H1 s1 h1=>⟨Nf M ρ σ,ss,r,(R.st s1).nh,by rw [List.append_nil];exact h1,hF,fun v H2 s2 h2=>q v H2 (s1.trans s2) ?_⟩⟩
   cases r with
   | val d=>exact h2
   | own xs fl =>
    obtain ⟨a,ws,e1,z1,z2,z3⟩:=h2
    simp only [rvD,Den]
    exact ⟨a,ws,e1,.of (fun z=>(R.st s1).fresh z1 z) z2,z3.nw fun b hb=>.inl (.inl hb)⟩
@[simp] def ZtP (F:List Sl→Option Rv) (fa:VE→Option (List Sl)):VE→Option (List D):=fun ρ=>(fa ρ).bind fun ss=>(F ss).bind rvG
theorem ZoT {σ:St} {H:Hp} {Q:VK} (h:tF K M H0 (ZgV F fa) σ H Q):ZlE (spD K F) [] E (tA' K M H0 fa) σ H Q:=by
 obtain ⟨ρ,d,R,e,q⟩:=h
 try dsimp only at e q
 unfold ZgV at e
 cases hf:fa ρ with
 | none=>rw [hf] at e;cases e
 | some ss =>
  rw [hf] at e
  cases hF:F ss with
  | none=>simp only [Option.bind,hF] at e;cases e
  | some r =>
   simp only [Option.bind,hF] at e
   cases r with
   | val d=>cases e
   | own xs fl =>
    cases fl with
    | true=>cases e
    | false =>
     cases e
     refine ⟨ρ,ss,R,hf,fun vs H1 s1 h1=>⟨Nf M ρ σ,ss,_,(R.st s1).nh,by rw [List.append_nil];exact h1,hF,fun v H2 s2 h2=>?_⟩⟩
     obtain ⟨a,ws,e1,z1,z2,z3⟩:=h2
     subst e1
     exact q a ws H2 (s1.trans s2) (s1.free z1) z2 z3
theorem Zo2 (G:FnOk X.prog X.w X.K X.mg X.base CX k fn fd ps (spD K F)) (hr:Room k X.A) (hg:Gl X x) (hm:X.mg x=some (.ref fn)) (hk:PySem.W.keepIn X.K (.ref fn)=true) (hb:Binds X.K fd ps []) (hx:ZdK CX X E)
  (ha:PA X (e::es) (tA' K M H0 fa)) (hdb:(x==("__debug__":Str))=false:=by decide) (he:starEach (e::es) X.env=(false,eval e X.env)::starEach es X.env:=by exact Zad (fun _ _ z=>nomatch z)) (hpl:(backTo pos (starEach es X.env)).any (·.1)=false:=by rfl) :
  PE X (.Call (.Name x p) (e::es) [] pos) (tD K M H0 (Zk F fa)):=(ZkS G hr hg hm hk hb .nil hx ha hdb he hpl).mono fun _ _ _ h=>Zoh h
theorem Zs (G:FnOk X.prog X.w X.K X.mg X.base CX k fn fd ps (spD K F)) (hr:Room k X.A) (hg:Gl X x) (hm:X.mg x=some (.ref fn)) (hk:PySem.W.keepIn X.K (.ref fn)=true) (hb:Binds X.K fd ps []) (hx:ZdK CX X E) (ha:JA X (e::es) (tA' K M H0 fa)) (hdb:(x==("__debug__":Str))=false:=by decide) (he:starEach (e::es) X.env=(false,eval e X.env)::starEach es X.env:=by exact Zad (fun _ _ z=>nomatch z)) (hpl:(backTo pos (starEach es X.env)).any (·.1)=false:=by rfl):JE X (.Call (.Name x p) (e::es) [] pos) (tD K M H0 (Zk F fa)):=⟨Zo2 G hr hg hm hk hb hx ha.h hdb he hpl⟩
theorem ZoP (G:FnOk X.prog X.w X.K X.mg X.base CX k fn fd ps (spD K F)) (hr:Room k X.A) (hg:Gl X x) (hm:X.mg x=some (.ref fn)) (hk:PySem.W.keepIn X.K (.ref fn)=true) (hb:Binds X.K fd ps []) (hx:ZdK CX X E)
  (ha:PA X (e::es) (tA' K M H0 fa)) (hdb:(x==("__debug__":Str))=false:=by decide) (he:starEach (e::es) X.env=(false,eval e X.env)::starEach es X.env:=by exact Zad (fun _ _ z=>nomatch z)) (hpl:(backTo pos (starEach es X.env)).any (·.1)=false:=by rfl) :
  PE X (.Call (.Name x p) (e::es) [] pos) (tF K M H0 (ZgV F fa)):=(ZkS G hr hg hm hk hb .nil hx ha hdb he hpl).mono fun _ _ _ h=>ZoT h
theorem ZlW (G:FnOk X.prog X.w X.K X.mg X.base CX k fn fd ps (spD K F)) (hr:Room k X.A) (hg:Gl X x) (hm:X.mg x=some (.ref fn)) (hk:PySem.W.keepIn X.K (.ref fn)=true) (hb:Binds X.K fd ps []) (hx:ZdK CX X E) (ha:JA X (e::es) (tA' K M H0 fa)) (hdb:(x==("__debug__":Str))=false:=by decide) (he:starEach (e::es) X.env=(false,eval e X.env)::starEach es X.env:=by exact Zad (fun _ _ z=>nomatch z)) (hpl:(backTo pos (starEach es X.env)).any (·.1)=false:=by rfl):JE X (.Call (.Name x p) (e::es) [] pos) (tF K M H0 (ZgV F fa)):=⟨ZoP G hr hg hm hk hb hx ha.h hdb he hpl⟩
end
def RcD (K:PySem.W.Frag) (r:List V→Hp→VK→Prop) (F:List D→Option D):Prop:=∀ (N:Fb) (H:Hp) (vs:List V) (ds:List D) (d:D) (Q:VK),(∀ a,N a→H a≠none)→Paired (DenP K N H) ds vs→F ds=some d →
 (∀ v H',Same H H'→Den K N H' d v→Q v H')→r vs H Q
def RcF (K:PySem.W.Frag) (r:List V→Hp→VK→Prop) (F:List D→Option (List D)):Prop:=∀ (N:Fb) (H:Hp) (vs:List V) (ds:List D) (xs:List D) (Q:VK),(∀ a,N a→H a≠none)→Paired (DenP K N H) ds vs→F ds=some xs →
 (∀ ws p,H p=none→DenL K N H xs ws→Q (.ref p) (upd H p (.lst ws)))→r vs H Q
@[simp] def pks:List Sl→Option (List D)
  | []=>some []
  | s::r=>Zc (pk s) (pks r)
theorem Zh9 {K:PySem.W.Frag} {N:Fb} {H:Hp}:∀ {ss:List Sl} {vs:List V} {ds:List D},ArgsOk K N H ss vs→pks ss=some ds→Paired (DenP K N H) ds vs
 | [],_,_,h,e=>by cases e;cases h;exact .nil
 | s::r,_,_,⟨v,t,e1,h,ht⟩,e=>by
  obtain ⟨x,y,e2,e3,e4⟩:=Zea e
  subst e1 e4
  obtain ⟨d,hd,hp⟩:=h.p
  rw [hd] at e2;cases e2
  exact .cons hp (Zh9 ht e3)
section
variable {X:Cx} {K:PySem.W.Frag} {M:Fb} {H0:Hp} {e:Expr} {es:List Expr} {fa:VE→Option (List Sl)} {x:Str} {p pos:Pos} {r:List V→Hp→VK→Prop} {F:List D→Option D} {G:List D→Option (List D)} {id:String}
@[simp] def Zu (F:List D→Option D) (fa:VE→Option (List Sl)):VE→Option D:=fun ρ=>((fa ρ).bind pks).bind F
@[simp] def ZB (F:List D→Option (List D)) (fa:VE→Option (List Sl)):VE→Option (List D):=fun ρ=>((fa ρ).bind pks).bind F
theorem ZnL (hr:RcD K r F) {σ:St} {H:Hp} {Q:VK} (h:tD K M H0 (Zu F fa) σ H Q):tCB r (tA' K M H0 fa) σ H Q:=by
 obtain ⟨ρ,d,R,e,q⟩:=h
 try dsimp only at e q
 unfold Zu at e
 cases hf:fa ρ with
 | none=>rw [hf] at e;cases e
 | some ss =>
  rw [hf] at e
  cases hp:pks ss with
  | none=>simp only [Option.bind,hp] at e;cases e
  | some ds =>
   simp only [Option.bind,hp] at e
   exact ⟨ρ,ss,R,hf,fun vs H1 s1 h1=>hr (Nf M ρ σ) H1 vs ds d Q (R.st s1).nh (Zh9 h1 hp) e fun v H' s hv=>q v H' (s1.trans s) hv⟩
theorem ZrK (hr:RcF K r G) {σ:St} {H:Hp} {Q:VK} (h:tF K M H0 (ZB G fa) σ H Q):tCB r (tA' K M H0 fa) σ H Q:=by
 obtain ⟨ρ,d,R,e,q⟩:=h
 try dsimp only at e q
 unfold ZB at e
 cases hf:fa ρ with
 | none=>rw [hf] at e;cases e
 | some ss =>
  rw [hf] at e
  cases hp:pks ss with
  | none=>simp only [Option.bind,hp] at e;cases e
  | some ds =>
   simp only [Option.bind,hp] at e
   exact ⟨ρ,ss,R,hf,fun vs H1 s1 h1=>hr (Nf M ρ σ) H1 vs ds d Q (R.st s1).nh (Zh9 h1 hp) e fun ws p hp hv=>Zge s1 hp hv q⟩
theorem ZnD (hc:CallR X (.builtin id) r) (hF:RcD K r F) (hg:Gl X x) (hm:X.mg x=none) (hv:bootBuiltins x=some (.builtin id)) (ha:PA X (e::es) (tA' K M H0 fa)) (hn:x≠"__name__":=by decide) (hdb:(x==("__debug__":Str))=false:=by decide)
  (he:starEach (e::es) X.env=(false,eval e X.env)::starEach es X.env:=by exact Zad (fun _ _ z=>nomatch z)) (hpl:(backTo pos (starEach es X.env)).any (·.1)=false:=by rfl):PE X (.Call (.Name x p) (e::es) [] pos) (tD K M H0 (Zu F fa)) :=
 (ZmL hc hg hm hv ha hn hdb he hpl).mono fun _ _ _ h=>ZnL hF h
theorem ZF (hc:CallR X (.builtin id) r) (hF:RcD K r F) (hg:Gl X x) (hm:X.mg x=none) (hv:bootBuiltins x=some (.builtin id)) (ha:JA X (e::es) (tA' K M H0 fa)) (hn:x≠"__name__":=by decide) (hdb:(x==("__debug__":Str))=false:=by decide) (he:starEach (e::es) X.env=(false,eval e X.env)::starEach es X.env:=by exact Zad (fun _ _ z=>nomatch z)) (hpl:(backTo pos (starEach es X.env)).any (·.1)=false:=by rfl):JE X (.Call (.Name x p) (e::es) [] pos) (tD K M H0 (Zu F fa)):=⟨ZnD hc hF hg hm hv ha.h hn hdb he hpl⟩
theorem ZlZ (hc:CallR X (.type id) r) (hF:RcD K r F) (hg:Gl X x) (hm:X.mg x=none) (hv:bootBuiltins x=some (.type id)) (ha:PA X (e::es) (tA' K M H0 fa)) (hn:x≠"__name__":=by decide) (hdb:(x==("__debug__":Str))=false:=by decide)
  (he:starEach (e::es) X.env=(false,eval e X.env)::starEach es X.env:=by exact Zad (fun _ _ z=>nomatch z)) (hpl:(backTo pos (starEach es X.env)).any (·.1)=false:=by rfl):PE X (.Call (.Name x p) (e::es) [] pos) (tD K M H0 (Zu F fa)) :=
 (Zin hc hg hm hv ha hn hdb he hpl).mono fun _ _ _ h=>ZnL hF h
theorem ZcW (hc:CallR X (.type id) r) (hF:RcD K r F) (hg:Gl X x) (hm:X.mg x=none) (hv:bootBuiltins x=some (.type id)) (ha:JA X (e::es) (tA' K M H0 fa)) (hn:x≠"__name__":=by decide) (hdb:(x==("__debug__":Str))=false:=by decide) (he:starEach (e::es) X.env=(false,eval e X.env)::starEach es X.env:=by exact Zad (fun _ _ z=>nomatch z)) (hpl:(backTo pos (starEach es X.env)).any (·.1)=false:=by rfl):JE X (.Call (.Name x p) (e::es) [] pos) (tD K M H0 (Zu F fa)):=⟨ZlZ hc hF hg hm hv ha.h hn hdb he hpl⟩
theorem ZlX (hc:CallR X (.type id) r) (hF:RcF K r G) (hg:Gl X x) (hm:X.mg x=none) (hv:bootBuiltins x=some (.type id)) (ha:PA X (e::es) (tA' K M H0 fa)) (hn:x≠"__name__":=by decide) (hdb:(x==("__debug__":Str))=false:=by decide)
  (he:starEach (e::es) X.env=(false,eval e X.env)::starEach es X.env:=by exact Zad (fun _ _ z=>nomatch z)) (hpl:(backTo pos (starEach es X.env)).any (·.1)=false:=by rfl):PE X (.Call (.Name x p) (e::es) [] pos) (tF K M H0 (ZB G fa)) :=
 (Zin hc hg hm hv ha hn hdb he hpl).mono fun _ _ _ h=>ZrK hF h
theorem Zg2 (hc:CallR X (.type id) r) (hF:RcF K r G) (hg:Gl X x) (hm:X.mg x=none) (hv:bootBuiltins x=some (.type id)) (ha:JA X (e::es) (tA' K M H0 fa)) (hn:x≠"__name__":=by decide) (hdb:(x==("__debug__":Str))=false:=by decide) (he:starEach (e::es) X.env=(false,eval e X.env)::starEach es X.env:=by exact Zad (fun _ _ z=>nomatch z)) (hpl:(backTo pos (starEach es X.env)).any (·.1)=false:=by rfl):JE X (.Call (.Name x p) (e::es) [] pos) (tF K M H0 (ZB G fa)):=⟨ZlX hc hF hg hm hv ha.h hn hdb he hpl⟩
theorem RcD.or {r r':List V→Hp→VK→Prop} {F F':List D→Option D} (h:RcD K r F) (h':RcD K r' F'):RcD K (fun xs H Q=>r xs H Q∨r' xs H Q) (fun ds=>orO (F ds) (F' ds)):=by
 intro N H vs ds d Q nh h1 e q
 cases hF:F ds with
 | some z=>simp only [hF,orO] at e;cases e;exact .inl (h N H vs ds d Q nh h1 hF q)
 | none=>simp only [hF,orO] at e;exact .inr (h' N H vs ds d Q nh h1 e q)
end
inductive Res where
 | fail | next (ρ:VE) | brk (ρ:VE) | cont (ρ:VE) | ret (r:Rv)
def Beh (K:PySem.W.Frag) (M:Fb) (H0:Hp) (ρ:VE) (σ:St) (H:Hp) (ρ':VE) (Q:St→Hp→Prop):Prop:=∀ σ' H',Rel K M H0 ρ' σ' H'→Step M (Nf M ρ σ) (Nf M ρ' σ') H H'→Q σ' H'
def resOk (K:PySem.W.Frag) (M:Fb) (H0:Hp) (ρ:VE) (σ:St) (H:Hp) (D:Zdy):Res→Prop
 | .fail=>False
 | .next ρ'=>Beh K M H0 ρ σ H ρ' D.nx
 | .brk ρ'=>Beh K M H0 ρ σ H ρ' D.bk
 | .cont ρ'=>Beh K M H0 ρ σ H ρ' D.ct
 | .ret r=>∀ v H',Same H0 H'→Zlf K M H0 H' r v→D.rt v H'
def tS (K:PySem.W.Frag) (M:Fb) (H0:Hp) (g:VE→Res):TS:=fun D σ H=>∃ ρ,Rel K M H0 ρ σ H∧resOk K M H0 ρ σ H D (g ρ)
@[simp] def Zf (a:Res) (g:VE→Res):Res:=match a with
  | .next ρ=>g ρ
  | r=>r
theorem Beh.from {K:PySem.W.Frag} {M:Fb} {H0:Hp} {ρ ρ1 ρ':VE} {σ σ1:St} {H H1:Hp} {Q:St→Hp→Prop} (s:Step M (Nf M ρ σ) (Nf M ρ1 σ1) H H1) (h:Beh K M H0 ρ σ H ρ' Q):Beh K M H0 ρ1 σ1 H1 ρ' Q :=
 fun σ' H' R s'=>h σ' H' R (s.trans s')
theorem resOk.from {K:PySem.W.Frag} {M:Fb} {H0:Hp} {ρ ρ1:VE} {σ σ1:St} {H H1:Hp} {D:Zdy} {r:Res} (s:Step M (Nf M ρ σ) (Nf M ρ1 σ1) H H1) (h:resOk K M H0 ρ σ H D r):resOk K M H0 ρ1 σ1 H1 D r:=by
 cases r with
 | fail=>exact h
 | next ρ'=>exact Beh.from s h
 | brk ρ'=>exact Beh.from s h
 | cont ρ'=>exact Beh.from s h
 | ret r=>exact h
section
variable {X:Cx} {K:PySem.W.Frag} {M:Fb} {H0:Hp} {st:Stmt} {ZE:List Stmt} {g g1 g2:VE→Res} {pos:Pos} {e:Expr} {f:VE→Option D}
theorem ZqP:PSs X [] (tS K M H0 fun ρ=>.next ρ):=pss_nil.mono fun D σ H ⟨ρ,R,q⟩=>q σ H R Step.refl
theorem Zh :JB X [] (tS K M H0 fun ρ=>.next ρ):=⟨ZqP ⟩
theorem Zn1 (h1:PS X st (tS K M H0 g1)) (h2:PSs X ZE (tS K M H0 g2)):PSs X (st::ZE) (tS K M H0 fun ρ=>Zf (g1 ρ) g2):=(ZmT h1 h2).mono fun D σ H ⟨ρ,R,q⟩=>by
 try dsimp only at q
 refine ⟨ρ,R,?_⟩
 cases hg:g1 ρ with
 | fail=>rw [hg] at q;exact q
 | next ρ1=>rw [hg] at q;exact fun σ1 H1 R1 s1=>⟨ρ1,R1,q.from s1⟩
 | brk ρ1=>rw [hg] at q;exact q
 | cont ρ1=>rw [hg] at q;exact q
 | ret r=>rw [hg] at q;exact q
theorem Zb (h1:JS X st (tS K M H0 g1)) (h2:JB X ZE (tS K M H0 g2)):JB X (st::ZE) (tS K M H0 fun ρ=>Zf (g1 ρ) g2):=⟨Zn1 h1.h h2.h⟩
@[simp] def Zv (o:Option D):Res:=match o with
  | some d=>.ret (.val d)
  | none=>.fail
theorem Zqe (h:PE X e (tD K M H0 f)):PS X (.Return (some e) pos) (tS K M H0 fun ρ=>Zv (f ρ)):=(ZhF h).mono fun D σ H ⟨ρ,R,q⟩=>by
 try dsimp only at q
 cases hf:f ρ with
 | none=>rw [hf] at q;exact False.elim q
 | some d =>
  rw [hf] at q
  exact ⟨ρ,d,R,hf,fun v H' s hv=>q v H' (R.same.trans s) (hv.nw fun a ha=>.inl (.inl ha))⟩
theorem ZI (h:JE X e (tD K M H0 f)):JS X (.Return (some e) pos) (tS K M H0 fun ρ=>Zv (f ρ)):=⟨Zqe h.h⟩
@[simp] def Zaw (o:Option (List D)):Res:=match o with
  | some xs=>.ret (.own xs)
  | none=>.fail
@[simp] def ZjO (o:Option (List D)):Res:=match o with
  | some xs=>.ret (.own xs true)
  | none=>.fail
theorem ZoU {f:VE→Option (List D)} (h:PE X e (tF K M H0 f)):PS X (.Return (some e) pos) (tS K M H0 fun ρ=>Zaw (f ρ)):=(ZhF h).mono fun D σ H ⟨ρ,R,q⟩=>by
 try dsimp only at q
 cases hf:f ρ with
 | none=>rw [hf] at q;exact False.elim q
 | some xs =>
  rw [hf] at q
  exact ⟨ρ,xs,R,hf,fun a vs H' s z1 z2 z3=>q (.ref a) H' (R.same.trans s) ⟨a,vs,rfl,R.same.free z1,z2,z3.nw fun b hb=>by
   rcases hb with hb | hb
   ·exact .inl (.inl (.inl hb))
   ·exact .inl (.inr hb)⟩⟩
theorem ZfZ {f:VE→Option (List D)} (h:JE X e (tF K M H0 f)):JS X (.Return (some e) pos) (tS K M H0 fun ρ=>Zaw (f ρ)):=⟨ZoU h.h⟩
@[simp] def rdO (ρ:VE) (i:Nat):Option (List D):=match ρ[i]? with
  | some (.own xs)=>some xs
  | _=>none
theorem Zfp {ρ:VE} {i:Nat} {xs:List D} (h:rdO ρ i=some xs):ρ[i]?=some (.own xs):=by
 unfold rdO at h
 split at h
 ·cases h;assumption
 ·cases h
@[simp] def rdG (ρ:VE) (i:Nat):Option (List D):=match ρ[i]? with
  | some (.own xs true)=>some xs
  | _=>none
theorem ZeO {ρ:VE} {i:Nat} {xs:List D} (h:rdG ρ i=some xs):ρ[i]?=some (.own xs true):=by
 unfold rdG at h
 split at h
 ·cases h;assumption
 ·cases h
theorem join_some {σ:St} {i:Nat} {v:V} (e1:σ[i]?.join=some v):σ[i]?=some (some v):=by
 cases z:σ[i]? with
 | none=>rw [z] at e1;cases e1
 | some o=>rw [z] at e1;cases e1;rfl
theorem ZoO {i:Nat} {x:Str} {vpos:Pos} (hN:X.N[i]?=some x) (hv:Vis X.env.scope x) (hd:(x==("__debug__":Str))=false:=by decide) (hcd:(x==("__classdict__":Str))=false:=by decide) :
  PS X (.Return (some (.Name x vpos)) pos) (tS K M H0 fun ρ=>Zaw (rdO ρ i)):=(ZhF (Zcb hN hv hd hcd)).mono fun D σ H ⟨ρ,R,q⟩=>by
 try dsimp only at q
 cases hf:rdO ρ i with
 | none=>rw [hf] at q;exact False.elim q
 | some xs =>
  rw [hf] at q
  obtain ⟨a,vs,e1,z1,z2,z3,z4⟩:=R.slot i _ (Zfp hf)
  refine ⟨.ref a,join_some e1,q (.ref a) H R.same ⟨a,vs,rfl,z1,z3,z4.nw fun b hb=>.inl ?_⟩⟩
  rcases hb with hb | hb
  ·exact .inl hb
  ·subst hb;exact .inr ⟨i,xs,_,Zfp hf,join_some e1⟩
theorem Zn3 {i:Nat} {x:Str} {vpos:Pos} (hN:X.N[i]?=some x) (hv:Vis X.env.scope x) (hd:(x==("__debug__":Str))=false:=by decide) (hcd:(x==("__classdict__":Str))=false:=by decide) :
  PS X (.Return (some (.Name x vpos)) pos) (tS K M H0 fun ρ=>ZjO (rdG ρ i)):=(ZhF (Zcb hN hv hd hcd)).mono fun D σ H ⟨ρ,R,q⟩=>by
 try dsimp only at q
 cases hf:rdG ρ i with
 | none=>rw [hf] at q;exact False.elim q
 | some xs =>
  rw [hf] at q
  obtain ⟨a,vs,e1,z1,z2,z3,z4⟩:=R.slot i _ (ZeO hf)
  refine ⟨.ref a,join_some e1,q (.ref a) H R.same ⟨a,vs,rfl,z1,z3,z4.nw fun b hb=>.inl ?_⟩⟩
  rcases hb with hb | hb
  ·exact .inl hb
  ·subst hb;exact .inr ⟨i,xs,_,ZeO hf,join_some e1⟩
@[simp] def Zt (c:Option Bool) (a b:Res):Res:=match c with
  | some true=>a
  | some false=>b
  | none=>.fail
theorem Zsl {c:Expr} {a b:List Stmt} {t:VE→Option Bool} (hc:PT X c (tB' K M H0 t)) (ha:PSs X a (tS K M H0 g1)) (hb:PSs X b (tS K M H0 g2)):PS X (.If c a b pos) (tS K M H0 fun ρ=>Zt (t ρ) (g1 ρ) (g2 ρ)):=(Zr9 hc ha hb).mono fun D σ H ⟨ρ,R,q⟩=>by
 try dsimp only at q
 cases ht:t ρ with
 | none=>rw [ht] at q;exact False.elim q
 | some k =>
  rw [ht] at q
  refine ⟨ρ,k,R,ht,fun H1 s=>?_⟩
  cases k with
  | true=>refine ZgO ?_;exact ⟨ρ,R.st s,resOk.from (Step.of_same s) q⟩
  | false=>refine ZgP ?_;exact ⟨ρ,R.st s,resOk.from (Step.of_same s) q⟩
theorem ZM {c:Expr} {a b:List Stmt} {t:VE→Option Bool} (hc:JT X c (tB' K M H0 t)) (ha:JB X a (tS K M H0 g1)) (hb:JB X b (tS K M H0 g2)):JS X (.If c a b pos) (tS K M H0 fun ρ=>Zt (t ρ) (g1 ρ) (g2 ρ)):=⟨Zsl hc.h ha.h hb.h⟩
theorem Zcs {α:Type} {l:List α} {i:Nat} {x y:α} (h:(l.set i x)[i]?=some y):i<l.length∧x=y:=by
 by_cases hi:i<l.length
 ·rw [List.getElem?_set_self hi] at h;exact ⟨hi,Option.some.inj h⟩
 ·rw [List.getElem?_eq_none (by simpa using Nat.le_of_not_lt hi)] at h;cases h
theorem Zf9 {M:Fb} {ρ:VE} {σ:St} {i:Nat} {s:Sl} {v:V} {b:Addr} (hl:ρ.length=σ.length) (h:Nf M (ρ.set i s) (σ.set i (some v)) b):Nf M ρ σ b∨∃ xs fl,s=.own xs fl∧v=.ref b:=by
 rcases h with h | ⟨j,xs,fl,h1,h2⟩
 ·exact .inl (.inl h)
 ·by_cases e:i=j
  ·subst e
   have q1:=(Zcs h1).2
   have q2:=(Zcs h2).2
   cases q1;cases q2;exact .inr ⟨xs,fl,rfl,rfl⟩
  ·rw [List.getElem?_set_ne e] at h1 h2
   exact .inl (.inr ⟨j,xs,fl,h1,h2⟩)
theorem Rel.put {ρ:VE} {σ:St} {H H':Hp} {i:Nat} {s:Sl} {v:V} (R:Rel K M H0 ρ σ H) (S:Step M (Nf M ρ σ) (Nf M (ρ.set i s) (σ.set i (some v))) H H') (sm:Same H0 H')
  (ow:∀ j a vs xs fl,j≠i→ρ[j]?=some (.own xs fl)→σ[j]?=some (some (.ref a))→H a=some (CO fl xs vs)→H' a=some (CO fl xs vs))
  (hs:i<ρ.length→ZqK K M (Nf M (ρ.set i s) (σ.set i (some v))) H0 H' s (some v))
  (hinj:∀ xs fl a j ys fl',s=.own xs fl→v=.ref a→j≠i→ρ[j]?=some (.own ys fl')→σ[j]?≠some (some (.ref a))):Rel K M H0 (ρ.set i s) (σ.set i (some v)) H' where
 len:=by rw [List.length_set,List.length_set];exact R.len
 same:=sm
 mh:=fun a h z=>by
  cases e:H a with
  | none=>exact R.mh a h e
  | some o=>rw [S.kp a o e (.inr (.inl h))] at z;cases z
 slot:=fun j sl e=>by
  by_cases eij:i=j
  ·subst eij
   obtain ⟨hi,e⟩:=Zcs e
   subst e
   rw [List.getElem?_set_self (by rw [← R.len];exact hi)]
   exact hs hi
  ·rw [List.getElem?_set_ne eij] at e ⊢
   have q:=R.slot j sl e
   cases sl with
   | no=>trivial
   | val d=>obtain ⟨u,e1,h⟩:=q;exact ⟨u,e1,Den.step S d u h⟩
   | own xs fl=>obtain ⟨a,vs,e1,h1,h2,h3,h4⟩:=q;exact ⟨a,vs,e1,h1,h2,ow j a vs xs fl (Ne.symm eij) e (join_some e1) h3,DenL.step S xs vs h4⟩
   | lent xs fl=>obtain ⟨a,vs,e1,h1,h2,h3⟩:=q;exact ⟨a,vs,e1,h1,h2.step S (.inr (.inl h1)),DenL.step S xs vs h3⟩
   | exc c=>obtain ⟨a,C,e1,h1,h2⟩:=q;exact ⟨a,C,e1,h1,S.kp _ _ h2 (.inr (.inr rfl))⟩
 inj:=fun j k xs ys fl fl' a h1 h2 h3 h4=>by
  by_cases ej:i=j
  ·by_cases ek:i=k
   ·rw [← ej,ek]
   ·subst ej
    rw [List.getElem?_set_ne ek] at h2 h4
    have q1:=(Zcs h1).2
    have q3:=(Zcs h3).2
    cases q1;cases q3;exact absurd h4 (hinj xs fl a k ys fl' rfl rfl (Ne.symm ek) h2)
  ·rw [List.getElem?_set_ne ej] at h1 h3
   by_cases ek:i=k
   ·subst ek
    have q2:=(Zcs h2).2
    have q4:=(Zcs h4).2
    cases q2;cases q4;exact absurd h3 (hinj ys fl' a j xs fl rfl rfl (Ne.symm ej) h1)
   ·rw [List.getElem?_set_ne ek] at h2 h4
    exact R.inj j k xs ys fl fl' a h1 h2 h3 h4
theorem Rel.setV {ρ:VE} {σ:St} {H H':Hp} {i:Nat} {d:D} {v:V} (R:Rel K M H0 ρ σ H) (s:Same H H') (h:Den K (Nf M ρ σ) H' d v) :
  Rel K M H0 (ρ.set i (.val d)) (σ.set i (some v)) H'∧Step M (Nf M ρ σ) (Nf M (ρ.set i (.val d)) (σ.set i (some v))) H H':=by
 have S:Step M (Nf M ρ σ) (Nf M (ρ.set i (.val d)) (σ.set i (some v))) H H':=⟨fun a o e _=>s a o e,fun b hb=>by
  rcases Zf9 R.len hb with q | ⟨xs,_,e,_⟩
  ·exact .inl q
  ·cases e⟩
 refine ⟨R.put S (R.same.trans s) (fun j a vs xs fl _ _ _ e=>s _ _ e) (fun _=>⟨v,rfl,h.nw fun b hb=>?_⟩) (fun xs fl a j ys fl' e=>nomatch e),S⟩
 rcases Zf9 R.len hb with q | ⟨xs,_,e,_⟩
 ·exact .inl q
 ·cases e
theorem Rel.setO {fl:Bool} {ρ:VE} {σ:St} {H H':Hp} {i:Nat} {xs:List D} {a:Addr} {vs:List V} (R:Rel K M H0 ρ σ H) (s:Same H H') (hn:H a=none) (ha:H' a=some (CO fl xs vs)) (h:DenL K (fun b=>Nf M ρ σ b∨b=a) H' xs vs) :
  Rel K M H0 (ρ.set i (.own xs fl)) (σ.set i (some (.ref a))) H'∧Step M (Nf M ρ σ) (Nf M (ρ.set i (.own xs fl)) (σ.set i (some (.ref a)))) H H':=by
 have nf:∀ b,Nf M (ρ.set i (.own xs fl)) (σ.set i (some (.ref a))) b→Nf M ρ σ b∨b=a:=fun b hb=>by
  rcases Zf9 R.len hb with q | ⟨xs,fl,e,e'⟩
  ·exact .inl q
  ·cases e';exact .inr rfl
 have S:Step M (Nf M ρ σ) (Nf M (ρ.set i (.own xs fl)) (σ.set i (some (.ref a)))) H H':=⟨fun a o e _=>s a o e,fun b hb=>by
  rcases nf b hb with q | q
  ·exact .inl q
  ·subst q;exact .inr hn⟩
 refine ⟨R.put S (R.same.trans s) (fun j a vs xs fl _ _ _ e=>s _ _ e) (fun _=>⟨a,vs,rfl,R.same.free hn,fun hm=>R.fresh hn (.inl hm),ha,h.nw fun b hb=>.inl (nf b hb)⟩) (fun xs' fl' a' j ys fl2 e e' hj h1 h2=>?_),S⟩
 cases e'
 exact R.fresh hn (.inr ⟨j,ys,fl2,h1,h2⟩)
theorem Rel.chg {fl fl2:Bool} {ρ:VE} {σ:St} {H:Hp} {i:Nat} {xs ys:List D} {a:Addr} {ws:List V} (R:Rel K M H0 ρ σ H) (hi:ρ[i]?=some (.own xs fl)) (ha:σ[i]?=some (some (.ref a))) (h:DenL K (Nf M ρ σ) H ys ws) :
  Rel K M H0 (ρ.set i (.own ys fl2)) σ (upd H a (CO fl2 ys ws))∧Step M (Nf M ρ σ) (Nf M (ρ.set i (.own ys fl2)) σ) H (upd H a (CO fl2 ys ws)):=by
 obtain ⟨a',vs,e1,z1,z2,z3,z4⟩:=R.slot i _ hi
 rw [ha] at e1
 have ea:a=a':=by simpa using e1
 subst ea
 have hσ:σ.set i (some (.ref a))=σ:=by
  apply List.ext_getElem?
  intro j
  by_cases e:i=j
  ·subst e
   rw [List.getElem?_set_self (List.getElem?_eq_some_iff.mp ha).1,ha]
  ·rw [List.getElem?_set_ne e]
 have na:Nf M ρ σ a:=.inr ⟨i,xs,fl,hi,ha⟩
 have nf:∀ b,Nf M (ρ.set i (.own ys fl2)) (σ.set i (some (.ref a))) b→Nf M ρ σ b:=fun b hb=>by
  rcases Zf9 R.len hb with q | ⟨xs,_,e,e'⟩
  ·exact q
  ·cases e';exact na
 have S:Step M (Nf M ρ σ) (Nf M (ρ.set i (.own ys fl2)) (σ.set i (some (.ref a)))) H (upd H a (CO fl2 ys ws)):=⟨fun b o e z=>by
   have ne:b≠a:=by
    rintro rfl
    rcases z with z | z | z
    ·exact z na
    ·exact z2 z
    ·rw [z3] at e;cases e;rw [ZpX] at z;cases z
   rw [ZG ne];exact e,fun b hb=>.inl (nf b hb)⟩
 have key:Rel K M H0 (ρ.set i (.own ys fl2)) (σ.set i (some (.ref a))) (upd H a (CO fl2 ys ws)):=by
  refine R.put S (fun b o e=>?_) (fun j b us xs' fl' hj h1 h2 h3=>?_) (fun _=>⟨a,ws,rfl,z1,z2,ZaJ,DenL.step S ys ws h⟩) (fun xs' fl3 b j ys' fl' e e' hj h1 h2=>?_)
  ·have ne:b≠a:=by
    rintro rfl
    rw [z1] at e;cases e
   rw [ZG ne];exact R.same b o e
  ·have ne:b≠a:=by
    rintro rfl
    exact hj (R.inj j i xs' xs fl' fl b h1 hi h2 ha)
   rw [ZG ne];exact h3
  ·cases e'
   exact hj (R.inj j i ys' xs fl' fl _ h1 hi h2 ha)
 rw [hσ] at key S
 exact ⟨key,S⟩
theorem Rel.frz {fl:Bool} {ρ:VE} {σ:St} {H:Hp} {i:Nat} {xs:List D} (R:Rel K M H0 ρ σ H) (hi:ρ[i]?=some (.own xs fl)) :
  Rel K M H0 (ρ.set i (.val (.lst xs fl))) σ H∧Step M (Nf M ρ σ) (Nf M (ρ.set i (.val (.lst xs fl))) σ) H H:=by
 obtain ⟨a,vs,e1,z1,z2,z3,z4⟩:=R.slot i _ hi
 have ha:=join_some e1
 have hσ:σ.set i (some (.ref a))=σ:=by
  apply List.ext_getElem?
  intro j
  by_cases e:i=j
  ·subst e
   rw [List.getElem?_set_self (List.getElem?_eq_some_iff.mp ha).1,ha]
  ·rw [List.getElem?_set_ne e]
 have nf:∀ b,Nf M (ρ.set i (.val (.lst xs fl))) (σ.set i (some (.ref a))) b→Nf M ρ σ b:=fun b hb=>by
  rcases Zf9 R.len hb with q | ⟨xs,_,e,e'⟩
  ·exact q
  ·cases e
 have nna:¬ Nf M (ρ.set i (.val (.lst xs fl))) (σ.set i (some (.ref a))) a:=by
  rintro (h | ⟨j,ys,fl',h1,h2⟩)
  ·exact z2 h
  ·by_cases e:i=j
   ·subst e
    have q1:=(Zcs h1).2
    cases q1
   ·rw [List.getElem?_set_ne e] at h1 h2
    exact e (R.inj i j xs ys _ _ a hi h1 ha h2)
 have S:Step M (Nf M ρ σ) (Nf M (ρ.set i (.val (.lst xs fl))) (σ.set i (some (.ref a)))) H H:=⟨fun _ _ e _=>e,fun b hb=>.inl (nf b hb)⟩
 have key:Rel K M H0 (ρ.set i (.val (.lst xs fl))) (σ.set i (some (.ref a))) H:=by
  refine R.put S R.same (fun _ _ _ _ _ _ _ _ h=>h) (fun _=>⟨.ref a,rfl,?_⟩) (fun xs' _ b j ys' _ e=>nomatch e)
  simp only [Den]
  exact ⟨a,vs,rfl,.of nna z3,DenL.step S xs vs z4⟩
 rw [hσ] at key S
 exact ⟨key,S⟩
@[simp] def Zq (i:Nat) (o:Option D) (ρ:VE):Res:=match o with
  | some d=>.next (ρ.set i (.val d))
  | none=>.fail
@[simp] def Zae (i:Nat) (o:Option (List D)) (ρ:VE):Res:=match o with
  | some xs=>.next (ρ.set i (.own xs))
  | none=>.fail
@[simp] def ZbF (i:Nat) (o:Option (List D)) (ρ:VE):Res:=match o with
  | some xs=>.next (ρ.set i (.own xs true))
  | none=>.fail
theorem ZqZ {f:VE→Option (List D)} {i:Nat} {D':Zdy} {σ:St} {H:Hp} (h:tS K M H0 (fun ρ=>ZbF i (f ρ) ρ) D' σ H):Zh8 (tFb true K M H0 f) (Ze0 i) D' σ H:=by
 obtain ⟨ρ,R,q⟩:=h
 try dsimp only at q
 cases hf:f ρ with
 | none=>simp only [hf,ZbF] at q;exact False.elim q
 | some d =>
  simp only [hf,ZbF] at q
  refine ⟨ρ,d,R,hf,fun a vs H1 s z1 z2 z3=>?_⟩
  obtain ⟨R1,S1⟩:=R.setO (i:=i) s z1 z2 z3
  exact q _ _ R1 S1
theorem Zn4 {f:VE→Option (List D)} {i:Nat} {x:Str} {pos':Pos} (hN:X.N.Nodup) (hi:X.N[i]?=some x) (hx:Loc X.env.scope x) (he:PE X e (tFb true K M H0 f)) (hs:swapsWith e (some (.Name x pos')) pos.line X.env=pure false:=by rfl) (hf:X.fn x=true∨X.env.scope.names.lookup x=some .local:=by first | exact .inl rfl | exact .inr rfl | assumption) :
  PS X (.Assign [.Name x pos'] e pos) (tS K M H0 fun ρ=>ZbF i (f ρ) ρ):=(ZhE hN hi hx he hs hf).mono fun _ _ _ q=>ZqZ q
theorem Zei {f:VE→Option (List D)} {i:Nat} {x:Str} {pos':Pos} (hN:X.N.Nodup) (hi:X.N[i]?=some x) (hx:Loc X.env.scope x) (he:JE X e (tFb true K M H0 f)) (hs:swapsWith e (some (.Name x pos')) pos.line X.env=pure false:=by rfl) (hf:X.fn x=true∨X.env.scope.names.lookup x=some .local:=by first | exact .inl rfl | exact .inr rfl | assumption):JS X (.Assign [.Name x pos'] e pos) (tS K M H0 fun ρ=>ZbF i (f ρ) ρ):=⟨Zn4 hN hi hx he.h hs hf⟩
theorem Zmu {i:Nat} {D':Zdy} {σ:St} {H:Hp} (h:tS K M H0 (fun ρ=>Zq i (f ρ) ρ) D' σ H):Zh8 (tD K M H0 f) (Ze0 i) D' σ H:=by
 obtain ⟨ρ,R,q⟩:=h
 try dsimp only at q
 cases hf:f ρ with
 | none=>simp only [hf,Zq] at q;exact False.elim q
 | some d =>
  simp only [hf,Zq] at q
  refine ⟨ρ,d,R,hf,fun v H1 s hv=>?_⟩
  obtain ⟨R1,S1⟩:=R.setV (i:=i) s hv
  exact q _ _ R1 S1
theorem Zpt {f:VE→Option (List D)} {i:Nat} {D':Zdy} {σ:St} {H:Hp} (h:tS K M H0 (fun ρ=>Zae i (f ρ) ρ) D' σ H):Zh8 (tF K M H0 f) (Ze0 i) D' σ H:=by
 obtain ⟨ρ,R,q⟩:=h
 try dsimp only at q
 cases hf:f ρ with
 | none=>simp only [hf,Zae] at q;exact False.elim q
 | some d =>
  simp only [hf,Zae] at q
  refine ⟨ρ,d,R,hf,fun a vs H1 s z1 z2 z3=>?_⟩
  obtain ⟨R1,S1⟩:=R.setO (i:=i) s z1 z2 z3
  exact q _ _ R1 S1
theorem Zpy {i:Nat} {x:Str} {pos':Pos} (hN:X.N.Nodup) (hi:X.N[i]?=some x) (hx:Loc X.env.scope x) (he:PE X e (tD K M H0 f)) (hs:swapsWith e (some (.Name x pos')) pos.line X.env=pure false:=by rfl) (hf:X.fn x=true∨X.env.scope.names.lookup x=some .local:=by first | exact .inl rfl | exact .inr rfl | assumption) :
  PS X (.Assign [.Name x pos'] e pos) (tS K M H0 fun ρ=>Zq i (f ρ) ρ):=(ZhE hN hi hx he hs hf).mono fun _ _ _ q=>Zmu q
theorem ZC {i:Nat} {x:Str} {pos':Pos} (hN:X.N.Nodup) (hi:X.N[i]?=some x) (hx:Loc X.env.scope x) (he:JE X e (tD K M H0 f)) (hs:swapsWith e (some (.Name x pos')) pos.line X.env=pure false:=by rfl) (hf:X.fn x=true∨X.env.scope.names.lookup x=some .local:=by first | exact .inl rfl | exact .inr rfl | assumption):JS X (.Assign [.Name x pos'] e pos) (tS K M H0 fun ρ=>Zq i (f ρ) ρ):=⟨Zpy hN hi hx he.h hs hf⟩
theorem ZoN {f:VE→Option (List D)} {i:Nat} {x:Str} {pos':Pos} (hN:X.N.Nodup) (hi:X.N[i]?=some x) (hx:Loc X.env.scope x) (he:PE X e (tF K M H0 f)) (hs:swapsWith e (some (.Name x pos')) pos.line X.env=pure false:=by rfl) (hf:X.fn x=true∨X.env.scope.names.lookup x=some .local:=by first | exact .inl rfl | exact .inr rfl | assumption) :
  PS X (.Assign [.Name x pos'] e pos) (tS K M H0 fun ρ=>Zae i (f ρ) ρ):=(ZhE hN hi hx he hs hf).mono fun _ _ _ q=>Zpt q
theorem ZaB {f:VE→Option (List D)} {i:Nat} {x:Str} {pos':Pos} (hN:X.N.Nodup) (hi:X.N[i]?=some x) (hx:Loc X.env.scope x) (he:JE X e (tF K M H0 f)) (hs:swapsWith e (some (.Name x pos')) pos.line X.env=pure false:=by rfl) (hf:X.fn x=true∨X.env.scope.names.lookup x=some .local:=by first | exact .inl rfl | exact .inr rfl | assumption):JS X (.Assign [.Name x pos'] e pos) (tS K M H0 fun ρ=>Zae i (f ρ) ρ):=⟨ZoN hN hi hx he.h hs hf⟩
@[simp] def Zhn (i:Nat) (ρ:VE):VE:=match ρ[i]? with
  | some (.own xs b)=>ρ.set i (.val (.lst xs b))
  | _=>ρ
theorem Zqw (i:Nat) (h:PS X st (tS K M H0 g)):PS X st (tS K M H0 fun ρ=>g (Zhn i ρ)):=h.mono fun D' σ H ⟨ρ,R,q⟩=>by
 try dsimp only at q
 unfold Zhn at q
 split at q
 ·next xs hi =>
  obtain ⟨R1,S1⟩:=R.frz hi
  exact ⟨_,R1,q.from S1⟩
 ·exact ⟨ρ,R,q⟩
theorem Zju (i:Nat) (h:JS X st (tS K M H0 g)):JS X st (tS K M H0 fun ρ=>g (Zhn i ρ)):=⟨Zqw i h.h⟩
@[simp] def Zam (i:Nat) (o:Option D) (ρ:VE):Res:=match rdO ρ i,o with
  | some xs,some d=>if xs.length<sizeLine then .next (ρ.set i (.own (xs++[d]))) else .fail
  | _,_=>.fail
theorem ZlM {i:Nat} {x:Str} {vpos apos cpos:Pos} (hN:X.N[i]?=some x) (hv:Vis X.env.scope x) (he:PE X e (tD K M H0 f)) (hd:(x==("__debug__":Str))=false:=by decide) (hcd:(x==("__classdict__":Str))=false:=by decide)
  (hs:swapsWith (.Call (.Attribute (.Name x vpos) "append" apos) [e] [] cpos) none pos.line X.env=pure false:=by rfl)
  (hbase:attributeBase (.Name x vpos) "append" X.env (eval (.Name x vpos) X.env)=eval (.Name x vpos) X.env:=by rfl)
  (hfew:((backTo cpos (starEach [e] X.env)).all (fun x=>!x.1)&&(backToKw cpos (keywordEach [] X.env)).all (fun x=>x.1.isSome)
   && decide ([e].length+([]:List Keyword).length+(if ([]:List Keyword).isEmpty then 0 else 1)<30))=true:=by rfl)
  (hline:(apos.endLine==cpos.line)=true:=by rfl) (hst:starEach [e] X.env=(false,eval e X.env)::starEach [] X.env:=by rfl) (hpl:(backTo cpos (starEach [] X.env)).any (·.1)=false:=by rfl) :
  PS X (.Expr (.Call (.Attribute (.Name x vpos) "append" apos) [e] [] cpos) pos) (tS K M H0 fun ρ=>Zam i (f ρ) ρ) :=
 (Zk1 (Zld PySem.F.plainAttrs_list PySem.F.slot_list_append PySem.F.type_list_append Zl9 (Zcb hN hv hd hcd) (ZbQ he pa_nil hst) hbase hfew hline hst hpl) hs).mono fun D' σ H ⟨ρ,R,q⟩=>by
  try dsimp only at q
  cases hr:rdO ρ i with
  | none=>simp only [hr,Zam] at q;exact False.elim q
  | some xs =>
   cases hf:f ρ with
   | none=>simp only [hr,hf,Zam] at q;exact False.elim q
   | some d =>
    simp only [hr,hf,Zam] at q
    split at q
    ·next hz =>
     have hi:=Zfp hr
     obtain ⟨a,vs,e1,z1,z2,z3,z4⟩:=R.slot i _ hi
     have ha:=join_some e1
     refine ⟨.ref a,ha,.inl ⟨rfl,vs,.inl (.inl z3)⟩,ρ,d,R,hf,fun v H1 s hv=>?_⟩
     have R1:=R.st s
     obtain ⟨R2,S2⟩:=R1.chg (ys:=xs++[d]) (ws:=vs++[v]) hi ha ((z4.same s).append (DenL.cons hv DenL.nil))
     exact ⟨a,vs,v,rfl,rfl,s _ _ z3,by rw [← z4.length];exact hz,q _ _ R2 ((Step.of_same s).trans S2)⟩
    ·exact False.elim q
theorem Z7 {i:Nat} {x:Str} {vpos apos cpos:Pos} (hN:X.N[i]?=some x) (hv:Vis X.env.scope x) (he:JE X e (tD K M H0 f)) (hd:(x==("__debug__":Str))=false:=by decide) (hcd:(x==("__classdict__":Str))=false:=by decide) (hs:swapsWith (.Call (.Attribute (.Name x vpos) "append" apos) [e] [] cpos) none pos.line X.env=pure false:=by rfl) (hbase:attributeBase (.Name x vpos) "append" X.env (eval (.Name x vpos) X.env)=eval (.Name x vpos) X.env:=by rfl) (hfew:((backTo cpos (starEach [e] X.env)).all (fun x=>!x.1)&&(backToKw cpos (keywordEach [] X.env)).all (fun x=>x.1.isSome)
   && decide ([e].length+([]:List Keyword).length+(if ([]:List Keyword).isEmpty then 0 else 1)<30))=true:=by rfl) (hline:(apos.endLine==cpos.line)=true:=by rfl) (hst:starEach [e] X.env=(false,eval e X.env)::starEach [] X.env:=by rfl) (hpl:(backTo cpos (starEach [] X.env)).any (·.1)=false:=by rfl):JS X (.Expr (.Call (.Attribute (.Name x vpos) "append" apos) [e] [] cpos) pos) (tS K M H0 fun ρ=>Zam i (f ρ) ρ):=⟨ZlM hN hv he.h hd hcd hs hbase hfew hline hst hpl⟩
end
def Znx (K:PySem.W.Frag) (M N:Fb) (H1:Hp) (J:It) (ds:List D):Prop:=∀ N2 H2,Step M N N2 H1 H2→∀ i,(∀ d,ds[i]?=some d→J.go i H2∧∀ x H3,J.yld i H2 x H3→Same H2 H3∧Den K N2 H3 d x)∧(i=ds.length→J.stop i H2)
def tI (K:PySem.W.Frag) (M:Fb) (H0:Hp) (f:VE→Option (List D)):TI:=fun σ H R=>∃ ρ ds,Rel K M H0 ρ σ H∧f ρ=some ds∧∀ J H1,Same H H1→Znx K M (Nf M ρ σ) H1 J ds→R J H1
def tG (K:PySem.W.Frag) (M:Fb) (H0:Hp) (ws:List Nat) (b:D→VE→Option VE):TG:=fun v σ H Q=>∃ ρ d ρ',Rel K M H0 ρ σ H∧Den K (Nf M ρ σ) H d v∧b d ρ=some ρ'∧∀ σ' ,Rel K M H0 ρ' σ' H→Step M (Nf M ρ σ) (Nf M ρ' σ') H H→(∀ j,j∉ws→σ'[j]?=σ[j]?)→Q σ' H
@[simp] def Zo (i:Nat) (d:D) (ρ:VE):Option VE:=some (ρ.set i (.val d))
def ZJ (b:D→VE→Option VE) (g:VE→Res):List D→VE→Res
 | [],ρ=>.next ρ
 | d::ds,ρ=>match b d ρ with
  | none=>.fail
  | some ρ1=>match g ρ1 with
   | .next ρ2=>ZJ b g ds ρ2
   | .cont ρ2=>ZJ b g ds ρ2
   | .brk ρ2=>.next ρ2
   | r=>r
@[simp] def ZT (f:VE→Option (List D)) (b:D→VE→Option VE) (g:VE→Res):VE→Res:=fun ρ=>match f ρ with
  | some ds=>ZJ b g ds ρ
  | none=>.fail
section
variable {X:Cx} {K:PySem.W.Frag} {M:Fb} {H0:Hp} {pos:Pos} {e tg iter:Expr} {f:VE→Option (List D)} {b:D→VE→Option VE} {g:VE→Res} {body:List Stmt}
theorem ZoE {i:Nat} {x:Str} (hN:X.N.Nodup) (hi:X.N[i]?=some x) (hx:Loc X.env.scope x) (hf:X.fn x=true∨X.env.scope.names.lookup x=some .local:=by first | exact .inl rfl | exact .inr rfl | assumption):PG X (.Name x pos) (tG K M H0 [i] (Zo i)):=by
 intro pins s σ H v u Q I r ⟨ρ,d,ρ',R,hd,e,q⟩
 cases e
 obtain ⟨R1,S1⟩:=R.setV (i:=i) (Same.refl H) hd
 exact Zo7 hN hi hx hf pins s σ H v u Q I r (q _ R1 S1 fun j hj=>by rw [List.getElem?_set_ne (fun e=>hj (by rw [e];simp))])
theorem Zx {i:Nat} {x:Str} (hN:X.N.Nodup) (hi:X.N[i]?=some x) (hx:Loc X.env.scope x) (hf:X.fn x=true∨X.env.scope.names.lookup x=some .local:=by first | exact .inl rfl | exact .inr rfl | assumption):JG X (.Name x pos) (tG K M H0 [i] (Zo i)):=⟨ZoE hN hi hx hf⟩
theorem Zp0 {ws:List Nat} {D':Zdy} {σ:St} {H:Hp} {wi:TI} {tg':TG} {tb:TS} (hi:∀ σ H R,tI K M H0 f σ H R→wi σ H R) (hg:∀ v σ H Q,tG K M H0 ws b v σ H Q→tg' v σ H Q) (hb:∀ D σ H,tS K M H0 g D σ H→tb D σ H)
  (h:tS K M H0 (ZT f b g) D' σ H):ZqE wi tg' tb D' σ H:=by
 obtain ⟨ρ,R,q⟩:=h
 try dsimp only at q
 unfold ZT at q
 cases hf:f ρ with
 | none=>rw [hf] at q;exact False.elim q
 | some ds =>
  rw [hf] at q
  refine hi _ _ _ ⟨ρ,ds,R,hf,fun J H1 s1 ok=>?_⟩
  -- at turn i: the slots ρi from which the ZE of the items gives what is wanted
  refine ⟨fun i m σi Hi=>m=ds.length-i∧i≤ds.length∧∃ ρi,Rel K M H0 ρi σi Hi∧Step M (Nf M ρ σ) (Nf M ρi σi) H1 Hi∧resOk K M H0 ρi σi Hi D' (ZJ b g (ds.drop i) ρi),⟨ds.length,by simp,Nat.zero_le _,ρ,R.st s1,Step.refl,?_⟩,?_⟩
  ·exact resOk.from (Step.of_same s1) q
  ·rintro i m σi Hi ⟨rfl,hle,ρi,Ri,Si,qi⟩
   obtain ⟨ok1,ok2⟩:=ok _ _ Si i
   by_cases hlt:i<ds.length
   ·obtain ⟨go,y⟩:=ok1 ds[i] (List.getElem?_eq_getElem hlt)
    rw [List.drop_eq_getElem_cons hlt] at qi
    simp only [ZJ] at qi
    refine .inr ⟨go,fun σ' H'=>i+1≤ds.length∧∃ ρi,Rel K M H0 ρi σ' H'∧Step M (Nf M ρ σ) (Nf M ρi σ') H1 H'∧resOk K M H0 ρi σ' H' D' (ZJ b g (ds.drop (i+1)) ρi),fun σ' H' z=>⟨ds.length-(i+1),by omega,rfl,z⟩,fun x H' yl=>?_⟩
    obtain ⟨s3,hd⟩:=y x H' yl
    cases hbd:b ds[i] ρi with
    | none=>rw [hbd] at qi;exact False.elim qi
    | some ρ1 =>
     rw [hbd] at qi
     simp only at qi
     refine hg _ _ _ _ ⟨ρi,ds[i],ρ1,Ri.st s3,hd,hbd,fun σ1 R1 S1 _=>hb _ _ _ ⟨ρ1,R1,?_⟩⟩
     have S01:Step M (Nf M ρi σi) (Nf M ρ1 σ1) Hi H':=(Step.of_same s3).trans S1
     cases hgr:g ρ1 with
     | fail=>rw [hgr] at qi;exact qi
     | next ρ2=>rw [hgr] at qi;exact fun σ2 H2 R2 S2=>⟨hlt,ρ2,R2,Si.trans (S01.trans S2),resOk.from (S01.trans S2) qi⟩
     | cont ρ2=>rw [hgr] at qi;exact fun σ2 H2 R2 S2=>⟨hlt,ρ2,R2,Si.trans (S01.trans S2),resOk.from (S01.trans S2) qi⟩
     | brk ρ2=>rw [hgr] at qi;exact fun σ2 H2 R2 S2=>qi σ2 H2 R2 (S01.trans S2)
     | ret r=>rw [hgr] at qi;exact qi
   ·have e:i=ds.length:=by omega
    rw [List.drop_eq_nil_of_le (by omega)] at qi
    exact .inl ⟨ok2 e,qi σi Hi Ri Step.refl⟩
theorem ZrD {ws:List Nat} (hp:PassesOwn (model X.prog X.w) X.A X.env X.xe) (hc:X.calm=true) (hi:PI X tg iter (tI K M H0 f)) (hg:PG X tg (tG K M H0 ws b)) (hb:PSs X body (tS K M H0 g))
  (hs:∀ x,foldedSetIterable iter X.env x=pure x:=by intro _;rfl):PS X (.For tg iter body [] pos) (tS K M H0 (ZT f b g)) :=
 (ZpR hp hc hi hg hb hs).mono fun _ _ _ q=>Zp0 (fun _ _ _ z=>z) (fun _ _ _ _ z=>z) (fun _ _ _ z=>z) q
theorem ZU {ws:List Nat} (hp:PassesOwn (model X.prog X.w) X.A X.env X.xe) (hc:X.calm=true) (hi:JI X tg iter (tI K M H0 f)) (hg:JG X tg (tG K M H0 ws b)) (hb:JB X body (tS K M H0 g)) (hs:∀ x,foldedSetIterable iter X.env x=pure x:=by intro _;rfl):JS X (.For tg iter body [] pos) (tS K M H0 (ZT f b g)):=⟨ZrD hp hc hi.h hg.h hb.h hs⟩
theorem PI.mono {wi wi':TI} (h:PI X tg iter wi) (m:∀ σ H R,wi' σ H R→wi σ H R):PI X tg iter wi':=fun pins s σ H R I q=>h pins s σ H R I (m σ H R q)
def DenQ (K:PySem.W.Frag) (M N:Fb) (H:Hp) (d:D) (v:V):Prop:=match d with
 | .lst xs=>∃ a vs,v=.ref a∧(((¬ N a∨M a)∧Rd H a (.lst vs))∨KL K a vs)∧DenL K N H xs vs
 | .lst xs true=>∃ a vs,v=.ref a∧(¬ N a∨M a)∧Rd H a (.dct (Ze6 xs) vs)∧DenL K N H xs vs
 | d=>Den K N H d v
def tQ (K:PySem.W.Frag) (M:Fb) (H0:Hp) (f:VE→Option D):TE:=fun σ H Q=>∃ ρ d,Rel K M H0 ρ σ H∧f ρ=some d∧∀ v H',Same H H'→DenQ K M (Nf M ρ σ) H' d v→Q v H'
theorem Den.q {M N:Fb} {H:Hp} {d:D} {v:V} (h:Den K N H d v):DenQ K M N H d v:=by
 cases d with
 | lst xs fl =>
  simp only [Den] at h
  obtain ⟨a,vs,e,q,r⟩:=h
  cases fl with
  | false =>
   refine ⟨a,vs,e,?_,r⟩
   rcases q with ⟨n,q⟩ | ⟨ws,z,q⟩
   ·exact .inl ⟨.inl n,q⟩
   ·cases z;exact .inr q
  | true =>
   rcases q with ⟨n,q⟩ | ⟨ws,z,_⟩
   ·exact ⟨a,vs,e,.inl n,q,r⟩
   ·cases z
 | _=>exact h
theorem PE.q {f:VE→Option D} (h:PE X e (tD K M H0 f)):PE X e (tQ K M H0 f):=h.mono fun σ H Q ⟨ρ,d,R,e,q⟩=>⟨ρ,d,R,e,fun v H' s z=>q v H' s z.q⟩
theorem j_q {f:VE→Option D} (h:JE X e (tD K M H0 f)):JE X e (tQ K M H0 f):=⟨PE.q h.h⟩
theorem Zpp {M N:Fb} {H:Hp} {xs:List D} {vs:List V} {fl:Bool} {a:Addr} (m:M a) (h:Rd H a (CO fl xs vs)) (r:DenL K N H xs vs):DenQ K M N H (.lst xs fl) (.ref a):=by
 cases fl with
 | false=>exact ⟨a,vs,rfl,.inl ⟨.inr m,h⟩,r⟩
 | true=>exact ⟨a,vs,rfl,.inr m,h,r⟩
@[simp] def rdQ (ρ:VE) (i:Nat):Option D:=match ρ[i]? with
  | some (.val d)=>some d
  | some (.lent xs b)=>some (.lst xs b)
  | _=>none
theorem Zpw {i:Nat} {x:Str} (hN:X.N[i]?=some x) (hv:Vis X.env.scope x) (hd:(x==("__debug__":Str))=false:=by decide) (hcd:(x==("__classdict__":Str))=false:=by decide):PE X (.Name x pos) (tQ K M H0 fun ρ=>rdQ ρ i) :=
 (Zcb hN hv hd hcd).mono fun σ H Q ⟨ρ,d,R,e,q⟩=>by
  try dsimp only at e q
  unfold rdQ at e
  split at e
  ·next h=>cases e;obtain ⟨v,e1,h⟩:=R.slot i _ h;exact ⟨v,join_some e1,q v H (Same.refl H) h.q⟩
  ·next h=>cases e;obtain ⟨a,vs,e1,h2,h3,h4⟩:=R.slot i _ h;exact ⟨_,join_some e1,q _ H (Same.refl H) (Zpp h2 h3 h4)⟩
  ·cases e
def Zi2:D→Option (List D)
 | .lst xs=>some xs
 | _=>none
def ZmK:D→Option (List D)
 | .tup xs=>some xs
 | _=>none
def Zm4:D→Option (List D)
 | .str x=>some (x.cps.toList.map fun c=>D.str ⟨#[c]⟩)
 | _=>none
theorem Zob {l:Expr} {f:VE→Option D} (h:PE X l (tQ X.K M H0 f)):PI X tg l (tI X.K M H0 fun ρ=>(f ρ).bind Zi2):=(Zor h).mono fun σ H R' ⟨ρ,ds,R,e,q⟩=>by
 try dsimp only at e q
 cases hf:f ρ with
 | none=>rw [hf] at e;cases e
 | some d =>
  rw [hf] at e
  cases d with
  | lst xs fl =>
   cases fl with
   | true=>cases e
   | false =>
   cases e
   refine ⟨ρ,.lst _,R,hf,fun v H1 s1 hv=>?_⟩
   obtain ⟨a,vs,e1,hr,hd⟩:=hv
   have sq:∀ N2 H2,Step M (Nf M ρ σ) N2 H1 H2→SqL X.K H2 a vs:=fun N2 H2 S=>by
    rcases hr with ⟨hn,hr⟩ | hr
    ·exact .inl (hr.step S (by rcases hn with z | z;exact .inl z;exact .inr (.inl z)))
    ·exact hr.sq
   refine ⟨a,e1,⟨vs,sq _ _ Step.refl⟩,q _ H1 s1 fun N2 H2 S i=>?_⟩
   have hr2:=sq _ _ S
   have hd2:=DenL.step S _ _ hd
   refine ⟨fun d he=>?_,fun he=>⟨vs,hr2,by rw [he,hd.length];exact Nat.le_refl _⟩⟩
   obtain ⟨w,hw,hdw⟩:=hd2.get he
   refine ⟨⟨vs,w,hr2,hw⟩,fun x H3 y=>?_⟩
   obtain ⟨e3,y⟩:=y
   subst e3
   have:=y vs hr2
   rw [hw] at this;cases this
   exact ⟨Same.refl _,hdw⟩
  | _=>cases e
theorem Zrw {l:Expr} {f:VE→Option D} (h:PE X l (tQ X.K M H0 f)):PI X tg l (tI X.K M H0 fun ρ=>(f ρ).bind ZmK):=(Zqj h).mono fun σ H R' ⟨ρ,ds,R,e,q⟩=>by
 try dsimp only at e q
 cases hf:f ρ with
 | none=>rw [hf] at e;cases e
 | some d =>
  rw [hf] at e
  cases d with
  | tup xs =>
   cases e
   refine ⟨ρ,.tup _,R,hf,fun v H1 s1 hv=>?_⟩
   simp only [DenQ,Den] at hv
   obtain ⟨a,vs,e1,hr,hd⟩:=hv
   refine ⟨a,e1,⟨vs,hr⟩,q _ H1 s1 fun N2 H2 S i=>?_⟩
   have hr2:=hr.step S
   have hd2:=DenL.step S _ _ hd
   refine ⟨fun d he=>?_,fun he=>⟨vs,hr2,by rw [he,hd.length];exact Nat.le_refl _⟩⟩
   obtain ⟨w,hw,hdw⟩:=hd2.get he
   refine ⟨⟨vs,w,hr2,hw⟩,fun x H3 y=>?_⟩
   obtain ⟨e3,y⟩:=y
   subst e3
   have:=y vs hr2
   rw [hw] at this;cases this
   exact ⟨Same.refl _,hdw⟩
  | _=>cases e
theorem Zp3 {l:Expr} {f:VE→Option D} (h:PE X l (tQ K M H0 f)):PI X tg l (tI K M H0 fun ρ=>(f ρ).bind Zm4):=(ZpH h).mono fun σ H R' ⟨ρ,ds,R,e,q⟩=>by
 try dsimp only at e q
 cases hf:f ρ with
 | none=>rw [hf] at e;cases e
 | some d =>
  rw [hf] at e
  cases d with
  | str x =>
   cases e
   refine ⟨ρ,.str x,R,hf,fun v H1 s1 hv=>?_⟩
   simp only [DenQ,Den] at hv
   refine ⟨x,hv,q _ H1 s1 fun N2 H2 S i=>⟨fun d he=>?_,fun he=>?_⟩⟩
   ·rw [List.getElem?_map] at he
    cases hc:x.cps.toList[i]? with
    | none=>rw [hc] at he;cases he
    | some c =>
     rw [hc] at he;cases he
     have hi:i<x.cps.size:=by
      have:=(List.getElem?_eq_some_iff.mp hc).1
      simpa using this
     refine ⟨hi,fun v H3 y=>?_⟩
     obtain ⟨e3,c',hc',y⟩:=y
     subst e3 y
     rw [← Array.getElem?_toList,hc] at hc';cases hc'
     exact ⟨Same.refl _,by simp only [Den]⟩
   ·have:i=x.cps.size:=by simpa using he
    exact Nat.le_of_eq this.symm
  | _=>cases e
def Zck (lo:Int) (n:Nat):List D:=(List.range n).map (fun (k:Nat)=>D.int (lo+(k:Int)))
theorem Zp6 {M N:Fb} {H1:Hp} {lo:Int} {n:Nat}:Znx K M N H1 (Itr lo n) (Zck lo n):=fun N2 H2 S i=>by
 refine ⟨fun d he=>?_,fun he=>?_⟩
 ·have hi:i<n:=by
   have:=(List.getElem?_eq_some_iff.mp he).1
   simpa [Zck] using this
  have e:d=D.int (lo+i):=by
   simp only [Zck,List.getElem?_map,List.getElem?_range hi,Option.map_some,Option.some.injEq] at he
   exact he.symm
  subst e
  refine ⟨hi,fun x H3 y=>?_⟩
  obtain ⟨e3,y⟩:=y
  subst e3 y
  exact ⟨Same.refl _,by simp only [Den]⟩
 ·have:i=n:=by simpa [Zck] using he
  exact Nat.le_of_eq this.symm
noncomputable def gd {α:Type} (p:Prop) (o:Option α):Option α:=@ite _ p (Classical.propDecidable p) o none
theorem Zhz {α:Type} {p:Prop} {o:Option α} (h:p):gd p o=o:=by unfold gd;exact @if_pos _ (Classical.propDecidable p) h _ _ _
theorem ZpC {α:Type} {p:Prop} {o:Option α} {x:α} (h:gd p o=some x):p∧o=some x:=by
 by_cases hp:p
 ·rw [Zhz hp] at h;exact ⟨hp,h⟩
 ·unfold gd at h
  rw [@if_neg _ (Classical.propDecidable p) hp] at h
  cases h
noncomputable def Zbd:List D→Option (List D)
 | [.int j]=>gd (-1000000000≤j∧j<1000000000) (some (Zck 0 j.toNat))
 | _=>none
theorem ZlR {a:Expr} {fa:VE→Option (List Sl)} {p:Pos} (hg:Gl X "range") (hm:X.mg "range"=none) (ha:PA X [a] (tA' K M H0 fa)) (hs:starEach [a] X.env=[(false,eval a X.env)]:=by rfl):PI X tg (.Call (.Name "range" p) [a] [] pos) (tI K M H0 fun ρ=>((fa ρ).bind Zp).bind Zbd) :=
 (ZlH hg hm ha hs).mono fun σ H R' ⟨ρ,ds,R,e,q⟩=>by
  try dsimp only at e q
  cases hf:fa ρ with
  | none=>rw [hf] at e;cases e
  | some ss =>
   rw [hf] at e
   cases hv:Zp ss with
   | none=>simp only [Option.bind,hv] at e;cases e
   | some l =>
    simp only [Option.bind,hv] at e
    unfold Zbd at e
    split at e
    ·next j =>
     obtain ⟨hz,e⟩:=ZpC e
     cases e
     refine ⟨ρ,ss,R,hf,fun vs H1 s1 h1=>?_⟩
     have hd:=Ze8 h1 hv
     simp only [DenL,Den] at hd
     obtain ⟨v,r,e1,e2,e3⟩:=hd
     subst e1 e2 e3
     exact ⟨j,rfl,by omega,by omega,q _ H1 s1 Zp6⟩
    ·cases e
theorem Z5 {a:Expr} {fa:VE→Option (List Sl)} {p:Pos} (hg:Gl X "range") (hm:X.mg "range"=none) (ha:JA X [a] (tA' K M H0 fa)) (hs:starEach [a] X.env=[(false,eval a X.env)]:=by rfl):JI X tg (.Call (.Name "range" p) [a] [] pos) (tI K M H0 fun ρ=>((fa ρ).bind Zp).bind Zbd):=⟨ZlR hg hm ha.h hs⟩
end
end L2
set_option Elab.async false
set_option linter.all false
set_option maxRecDepth 100000
namespace L2
open PySem PySem.Spec PyProof.Rows
def tGs (K:PySem.W.Frag) (M:Fb) (H0:Hp) (ws:List Nat) (b:List D→VE→Option VE):TGs:=fun vs σ H Q=>∃ ρ ds ρ',Rel K M H0 ρ σ H∧DenL K (Nf M ρ σ) H ds vs∧b ds ρ=some ρ'∧∀ σ' ,Rel K M H0 ρ' σ' H→Step M (Nf M ρ σ) (Nf M ρ' σ') H H→(∀ j,j∉ws→σ'[j]?=σ[j]?)→Q σ' H
@[simp] def Zcn:List D→VE→Option VE
  | [],ρ=>some ρ
  | _,_=>none
@[simp] def Z0 (b:D→VE→Option VE) (c:List D→VE→Option VE):List D→VE→Option VE
  | d::r,ρ=>(b d ρ).bind (c r)
  | _,_=>none
@[simp] def Zb8 (n:Nat) (b:List D→VE→Option VE):D→VE→Option VE
  | .tup ds,ρ=>if ds.length=n then b ds ρ else none
  | _,_=>none
section
variable {X:Cx} {K:PySem.W.Frag} {M:Fb} {H0:Hp} {pos:Pos} {e tg iter:Expr} {es:List Expr} {ws ws':List Nat} {b:D→VE→Option VE} {c:List D→VE→Option VE}
theorem Zn8:PGs X [] (tGs K M H0 [] Zcn):=by
 intro pins s σ H vs us Q I r ⟨ρ,ds,ρ',R,hd,e,q⟩
 cases ds with
 | nil =>
  cases e
  simp only [DenL] at hd
  exact Zoi pins s σ H vs us Q I r ⟨hd,q σ R Step.refl fun _ _=>rfl⟩
 | cons=>cases e
theorem Zd8 :JK X [] (tGs K M H0 [] Zcn):=⟨Zn8 ⟩
theorem ZnG (h1:PG X e (tG K M H0 ws b)) (h2:PGs X es (tGs K M H0 ws' c)) (hs:(assignEach (e::es) X.env).map (·.2)=assign e X.env::(assignEach es X.env).map (·.2):=by rfl):PGs X (e::es) (tGs K M H0 (ws++ws') (Z0 b c)):=by
 intro pins s σ H vs us Q I r ⟨ρ,ds,ρ',R,hd,e,q⟩
 cases ds with
 | nil=>cases e
 | cons d ds =>
  simp only [DenL] at hd
  obtain ⟨v,vr,e1,hv,hr⟩:=hd
  subst e1
  simp only [Z0] at e
  cases hb:b d ρ with
  | none=>rw [hb] at e;cases e
  | some ρ1 =>
   rw [hb] at e
   refine Zno h1 h2 hs pins s σ H _ us Q I r ⟨v,vr,rfl,ρ,d,ρ1,R,hv,hb,fun σ1 R1 S1 w1=>⟨ρ1,ds,ρ',R1,DenL.step S1 _ _ hr,e,fun σ2 R2 S2 w2=>q σ2 R2 (S1.trans S2) fun j hj=>?_⟩⟩
   rw [List.mem_append,not_or] at hj
   rw [w2 j hj.2,w1 j hj.1]
theorem ZaA (h1:JG X e (tG K M H0 ws b)) (h2:JK X es (tGs K M H0 ws' c)) (hs:(assignEach (e::es) X.env).map (·.2)=assign e X.env::(assignEach es X.env).map (·.2):=by rfl):JK X (e::es) (tGs K M H0 (ws++ws') (Z0 b c)):=⟨ZnG h1.h h2.h hs⟩
theorem Zpq {k n:Nat} (hc:X.calm=true) (h:PGs X es (tGs X.K M H0 ws c))
  (hn:(assignEach es X.env).length=n:=by rfl) (hst:(assignEach es X.env).findIdx? (·.1)=none:=by rfl):PG X (.Tuple es k pos) (tG X.K M H0 ws (Zb8 n c)):=by
 intro pins s σ H v u Q I r ⟨ρ,d,ρ',R,hd,e,q⟩
 cases d with
 | tup ds =>
  simp only [Zb8] at e
  split at e
  ·next hl =>
   simp only [Den] at hd
   obtain ⟨a,vs,e1,hq,hd⟩:=hd
   exact Zrn hc h hn hst pins s σ H v u Q I r ⟨a,vs,e1,hq,by rw [← hd.length];exact hl,ρ,ds,ρ',R,hd,e,q⟩
  ·cases e
 | _=>cases e
theorem Zfg {k n:Nat} (hc:X.calm=true) (h:JK X es (tGs X.K M H0 ws c)) (hn:(assignEach es X.env).length=n:=by rfl) (hst:(assignEach es X.env).findIdx? (·.1)=none:=by rfl):JG X (.Tuple es k pos) (tG X.K M H0 ws (Zb8 n c)):=⟨Zpq hc h.h hn hst⟩
end
@[simp] def Zm2:Option Sl→Sl
  | some (.val d)=>.val d
  | some (.own xs b)=>.lent xs b
  | some (.lent xs b)=>.lent xs b
  | _=>.no
@[simp] def ZZ (k:Nat) (oix:List Nat) (ρ:VE):VE:=List.replicate k .no++oix.map fun j=>Zm2 ρ[j]?
def ZaV (b:D→VE→Option VE) (t:VE→Option Bool) (e:VE→Option D) (ρ:VE):List D→Option (List D)
 | []=>some []
 | d::ds=>match b d ρ with
  | none=>none
  | some ρ1=>match t ρ1 with
   | some true=>Zc (e ρ1) (ZaV b t e ρ ds)
   | some false=>ZaV b t e ρ ds
   | none=>none
@[simp] def ZX (k:Nat) (oix:List Nat) (f:VE→Option (List D)) (b:D→VE→Option VE) (t:VE→Option Bool) (e:VE→Option D):VE→Option (List D):=fun ρ=>(Zr (f ρ)).bind (ZaV b t e (ZZ k oix ρ))
section
variable {X:Cx} {K:PySem.W.Frag} {M:Fb} {H0:Hp} {pos:Pos} {tg elt iter:Expr} {ifs:List Expr} {scope:Scope} {ws:List Nat} {f:VE→Option (List D)} {b:D→VE→Option VE} {t:VE→Option Bool} {e:VE→Option D} {k:Nat} {oix:List Nat}
theorem Rel.comp {ρ:VE} {σ:St} {H:Hp} (R:Rel K M H0 ρ σ H) (k:Nat) (oix:List Nat):Rel K (Nf M ρ σ) H (ZZ k oix ρ) (ZaL k oix σ) H∧∀ a,Nf (Nf M ρ σ) (ZZ k oix ρ) (ZaL k oix σ) a→Nf M ρ σ a:=by
 have noown:∀ (j:Nat) (xs:List D) (fl:Bool),(ZZ k oix ρ)[j]?≠some (Sl.own xs fl):=fun j xs fl h=>by
  unfold ZZ at h
  rw [List.getElem?_append] at h
  split at h
  ·rw [List.getElem?_replicate] at h
   split at h<;>cases h
  ·rw [List.getElem?_map] at h
   cases ho:oix[j-(List.replicate k Sl.no).length]? with
   | none=>rw [ho] at h;cases h
   | some o =>
    rw [ho] at h
    simp only [Option.map_some,Option.some.injEq] at h
    unfold Zm2 at h
    split at h<;>cases h
 have nf:∀ a,Nf (Nf M ρ σ) (ZZ k oix ρ) (ZaL k oix σ) a→Nf M ρ σ a:=fun a h=>by
  rcases h with h | ⟨j,xs,fl,h,_⟩
  ·exact h
  ·exact absurd h (noown j xs fl)
 refine ⟨⟨by simp [ZZ,ZaL],Same.refl H,R.nh,fun j s h=>?_,fun i j xs ys fl fl' a h=>absurd h (noown i xs fl)⟩,nf⟩
 unfold ZZ at h
 rw [List.getElem?_append] at h
 split at h
 ·rw [List.getElem?_replicate] at h
  split at h
  ·cases h;trivial
  ·cases h
 ·next hge =>
  rw [List.getElem?_map] at h
  have hσ:(ZaL k oix σ)[j]?=(oix[j-k]?).map fun i=>(σ[i]?).join:=by
   unfold ZaL
   rw [List.getElem?_append_right (by simpa using hge),List.getElem?_map]
   simp
  rw [hσ]
  simp only [List.length_replicate] at h
  cases ho:oix[j-k]? with
  | none=>rw [ho] at h;cases h
  | some o =>
   rw [ho] at h
   simp only [Option.map_some,Option.some.injEq] at h
   simp only [Option.map_some,Option.join_some]
   unfold Zm2 at h
   split at h
   ·next d hd=>subst h;obtain ⟨v,e1,q⟩:=R.slot o _ hd;exact ⟨v,e1,q.nw fun a ha=>.inl (nf a ha)⟩
   ·next xs fl hd =>
    subst h
    obtain ⟨a,vs,e1,z1,z2,z3,z4⟩:=R.slot o _ hd
    exact ⟨a,vs,e1,.inr ⟨o,xs,fl,hd,join_some e1⟩,.inl z3,z4.nw fun a ha=>.inl (nf a ha)⟩
   ·next xs hd =>
    subst h
    obtain ⟨a,vs,e1,z1,z2,z3⟩:=R.slot o _ hd
    exact ⟨a,vs,e1,.inl z1,z2,z3.nw fun a ha=>.inl (nf a ha)⟩
   ·subst h;trivial
def Zp4 (K:PySem.W.Frag) (ws:List Nat) (b:D→VE→Option VE):TG:=fun v σ H Q=>∃ M H0,tG K M H0 ws b v σ H Q
def Zq8 (K:PySem.W.Frag) (t:VE→Option Bool):TT:=fun σ H Q=>∃ M H0,tB' K M H0 t σ H Q
def ZqH (K:PySem.W.Frag) (e:VE→Option D):TE:=fun σ H Q=>∃ M H0,tD K M H0 e σ H Q
theorem Zkw (hw:∀ j∈ws,j<k) {wi:TI} (hi:∀ σ H R,tI K M H0 f σ H R→wi σ H R) {σ:St} {H:Hp} {Q:VK} (h:tF K M H0 (ZX k oix f b t e) σ H Q):Zlw k oix wi (Zp4 K ws b) (Zq8 K t) (ZqH K e) σ H Q:=by
 obtain ⟨ρ,xs,R,ex,q⟩:=h
 try dsimp only at ex q
 unfold ZX at ex
 cases hf:Zr (f ρ) with
 | none=>rw [hf] at ex;cases ex
 | some ds =>
  rw [hf] at ex
  obtain ⟨hf,hz⟩:=ZeV hf
  have ex:ZaV b t e (ZZ k oix ρ) ds=some xs:=ex
  refine hi _ _ _ ⟨ρ,ds,R,hf,fun J H1 s1 ok=>?_⟩
  refine ⟨ds.length,fun i ys H2=>i≤ds.length∧ys.length≤i∧Same H1 H2∧∃ acc ZE,DenL K (Nf M ρ σ) H2 acc ys∧ZaV b t e (ZZ k oix ρ) (ds.drop i)=some ZE∧acc++ZE=xs,⟨Nat.zero_le _,Nat.le_refl _,Same.refl _,[],xs,DenL.nil,ex,rfl⟩,?_⟩
  rintro i ys H2 ⟨hle,hy,s2,acc,ZE,hacc,hc,hx⟩
  obtain ⟨ok1,ok2⟩:=ok _ H2 (Step.of_same s2) i
  by_cases hlt:i<ds.length
  ·obtain ⟨go,y⟩:=ok1 ds[i] (List.getElem?_eq_getElem hlt)
   rw [List.drop_eq_getElem_cons hlt] at hc
   simp only [ZaV] at hc
   refine .inr ⟨go,hlt,by omega,fun ys' H'=>ys'.length≤i+1∧Same H1 H'∧∃ acc ZE,DenL K (Nf M ρ σ) H' acc ys'∧ZaV b t e (ZZ k oix ρ) (ds.drop (i+1))=some ZE∧acc++ZE=xs,fun ys' H' z=>⟨hlt,z⟩,fun x H3 yl=>?_⟩
   obtain ⟨s3,hd⟩:=y x H3 yl
   have R3:=((R.st s1).st s2).st s3
   obtain ⟨Rc,nf⟩:=R3.comp k oix
   cases hb:b ds[i] (ZZ k oix ρ) with
   | none=>rw [hb] at hc;cases hc
   | some ρ1 =>
    rw [hb] at hc
    simp only at hc
    refine ⟨Nf M ρ σ,H3,ZZ k oix ρ,ds[i],ρ1,Rc,hd.nw fun a ha=>.inl (nf a ha),hb,fun σ4 R4 S4 w4=>⟨?_,?_⟩⟩
    ·apply List.ext_getElem?
     intro j
     rw [List.getElem?_drop,List.getElem?_drop]
     exact w4 _ fun hj=>absurd (hw _ hj) (by omega)
    ·cases ht:t ρ1 with
     | none=>rw [ht] at hc;cases hc
     | some bb =>
      rw [ht] at hc
      refine ⟨Nf M ρ σ,H3,ρ1,bb,R4,ht,fun H5 s5=>?_⟩
      cases bb with
      | true =>
       simp only at hc
       obtain ⟨yd,rest',e1,e2,e3⟩:=Zea hc
       refine ZgO ?_
       refine ⟨Nf M ρ σ,H3,ρ1,yd,R4.st s5,e1,fun v H6 s6 hv=>⟨?_,((s2.trans s3).trans s5).trans s6,acc++[yd],rest',(hacc.same ((s3.trans s5).trans s6)).append (DenL.cons (hv.nw fun a ha=>.inl (.inl ha)) DenL.nil),e2,?_⟩⟩
       ·simp only [List.length_append,List.length_singleton];omega
       ·subst e3;rw [← hx];simp
      | false =>
       refine ZgP ?_
       exact ⟨by omega,(s2.trans s3).trans s5,acc,ZE,hacc.same (s3.trans s5),hc,hx⟩
  ·have ei:i=ds.length:=by omega
   rw [List.drop_eq_nil_of_le (by omega)] at hc
   cases hc
   rw [List.append_nil] at hx
   subst hx
   exact .inl ⟨ok2 ei,by omega,fun p hp=>Zge (s1.trans s2) hp hacc q⟩
theorem PG.all {Y:Cx} (h:∀ M H0,PG Y tg (tG K M H0 ws b)):PG Y tg (Zp4 K ws b):=fun pins s σ H v u Q I r ⟨M,H0,z⟩=>h M H0 pins s σ H v u Q I r z
theorem PFs.all {Y:Cx} (h:∀ M H0,PFs Y ifs (tB' K M H0 t)):PFs Y ifs (Zq8 K t):=fun pins s σ H Q I ⟨M,H0,z⟩=>h M H0 pins s σ H Q I z
theorem PE.all {Y:Cx} (h:∀ M H0,PE Y elt (tD K M H0 e)):PE Y elt (ZqH K e):=fun pins s σ H Q I ⟨M,H0,z⟩=>h M H0 pins s σ H Q I z
theorem Zq3 {Y:Cx}:PFs Y [] (tB' K M H0 fun _=>some true):=fun pins s σ H Q I ⟨ρ,b,R,e,q⟩=>Zqn pins s σ H Q I (by cases e;exact q H (Same.refl H))
theorem Zaq {Y:Cx}:JF Y [] (tB' K M H0 fun _=>some true):=⟨Zq3 ⟩
theorem ZqB {Y:Cx} {c:Expr} (h:PT Y c (tB' K M H0 t)):PFs Y [c] (tB' K M H0 t):=ZpG h
theorem Zj6 {Y:Cx} {c:Expr} (h:JT Y c (tB' K M H0 t)):JF Y [c] (tB' K M H0 t):=⟨ZqB h.h⟩
theorem Zos (own outs:List Str) (oix:List Nat) (S:Zag own outs scope X.env.scope) (hox:oix.map (fun j=>X.N[j]?)=outs.map some) (hc:X.calm=true) (hi:PI X tg iter (tI K M H0 f))
  (hg:∀ C s2 H2 fp pins M' H',PG (cxC X own outs scope C s2 H2 fp pins) tg (tG K M' H' ws b))
  (ht:∀ C s2 H2 fp pins M' H',PFs (cxC X own outs scope C s2 H2 fp pins) ifs (tB' K M' H' t))
  (he:∀ C s2 H2 fp pins M' H',PE (cxC X own outs scope C s2 H2 fp pins) elt (tD K M' H' e)) (hw:∀ j∈ws,j<own.length)
  (hs:∀ x,foldedSetIterable iter X.env x=pure x:=by intro _;rfl) :
  PE X (.ListComp elt [⟨tg,iter,ifs,0⟩] scope pos) (tF K M H0 (ZX own.length oix f b t e)) :=
 (Zo0 own outs oix S hox hc hi (fun C s2 H2 fp pins=>PG.all (hg C s2 H2 fp pins)) (fun C s2 H2 fp pins=>PFs.all (ht C s2 H2 fp pins)) (fun C s2 H2 fp pins=>PE.all (he C s2 H2 fp pins)) hs).mono
  fun _ _ _ z=>Zkw hw (fun _ _ _ z=>z) z
theorem ZaP (own outs:List Str) (oix:List Nat) (S:Zag own outs scope X.env.scope) (hox:oix.map (fun j=>X.N[j]?)=outs.map some) (hc:X.calm=true) (hi:JI X tg iter (tI K M H0 f)) (hg:∀ C s2 H2 fp pins M' H',JG (cxC X own outs scope C s2 H2 fp pins) tg (tG K M' H' ws b)) (ht:∀ C s2 H2 fp pins M' H',JF (cxC X own outs scope C s2 H2 fp pins) ifs (tB' K M' H' t)) (he:∀ C s2 H2 fp pins M' H',JE (cxC X own outs scope C s2 H2 fp pins) elt (tD K M' H' e)) (hw:∀ j∈ws,j<own.length) (hs:∀ x,foldedSetIterable iter X.env x=pure x:=by intro _;rfl):JE X (.ListComp elt [⟨tg,iter,ifs,0⟩] scope pos) (tF K M H0 (ZX own.length oix f b t e)):=⟨Zos own outs oix S hox hc hi.h (fun C s2 H2 fp pins M' H'=>(hg C s2 H2 fp pins M' H').h) (fun C s2 H2 fp pins M' H'=>(ht C s2 H2 fp pins M' H').h) (fun C s2 H2 fp pins M' H'=>(he C s2 H2 fp pins M' H').h) hw hs⟩
theorem Zki (own outs:List Str) (oix:List Nat) {i:Nat} {x:Str} {pos' spos:Pos} (S:Zag own outs scope X.env.scope) (hox:oix.map (fun j=>X.N[j]?)=outs.map some) (hc:X.calm=true)
  (hN:X.N.Nodup) (hix:X.N[i]?=some x) (hx:X.env.scope.names.lookup x=some .local) (hi:PI X tg iter (tI K M H0 f))
  (hg:∀ C s2 H2 fp pins M' H',PG (cxC X own outs scope C s2 H2 fp pins) tg (tG K M' H' ws b))
  (ht:∀ C s2 H2 fp pins M' H',PFs (cxC X own outs scope C s2 H2 fp pins) ifs (tB' K M' H' t))
  (he:∀ C s2 H2 fp pins M' H',PE (cxC X own outs scope C s2 H2 fp pins) elt (tD K M' H' e)) (hw:∀ j∈ws,j<own.length)
  (hsw:swapsWith (.ListComp elt [⟨tg,iter,ifs,0⟩] scope pos) (some (.Name x pos')) spos.line X.env=pure true:=by rfl)
  (hs:∀ x,foldedSetIterable iter X.env x=pure x:=by intro _;rfl) :
  PS X (.Assign [.Name x pos'] (.ListComp elt [⟨tg,iter,ifs,0⟩] scope pos) spos) (tS K M H0 fun ρ=>Zq i (Zw (ZX own.length oix f b t e ρ)) ρ) :=
 (Zlx own outs oix S hox hc hN hix hx hi (fun C s2 H2 fp pins=>PG.all (hg C s2 H2 fp pins)) (fun C s2 H2 fp pins=>PFs.all (ht C s2 H2 fp pins)) (fun C s2 H2 fp pins=>PE.all (he C s2 H2 fp pins)) hsw hs).mono
  fun D' σ H z=>by
   have z':tD K M H0 (fun ρ=>Zw (ZX own.length oix f b t e ρ)) σ H (fun x H1=>Ze0 i x σ H1 D'.nx):=Zmu z
   obtain ⟨ρ,d,R,ed,q⟩:=z'
   try dsimp only at ed q
   cases hf:ZX own.length oix f b t e ρ with
   | none=>rw [hf] at ed;cases ed
   | some xs =>
    rw [hf] at ed;cases ed
    refine Zkw hw (fun _ _ _ z=>z) ⟨ρ,xs,R,hf,fun a vs H' s z1 z2 z3=>q _ _ s ?_⟩
    simp only [Den]
    exact ⟨a,vs,rfl,.of (R.fresh z1) z2,z3.nw fun b hb=>.inl (.inl hb)⟩
theorem ZaZ (own outs:List Str) (oix:List Nat) {i:Nat} {x:Str} {pos' spos:Pos} (S:Zag own outs scope X.env.scope) (hox:oix.map (fun j=>X.N[j]?)=outs.map some) (hc:X.calm=true) (hN:X.N.Nodup) (hix:X.N[i]?=some x) (hx:X.env.scope.names.lookup x=some .local) (hi:JI X tg iter (tI K M H0 f)) (hg:∀ C s2 H2 fp pins M' H',JG (cxC X own outs scope C s2 H2 fp pins) tg (tG K M' H' ws b)) (ht:∀ C s2 H2 fp pins M' H',JF (cxC X own outs scope C s2 H2 fp pins) ifs (tB' K M' H' t)) (he:∀ C s2 H2 fp pins M' H',JE (cxC X own outs scope C s2 H2 fp pins) elt (tD K M' H' e)) (hw:∀ j∈ws,j<own.length) (hsw:swapsWith (.ListComp elt [⟨tg,iter,ifs,0⟩] scope pos) (some (.Name x pos')) spos.line X.env=pure true:=by rfl) (hs:∀ x,foldedSetIterable iter X.env x=pure x:=by intro _;rfl):JS X (.Assign [.Name x pos'] (.ListComp elt [⟨tg,iter,ifs,0⟩] scope pos) spos) (tS K M H0 fun ρ=>Zq i (Zw (ZX own.length oix f b t e ρ)) ρ):=⟨Zki own outs oix S hox hc hN hix hx hi.h (fun C s2 H2 fp pins M' H'=>(hg C s2 H2 fp pins M' H').h) (fun C s2 H2 fp pins M' H'=>(ht C s2 H2 fp pins M' H').h) (fun C s2 H2 fp pins M' H'=>(he C s2 H2 fp pins M' H').h) hw hsw hs⟩
end
def fnP (np n:Nat) (g:VE→Res):List Sl→Option Rv:=fun ss=>if ss.length=np then
  match g (ss++List.replicate (n-np) .no) with
  | .ret r=>some r
  | .next _=>some (.val .non)
  | _=>none
 else none
theorem Zmi {K:PySem.W.Frag} {N:Fb} {H:Hp} {ss:List Sl} {vs:List V} (nh:∀ a,N a→H a≠none) (h:ArgsOk K N H ss vs) (n:Nat):Rel K N H (ss++List.replicate n .no) (vs.map some++List.replicate n none) H:=by
 have hl:=h.length
 have noown:∀ (j:Nat) (xs:List D) (fl:Bool),(ss++List.replicate n Sl.no)[j]?≠some (Sl.own xs fl):=fun j xs fl e=>by
  rw [List.getElem?_append] at e
  split at e
  ·obtain ⟨v,_,q⟩:=h.get e;exact q
  ·rw [List.getElem?_replicate] at e
   split at e<;>cases e
 have nf:∀ a,Nf N (ss++List.replicate n Sl.no) (vs.map some++List.replicate n none) a→N a:=fun a z=>by
  rcases z with z | ⟨j,xs,fl,z,_⟩
  ·exact z
  ·exact absurd z (noown j xs fl)
 refine ⟨by simp [hl],Same.refl H,nh,fun j s e=>?_,fun i j xs ys fl fl' a z=>absurd z (noown i xs fl)⟩
 rw [List.getElem?_append] at e
 split at e
 ·next hj =>
  obtain ⟨v,ev,q⟩:=h.get e
  rw [List.getElem?_append_left (by simpa [← hl] using hj),List.getElem?_map,ev]
  cases s with
  | val d=>exact ⟨v,rfl,Den.nw q fun a ha=>.inl (nf a ha)⟩
  | lent xs fl=>obtain ⟨a,us,e1,z1,z2,z3⟩:=q;exact ⟨a,us,by rw [e1];rfl,z1,z2,z3.nw fun a ha=>.inl (nf a ha)⟩
  | no=>trivial
  | own xs fl=>exact False.elim q
  | exc c=>exact False.elim q
 ·rw [List.getElem?_replicate] at e
  split at e
  ·cases e;trivial
  ·cases e
theorem Zr8 {P:Program} {w:World} {K:PySem.W.Frag} {mg:Str→Option Value} {base:Heap} {x qual:Str} {st:Stmt} {f:Addr} {fd:FuncData} {N ps:List Str} {k:Nat} {g:VE→Res} (F:Fun K x qual st f fd) (S:ZL N ps (Zn st)) (hnp:ps.length≤N.length)
  (hb:∀ (cdv:Value) (A:Around) (outer:List Env) (s:Shared) (H:Hp) (E:XK) (M:Fb) (H0:Hp),Room k (A.deeper (envOfC qual (Zn st) s.heap.objs.size f cdv)) →
   PSs (Zf7 CX0 P w K mg base N qual (Zn st) f cdv A outer s H E).nox (ZK st) (tS K M H0 g)):FnOk P w K mg base CX0 (k+1) f fd ps (spD K (fnP ps.length N.length g)):=by
 refine F.ok S (fun vs H Q E h=>?_) (fun cdv A outer s H vs Q E hr h=>?_)
 ·obtain ⟨N',ss,r,nh,ha,hF,q⟩:=h
  unfold fnP at hF
  split at hF
  ·next hl=>rw [← ha.length];exact hl
  ·cases hF
 ·obtain ⟨N',ss,r,nh,ha,hF,q⟩:=h
  refine ⟨_,hb cdv A outer s H E N' H hr,?_⟩
  unfold fnP at hF
  split at hF
  ·next hl =>
   have hs:ZcT N vs=vs.map some++List.replicate (N.length-ps.length) none:=by unfold ZcT;rw [← ha.length,hl]
   rw [hs]
   refine ⟨_,Zmi nh ha (N.length-ps.length),?_⟩
   cases hg:g (ss++List.replicate (N.length-ps.length) .no) with
   | fail=>rw [hg] at hF;cases hF
   | next ρ'=>rw [hg] at hF;cases hF;exact fun σ' H' R' S'=>q .non H' R'.same (by simp only [Zlf,Den])
   | brk ρ'=>rw [hg] at hF;cases hF
   | cont ρ'=>rw [hg] at hF;cases hF
   | ret r'=>rw [hg] at hF;cases hF;exact fun v H' s hv=>q v H' s hv
  ·cases hF
theorem Z3 {P:Program} {w:World} {K:PySem.W.Frag} {mg:Str→Option Value} {base:Heap} {x qual:Str} {st:Stmt} {f:Addr} {fd:FuncData} {N ps:List Str} {k:Nat} {g:VE→Res} (F:Fun K x qual st f fd) (S:ZL N ps (Zn st)) (hnp:ps.length≤N.length)
  (hb:∀ (cdv:Value) (A:Around) (outer:List Env) (s:Shared) (H:Hp) (E:XK) (M:Fb) (H0:Hp),Room k (A.deeper (envOfC qual (Zn st) s.heap.objs.size f cdv)) →
   JB (Zf7 CX0 P w K mg base N qual (Zn st) f cdv A outer s H E).nox (ZK st) (tS K M H0 g)):FnOk P w K mg base CX0 (k+1) f fd ps (spD K (fnP ps.length N.length g)) :=
 Zr8 F S hnp fun cdv A outer s H E M H0 hr=>(hb cdv A outer s H E M H0 hr).h
theorem ZqN {P:Program} {w:World} {K:PySem.W.Frag} {mg:Str→Option Value} {base:Heap} {k:Nat} {f:Addr} {fd:FuncData} {F:List Sl→Option Rv} (G:FnOk P w K mg base CX0 k f fd ["_law_script"] (spD K F))
  (h:∀ ns:List Int,ns.length≤63→F [.val (.lst (ns.map D.int))]=some (.val (.bl true))):FnOk P w K mg base CX0 k f fd ["_law_script"] (ZiV K) :=
 G.imp fun vs H Q E ⟨a,ns,e,hs,hl,q⟩=>by
  refine ⟨fun _=>False,[.val (.lst (ns.map D.int))],.val (.bl true),fun _ z=>z.elim,⟨_,[],e,?_,rfl⟩,h ns hl,fun v H' s hv=>?_⟩
  ·simp only [ArgOk,Den]
   exact ⟨a,_,rfl,.of_sq hs,DenL.ints ns⟩
  ·simp only [Zlf,Den] at hv
   subst hv;exact q H'
end L2
set_option Elab.async false
set_option linter.all false
set_option maxRecDepth 100000
namespace L2
open PySem PySem.Spec PyProof.Rows
section
variable {K:PySem.W.Frag}
@[simp] def i2 (g:Int→Int→Option D):D→D→Option D
  | .int i,.int j=>g i j
  | _,_=>none
theorem Zjw {g:Int→Int→Option D} {x y d:D} (h:i2 g x y=some d):∃ i j,x=.int i∧y=.int j∧g i j=some d:=by
 unfold i2 at h
 split at h
 ·exact ⟨_,_,rfl,rfl,h⟩
 ·cases h
theorem DenP.int {N:Fb} {H:Hp} {i:Int} {v:V} (h:DenP K N H (.int i) v):v=.int i:=by simpa only [DenP,Den] using h
theorem DenP.str {N:Fb} {H:Hp} {i:Str} {v:V} (h:DenP K N H (.str i) v):v=.str i:=by simpa only [DenP,Den] using h
theorem DenP.bl {N:Fb} {H:Hp} {i:Bool} {v:V} (h:DenP K N H (.bl i) v):v=.bl i:=by simpa only [DenP,Den] using h
theorem DenP.non {N:Fb} {H:Hp} {v:V} (h:DenP K N H .non v):v=.non:=by simpa only [DenP,Den] using h
theorem DenP.ty {N:Fb} {H:Hp} {i:String} {v:V} (h:DenP K N H (.ty i) v):v=.ty i:=by simpa only [DenP,Den] using h
theorem DenP.tup {N:Fb} {H:Hp} {xs:List D} {v:V} (h:DenP K N H (.tup xs) v):∃ a vs,v=.ref a∧SqT K H a vs∧DenL K N H xs vs:=by simpa only [DenP,Den] using h
theorem ZbR {N:Fb} {H:Hp} {i:Int}:Den K N H (.int i) (.int i):=by simp only [Den]
theorem Zbx {N:Fb} {H:Hp} {i:Bool}:Den K N H (.bl i) (.bl i):=by simp only [Den]
theorem Zh1 {N:Fb} {H:Hp} {i:Str}:Den K N H (.str i) (.str i):=by simp only [Den]
theorem ZrJ (g:Int→Int→Int):R2D K (rI0 fun i j=>.int (g i j)) (i2 fun i j=>some (.int (g i j))):=by
 intro N H x y d1 d2 d Q nh h1 h2 e q
 obtain ⟨i,j,rfl,rfl,e⟩:=Zjw e
 cases e
 exact ⟨i,j,h1.int,h2.int,q _ H (Same.refl H) ZbR⟩
theorem ZrR (g:Int→Int→Bool):R2D K (rI0 fun i j=>.bl (g i j)) (i2 fun i j=>some (.bl (g i j))):=by
 intro N H x y d1 d2 d Q nh h1 h2 e q
 obtain ⟨i,j,rfl,rfl,e⟩:=Zjw e
 cases e
 exact ⟨i,j,h1.int,h2.int,q _ H (Same.refl H) Zbx⟩
theorem ZjW {C:Int→Int→Prop} [∀ i j,Decidable (C i j)] (g:Int→Int→Int):R2D K (rI C fun i j=>.int (g i j)) (i2 fun i j=>if C i j then some (.int (g i j)) else none):=by
 intro N H x y d1 d2 d Q nh h1 h2 e q
 obtain ⟨i,j,rfl,rfl,e'⟩:=Zjw e
 split at e'
 ·next hc=>cases e';exact ⟨i,j,h1.int,h2.int,hc,q _ H (Same.refl H) ZbR⟩
 ·cases e'
instance (i j:Int):Decidable (ZjU i j):=by unfold ZjU;exact inferInstance
instance (i j:Int):Decidable (CMul i j):=by unfold CMul;exact inferInstance
instance (i j:Int):Decidable (Zjl i j):=by unfold Zjl;exact inferInstance
@[simp] def ZhR:D→D→Option D:=i2 fun i j=>some (.int (i-j))
@[simp] def ZaY:D→D→Option D:=i2 fun i j=>if CMul i j then some (.int (i * j)) else none
@[simp] def ZcX:D→D→Option D:=i2 fun i j=>if ZjU i j then some (.int (i / j)) else none
@[simp] def Zai:D→D→Option D:=i2 fun i j=>if 0<j then some (.int (i%j)) else none
@[simp] def Zhm:D→D→Option D:=i2 fun i j=>if Zjl i j then some (.int (i^j.toNat)) else none
@[simp] def leD:D→D→Option D:=i2 fun i j=>some (.bl (decide (i≤j)))
@[simp] def gtD:D→D→Option D:=i2 fun i j=>some (.bl (decide (j<i)))
@[simp] def geD:D→D→Option D:=i2 fun i j=>some (.bl (decide (j≤i)))
section
variable {X:Cx} {M:Fb} {H0:Hp} {a b:Expr} {f g:VE→Option D} {pos:Pos}
theorem Zqb (ha:PE X a (tP K M H0 f)) (hb:PE X b (tP K M H0 g)):PE X (.BinOp a .Sub b pos) (tD K M H0 (Zd ZhR f g)):=ZeQ ZpL (ZrJ _) ha hb
theorem Zjp (ha:JE X a (tP K M H0 f)) (hb:JE X b (tP K M H0 g)):JE X (.BinOp a .Sub b pos) (tD K M H0 (Zd ZhR f g)):=⟨Zqb ha.h hb.h⟩
theorem Zp5 (ha:PE X a (tP K M H0 f)) (hb:PE X b (tP K M H0 g)):PE X (.BinOp a .Mult b pos) (tD K M H0 (Zd ZaY f g)):=ZeQ ZqJ (ZjW _) ha hb
theorem Zay (ha:JE X a (tP K M H0 f)) (hb:JE X b (tP K M H0 g)):JE X (.BinOp a .Mult b pos) (tD K M H0 (Zd ZaY f g)):=⟨Zp5 ha.h hb.h⟩
theorem Zoz (ha:PE X a (tP K M H0 f)) (hb:PE X b (tP K M H0 g)):PE X (.BinOp a .FloorDiv b pos) (tD K M H0 (Zd ZcX f g)):=ZeQ ZoZ (ZjW _) ha hb
theorem ZbI (ha:JE X a (tP K M H0 f)) (hb:JE X b (tP K M H0 g)):JE X (.BinOp a .FloorDiv b pos) (tD K M H0 (Zd ZcX f g)):=⟨Zoz ha.h hb.h⟩
theorem Zrf (ha:PE X a (tP K M H0 f)) (hb:PE X b (tP K M H0 g)):PE X (.BinOp a .Mod b pos) (tD K M H0 (Zd Zai f g)):=ZeQ ZqA (ZjW _) ha hb
theorem ZS (ha:JE X a (tP K M H0 f)) (hb:JE X b (tP K M H0 g)):JE X (.BinOp a .Mod b pos) (tD K M H0 (Zd Zai f g)):=⟨Zrf ha.h hb.h⟩
theorem ZpU (ha:PE X a (tP K M H0 f)) (hb:PE X b (tP K M H0 g)):PE X (.BinOp a .Pow b pos) (tD K M H0 (Zd Zhm f g)):=ZeQ Zpz (ZjW _) ha hb
theorem ZeY (ha:JE X a (tP K M H0 f)) (hb:JE X b (tP K M H0 g)):JE X (.BinOp a .Pow b pos) (tD K M H0 (Zd Zhm f g)):=⟨ZpU ha.h hb.h⟩
@[simp] def Zen:Option D→Option D
  | some (.int i)=>some (.int (-i))
  | _=>none
theorem ZpZ (ha:PE X a (tP K M H0 f)):PE X (.UnaryOp .USub a pos) (tD K M H0 fun ρ=>Zen (f ρ)):=(Zsj ZqI ha).mono fun σ H Q ⟨ρ,d,R,e,q⟩=>by
 try dsimp only at e q
 unfold Zen at e
 split at e
 ·next i hf=>cases e;exact ⟨ρ,.int i,R,hf,fun v H' s hv=>⟨i,hv.int,q _ H' s ZbR⟩⟩
 ·cases e
theorem Zfj (ha:JE X a (tP K M H0 f)):JE X (.UnaryOp .USub a pos) (tD K M H0 fun ρ=>Zen (f ρ)):=⟨ZpZ ha.h⟩
end
end
section
variable {X:Cx}
def ZnW (K:PySem.W.Frag):R2:=fun x y H Q=>∃ l b xs zs,x=.ref l∧y=.ref b∧SqL K H l xs∧SqL K H b zs∧xs.length+zs.length≤sizeLine∧∀ p,H p=none→Q (.ref p) (upd H p (.lst (xs++zs)))
theorem op_catG:OpR X (binaryOp .Add) (ZnW X.K):=by
 intro pins s σ H x y v u Q I rx ry h
 obtain ⟨l,b,xs,zs,rfl,rfl,hH,hB,hz,q⟩:=h
 cases rx
 cases ry
 obtain ⟨its,r,p1,z1⟩:=I.list hH
 obtain ⟨its2,r2,p2,z2⟩:=I.list hB
 have hl:=r.length
 have hl2:=r2.length
 obtain ⟨⟨cls,dd,data,sl⟩,ho,hc,n,hd⟩:=p1.isList
 obtain ⟨⟨cls2,dd2,data2,sl2⟩,ho2,hc2,n2,hd2⟩:=p2.isList
 simp only at hc hd hc2 hd2
 subst hc hd hc2 hd2
 have e:its.toArray++its2.toArray=(its++its2).toArray:=by simp
 refine concat_meets ⟨_,ho,rfl⟩ ⟨_,ho2,rfl⟩ noFill_list_add seq_list_add PySem.F.slot_list_add PySem.F.entry_list_add (PySem.F.args_list_add_2 _ _) (list_addW l b its.toArray its2.toArray n n2 dd dd2 sl sl2 (by rw [List.size_toArray,List.size_toArray];omega)) ⟨ho,ho2,?_⟩
 rw [e]
 exact ⟨.ref _,_,I.lnew (t':=s.toks) (r.append r2) (by rw [List.length_append];omega),rfl,q _ I.fresh⟩
def Zl1 (K:PySem.W.Frag):R2:=fun x y H Q=>∃ l b xs zs,x=.ref l∧y=.ref b∧SqT K H l xs∧SqT K H b zs∧xs.length+zs.length≤sizeLine ∧
 (xs=[]→Q (.ref b) H)∧(zs=[]→Q (.ref l) H)∧∀ p,H p=none→Q (.ref p) (upd H p (.tup (xs++zs)))
theorem ZmU:OpR X (binaryOp .Add) (Zl1 X.K):=by
 intro pins s σ H x y v u Q I rx ry h
 obtain ⟨l,b,xs,zs,rfl,rfl,hH,hB,hz,qx,qz,q⟩:=h
 cases rx
 cases ry
 obtain ⟨its,r,p1,z1⟩:=I.tuple hH
 obtain ⟨its2,r2,p2,z2⟩:=I.tuple hB
 have hl:=r.length
 have hl2:=r2.length
 obtain ⟨⟨cls,dd,data,sl⟩,ho,hc,n,hd⟩:=id p1
 obtain ⟨⟨cls2,dd2,data2,sl2⟩,ho2,hc2,n2,hd2⟩:=id p2
 simp only at hc hd hc2 hd2
 subst hc hd hc2 hd2
 by_cases h1:xs=[]
 ·have hi:its.toArray.isEmpty=true:=by
   subst h1
   have:its=[]:=List.length_eq_zero_iff.mp hl.symm
   subst this;rfl
  exact concat_meets ⟨_,ho,rfl⟩ ⟨_,ho2,rfl⟩ noFill_tuple_add seq_tuple_add PySem.F.slot_tuple_add PySem.F.entry_tuple_add (PySem.F.args_tuple_add_2 _ _) (tuple_addW0 l b its.toArray its2.toArray n n2 dd dd2 sl sl2 hi) ⟨ho,ho2,⟨.ref b,H,I,rfl,qx h1⟩⟩
 ·have hi:¬ its.toArray.isEmpty=true:=by
   intro z
   have:its=[]:=by simpa using z
   subst this
   exact h1 (List.length_eq_zero_iff.mp hl)
  by_cases h2:zs=[]
  ·have hi2:its2.toArray.isEmpty=true:=by
    subst h2
    have:its2=[]:=List.length_eq_zero_iff.mp hl2.symm
    subst this;rfl
   exact concat_meets ⟨_,ho,rfl⟩ ⟨_,ho2,rfl⟩ noFill_tuple_add seq_tuple_add PySem.F.slot_tuple_add PySem.F.entry_tuple_add (PySem.F.args_tuple_add_2 _ _) (tuple_addW1 l b its.toArray its2.toArray n n2 dd dd2 sl sl2 hi hi2) ⟨ho,ho2,⟨.ref l,H,I,rfl,qz h2⟩⟩
  ·have hi2:¬ its2.toArray.isEmpty=true:=by
    intro z
    have:its2=[]:=by simpa using z
    subst this
    exact h2 (List.length_eq_zero_iff.mp hl2)
   have e:its.toArray++its2.toArray=(its++its2).toArray:=by simp
   refine concat_meets ⟨_,ho,rfl⟩ ⟨_,ho2,rfl⟩ noFill_tuple_add seq_tuple_add PySem.F.slot_tuple_add PySem.F.entry_tuple_add (PySem.F.args_tuple_add_2 _ _) (tuple_addW2 l b its.toArray its2.toArray n n2 dd dd2 sl sl2 hi hi2 (by rw [List.size_toArray,List.size_toArray];omega)) ⟨ho,ho2,?_⟩
   rw [e]
   refine ⟨.ref s.heap.objs.size,upd H s.heap.objs.size (.tup (xs++zs)),I.laid (t':=s.toks) (fun b u e=>Heap.get?_push_of_some _ e) (Nat.le_refl _) ?_,rfl,q _ I.fresh⟩
   exact ⟨by rw [List.length_append];omega,its++its2,r.append r2,IsTup.new _ _⟩
end
@[simp] def ZW:D→D→Option D
  | .int i,.int j=>some (.int (i+j))
  | .str x,.str y=>if x.length+y.length≤sizeLine then some (.str (x++y)) else none
  | .lst xs,.lst ys=>if xs.length+ys.length≤sizeLine then some (.lst (xs++ys)) else none
  | .tup xs,.tup ys=>if xs.length+ys.length≤sizeLine then some (.tup (xs++ys)) else none
  | _,_=>none
def Zn0 (K:PySem.W.Frag):R2:=fun x y H Q=>rI0 (fun i j=>.int (i+j)) x y H Q∨(∃ i j,x=.str i∧y=.str j∧i.length+j.length≤sizeLine∧Q (.str (i++j)) H)∨ZnW K x y H Q∨Zl1 K x y H Q
theorem ZoY {X:Cx}:OpR X (binaryOp .Add) (Zn0 X.K):=op_add.or (op_add_str.or (op_catG.or ZmU))
theorem Zji {K:PySem.W.Frag} {N:Fb} {H:Hp} {xs:List D} {vs:List V} {p:Addr} (nh:∀ a,N a→H a≠none) (hp:H p=none) (h:DenL K N H xs vs):Den K N (upd H p (.lst vs)) (.lst xs) (.ref p):=by
 simp only [Den]
 exact ⟨p,vs,rfl,.of (fun z=>nh p z hp) ZaJ,h.same (ZaG hp)⟩
theorem Ze5 {K:PySem.W.Frag} {N:Fb} {H:Hp} {xs:List D} {vs:List V} {p:Addr} (hp:H p=none) (h:DenL K N H xs vs):Den K N (upd H p (.tup vs)) (.tup xs) (.ref p):=by
 simp only [Den]
 exact ⟨p,vs,rfl,SqT.of ZaJ,h.same (ZaG hp)⟩
theorem Zpr {K:PySem.W.Frag}:R2D K (Zn0 K) ZW:=by
 intro N H x y d1 d2 d Q nh h1 h2 e q
 unfold ZW at e
 split at e
 ·cases e;exact .inl ⟨_,_,h1.int,h2.int,q _ H (Same.refl H) ZbR⟩
 ·split at e
  ·next hz=>cases e;exact .inr (.inl ⟨_,_,h1.str,h2.str,hz,q _ H (Same.refl H) Zh1⟩)
  ·cases e
 ·split at e
  ·next hz =>
   cases e
   obtain ⟨a,vs,e1,q1,r1⟩:=h1
   obtain ⟨b,ws,e2,q2,r2⟩:=h2
   exact .inr (.inr (.inl ⟨a,b,vs,ws,e1,e2,q1,q2,by rw [← r1.length,← r2.length];exact hz,fun p hp=>q _ _ (ZaG hp) (Zji nh hp (r1.append r2))⟩))
  ·cases e
 ·split at e
  ·next hz =>
   cases e
   obtain ⟨a,vs,e1,q1,r1⟩:=h1.tup
   obtain ⟨b,ws,e2,q2,r2⟩:=h2.tup
   refine .inr (.inr (.inr ⟨a,b,vs,ws,e1,e2,q1,q2,by rw [← r1.length,← r2.length];exact hz,fun z=>?_,fun z=>?_,fun p hp=>q _ _ (ZaG hp) (Ze5 hp (r1.append r2))⟩))
   ·refine q _ H (Same.refl H) ?_
    simp only [Den]
    exact ⟨b,vs++ws,rfl,by rw [z];exact q2,r1.append r2⟩
   ·refine q _ H (Same.refl H) ?_
    simp only [Den]
    exact ⟨a,vs++ws,rfl,by rw [z,List.append_nil];exact q1,r1.append r2⟩
  ·cases e
 ·cases e
theorem Zqt {X:Cx} {M:Fb} {H0:Hp} {a b:Expr} {f g:VE→Option D} {pos:Pos} (ha:PE X a (tP X.K M H0 f)) (hb:PE X b (tP X.K M H0 g)):PE X (.BinOp a .Add b pos) (tD X.K M H0 (Zd ZW f g)):=ZeQ ZoY Zpr ha hb
theorem ZQ {X:Cx} {M:Fb} {H0:Hp} {a b:Expr} {f g:VE→Option D} {pos:Pos} (ha:JE X a (tP X.K M H0 f)) (hb:JE X b (tP X.K M H0 g)):JE X (.BinOp a .Add b pos) (tD X.K M H0 (Zd ZW f g)):=⟨Zqt ha.h hb.h⟩
section
variable {prog:Program} {w:World} {A:Around} {E:Value→Shared→Prop} {s:Shared}
theorem ZfO {t sl:Addr} {items:Array Value} {vl vu:Value} {lo hi:Option Int} {Q:Value→Shared→Prop} (ht:IsTup s.heap t items) (hs:s.heap.IsSliceOf sl vl vu .none) (pl:IsPart vl lo) (pu:IsPart vu hi)
  (hw:HT.sIx items.size 0 lo=0∧HT.sIx items.size items.size hi=items.size) (h:Q (.ref t) s):wpAny (model prog w) A (getItem (.ref t) (.ref sl)) Q E s:=by
 obtain ⟨os,hos,hcs,hds⟩:=id hs
 have hTs:s.TypeIs (.ref sl) "slice":=⟨os,hos,hcs⟩
 unfold getItem
 try with_reducible refine wpAny_holding ?_
 first | refine wpAny_bind (wpAny_pure ?_) | skip
 refine wpAny_bind (wpAny_sequenceKey ht.typeIs (by decide) ?_)
 refine wpAny_bind (wpAny_callSpecial?_slot (name:=Str.ofString "__getitem__") ht.typeIs PyProof.Rows.slot_tuple_getitem
  (wpAny_call_entry PyProof.Rows.slot_tuple_getitem ht.typeIs entry_tuple_getitem ?_ (args_tuple_getitem _ _)))
 show wpAny _ _ (Builtin.Tuple.tupleItemsOf (.ref t) >>= _) _ _ s
 refine wpAny_bind (PyProof.Rows.tupleItemsOf_ ht ?_)
 refine wpAny_bind (wpAny_typeOf hTs ?_)
 rw [if_pos (by decide)]
 refine wpAny_bind (HT.sliceApplied_gen hs pl pu ?_)
 have hyes:(((HT.sIx items.size 0 lo:Nat):Int)==0&&(1:Int)==1&&(HT.sIx items.size items.size hi-HT.sIx items.size 0 lo)==items.size)=true:=by
  rw [hw.1,hw.2];simp
 show wpAny _ _ (if (((HT.sIx items.size 0 lo:Nat):Int)==0&&(1:Int)==1&&(HT.sIx items.size items.size hi-HT.sIx items.size 0 lo)==items.size)=true then _ else _) _ _ s
 rw [if_pos hyes]
 unfold Builtin.Tuple.tupleIsExact
 refine wpAny_bind (wpAny_bind (wpAny_typeOf ht.typeIs (wpAny_pure ?_)))
 rw [if_pos (by decide)]
 exact wpAny_bind (wpAny_rule (wpAny_pure ⟨_,rfl,wpAny_pure h⟩))
end
def Zr7 (K:PySem.W.Frag):V→Option Int→Option Int→Hp→VK→Prop:=fun x lo hi H Q=>∃ a xs,x=.ref a∧SqT K H a xs∧(ZdR xs lo hi=xs→Q (.ref a) H)∧∀ p,H p=none→Q (.ref p) (upd H p (.tup (ZdR xs lo hi)))
theorem sl_tupG {X:Cx}:SlR X (Zr7 X.K):=by
 intro pins s σ H x v vl vu lo hi sl Q I rx hs pl pu h
 obtain ⟨a,xs,rfl,hx,qw,q⟩:=h
 by_cases hw:HT.sIx xs.length 0 lo=0∧HT.sIx xs.length xs.length hi=xs.length
 ·cases rx
  obtain ⟨its,r,ht,hz⟩:=I.tuple hx
  have hlen:its.toArray.size=xs.length:=by rw [List.size_toArray];exact r.length.symm
  refine ⟨"tuple",_,PyProof.Rows.slot_tuple_getitem.lookup,ht.typeIs,ZfO ht hs pl pu (by rw [hlen];exact hw) ⟨.ref a,H,I,rfl,qw ?_⟩⟩
  unfold ZdR
  rw [hw.1,hw.2,List.drop_zero,Nat.sub_zero,List.take_length]
 ·exact Zrq pins s σ H _ v vl vu lo hi sl Q I rx hs pl pu ⟨a,xs,rfl,hx,hw,q⟩
@[simp] def ixD:D→D→Option D
  | .lst xs,.int i=>atI xs i
  | .tup xs,.int i=>atI xs i
  | .str x,.int i=>if x.length≤sizeLine then (atI x.cps.toList i).map fun c=>.str ⟨#[c]⟩ else none
  | _,_=>none
theorem DenL.atI {K:PySem.W.Frag} {N:Fb} {H:Hp} {xs:List D} {vs:List V} {i:Int} {d:D} (h:DenL K N H xs vs) (e:L2.atI xs i=some d):∃ v,L2.atI vs i=some v∧Den K N H d v:=by
 unfold L2.atI at e ⊢
 rw [← h.length]
 cases hj:ixN xs.length i with
 | none=>rw [hj] at e;cases e
 | some j=>rw [hj] at e;exact h.get e
theorem Zr1 {K:PySem.W.Frag}:R2D K (rIx K) ixD:=by
 intro N H x y d1 d2 d Q nh h1 h2 e q
 unfold ixD at e
 split at e
 ·obtain ⟨a,vs,e1,q1,r1⟩:=h1
  obtain ⟨v,ev,hv⟩:=r1.atI e
  exact .inl ⟨a,vs,_,v,e1,h2.int,q1,ev,q v H (Same.refl H) hv⟩
 ·obtain ⟨a,vs,e1,q1,r1⟩:=h1.tup
  obtain ⟨v,ev,hv⟩:=r1.atI e
  exact .inr (.inl ⟨a,vs,_,v,e1,h2.int,q1,ev,q v H (Same.refl H) hv⟩)
 ·split at e
  ·next z i hz =>
   cases hc:atI z.cps.toList i with
   | none=>rw [hc] at e;cases e
   | some c=>rw [hc] at e;cases e;exact .inr (.inr ⟨z,i,c,h1.str,h2.int,hz,hc,q _ H (Same.refl H) Zh1⟩)
  ·cases e
 ·cases e
section
variable {X:Cx} {K:PySem.W.Frag} {M:Fb} {H0:Hp} {a b e:Expr} {f g:VE→Option D} {pos p2:Pos}
theorem ZoD (ha:PE X a (tP X.K M H0 f)) (hb:PE X b (tP X.K M H0 g)) (hs:Zdm b):PE X (.Subscript a b pos) (tD X.K M H0 (Zd ixD f g)):=ZnV ZpJ Zr1 ha hb hs
theorem Zm (ha:JE X a (tP X.K M H0 f)) (hb:JE X b (tP X.K M H0 g)) (hs:Zdm b):JE X (.Subscript a b pos) (tD X.K M H0 (Zd ixD f g)):=⟨ZoD ha.h hb.h hs⟩
def tO (K:PySem.W.Frag) (M:Fb) (H0:Hp) (o:VE→Option (Option Int)):TO:=fun σ H Q=>∃ ρ i,Rel K M H0 ρ σ H∧o ρ=some i∧∀ H',Same H H'→Q i H'
@[simp] def asI:Option D→Option (Option Int)
  | some (.int i)=>some (some i)
  | _=>none
theorem PO.mono {e:Option Expr} {t t':TO} (h:PO X e t) (m:∀ σ H Q,t' σ H Q→t σ H Q):PO X e t':=by
 intro pins s σ H Q I q
 exact h pins s σ H Q I (m σ H Q q)
theorem ZoG:PO X none (tO K M H0 fun _=>some none):=PO.mono Zn9 fun σ H Q ⟨ρ,i,R,e,q⟩=>by (try dsimp only at e q);cases e;exact q H (Same.refl H)
theorem Zf8 :JO X none (tO K M H0 fun _=>some none):=⟨ZoG ⟩
theorem Zoc (h:PE X e (tP K M H0 f)):PO X (some e) (tO K M H0 fun ρ=>asI (f ρ)):=PO.mono (Zpg h) fun σ H Q ⟨ρ,i,R,e,q⟩=>by
 try dsimp only at e q
 unfold asI at e
 split at e
 ·next j hf=>cases e;exact ⟨ρ,.int j,R,hf,fun v H' s hv=>⟨j,hv.int,q H' s⟩⟩
 ·cases e
theorem Zgn (h:JE X e (tP K M H0 f)):JO X (some e) (tO K M H0 fun ρ=>asI (f ρ)):=⟨Zoc h.h⟩
def ZcA {α:Type} (xs:List α) (lo hi:Option Int):List α:=(xs.drop (HT.sIx xs.length 0 lo)).take (HT.sIx xs.length xs.length hi-HT.sIx xs.length 0 lo)
@[simp] def slD (x:D) (lo hi:Option Int):Option D:=match x with
  | .lst xs=>some (.lst (ZcA xs lo hi))
  | .tup xs=>some (.tup (ZcA xs lo hi))
  | .str x=>if x.length≤sizeLine then some (.str (Txt.slice x lo hi)) else none
  | _=>none
@[simp] def slL (x:D) (lo hi:Option Int):Option (List D):=match x with
  | .lst xs=>some (ZcA xs lo hi)
  | _=>none
theorem DenL.cut {K:PySem.W.Frag} {N:Fb} {H:Hp} {xs:List D} {vs:List V} (h:DenL K N H xs vs) (lo hi:Option Int):DenL K N H (ZcA xs lo hi) (ZdR vs lo hi):=by
 unfold ZcA ZdR
 rw [h.length]
 exact (h.drop _).take _
@[simp] def sl3 {α:Type} (f:VE→Option D) (lo hi:VE→Option (Option Int)) (F:D→Option Int→Option Int→Option α):VE→Option α:=fun ρ=>(f ρ).bind fun x=>(lo ρ).bind fun l=>(hi ρ).bind fun h=>F x l h
theorem ZoL {α:Type} {f:VE→Option D} {lo hi:VE→Option (Option Int)} {F:D→Option Int→Option Int→Option α} {ρ:VE} {d:α} (h:sl3 f lo hi F ρ=some d):∃ x l u,f ρ=some x∧lo ρ=some l∧hi ρ=some u∧F x l u=some d:=by
 unfold sl3 at h
 cases hf:f ρ with
 | none=>rw [hf] at h;cases h
 | some x =>
  cases hl:lo ρ with
  | none=>rw [hf,hl] at h;cases h
  | some l =>
   cases hu:hi ρ with
   | none=>rw [hf,hl,hu] at h;cases h
   | some u=>rw [hf,hl,hu] at h;exact ⟨x,l,u,rfl,rfl,rfl,h⟩
theorem Znr {el eu:Option Expr} {lo hi:VE→Option (Option Int)} (he:PE X e (tP X.K M H0 f)) (hl:PO X el (tO X.K M H0 lo)) (hu:PO X eu (tO X.K M H0 hi)) :
  PE X (.Subscript e (.Slice el eu none p2) pos) (tD X.K M H0 (sl3 f lo hi slD)):=(ZmM (sl_list.or (sl_tupG.or Zps)) he hl hu).mono fun σ H Q ⟨ρ,d,R,ex,q⟩=>by
 try dsimp only at ex q
 obtain ⟨x,l,u,e1,e2,e3,e4⟩:=ZoL ex
 refine ⟨ρ,x,R,e1,fun v H1 s1 hv=>⟨ρ,l,R.st s1,e2,fun H2 s2=>⟨ρ,u,(R.st s1).st s2,e3,fun H3 s3=>?_⟩⟩⟩
 have hv:=(hv.same s2).same s3
 have s:=(s1.trans s2).trans s3
 have R3:=R.st s
 unfold slD at e4
 split at e4
 ·cases e4
  obtain ⟨a,vs,ea,qa,ra⟩:=hv
  exact .inl ⟨a,vs,ea,qa,fun p hp=>q _ _ (s.trans (ZaG hp)) (Zji R3.nh hp (ra.cut l u))⟩
 ·cases e4
  obtain ⟨a,vs,ea,qa,ra⟩:=hv.tup
  refine .inr (.inl ⟨a,vs,ea,qa,fun z=>q _ _ s ?_,fun p hp=>q _ _ (s.trans (ZaG hp)) (Ze5 hp (ra.cut l u))⟩)
  simp only [Den]
  exact ⟨a,vs,rfl,qa,z ▸ ra.cut l u⟩
 ·split at e4
  ·next hz=>cases e4;exact .inr (.inr ⟨_,hv.str,hz,q _ _ s Zh1⟩)
  ·cases e4
 ·cases e4
theorem ZeU {el eu:Option Expr} {lo hi:VE→Option (Option Int)} (he:JE X e (tP X.K M H0 f)) (hl:JO X el (tO X.K M H0 lo)) (hu:JO X eu (tO X.K M H0 hi)):JE X (.Subscript e (.Slice el eu none p2) pos) (tD X.K M H0 (sl3 f lo hi slD)):=⟨Znr he.h hl.h hu.h⟩
end
end L2
set_option Elab.async false
set_option linter.all false
set_option maxRecDepth 100000
namespace L2
open PySem PySem.Spec PyProof.Rows
mutual
def eqD:D→D→Bool
 | .non,.non=>true
 | .bl a,.bl b=>a==b
 | .bl a,.int b=>(if a then 1 else 0)==b
 | .int a,.bl b=>a==(if b then 1 else 0)
 | .int a,.int b=>a==b
 | .str a,.str b=>a==b
 | .tup xs,.tup ys=>Zaj xs ys
 | .lst xs,.lst ys=>Zaj xs ys
 | _,_=>false
def Zaj:List D→List D→Bool
 | [],[]=>true
 | x::xs,y::ys=>eqD x y&&Zaj xs ys
 | _,_=>false
end
@[simp] def okD:Nat→D→Bool
  | _,.non=>true
  | _,.bl _=>true
  | _,.int _=>true
  | _,.str _=>true
  | n+1,.tup xs=>xs.all (okD n)
  | n+1,.lst xs=>xs.all (okD n)
  | _,_=>false
mutual
theorem Zhh:∀ (n:Nat) (d:D),okD n d=true→eqD d d=true
 | _,.non,_=>by simp only [eqD]
 | _,.bl _,_=>by simp only [eqD,beq_self_eq_true]
 | _,.int _,_=>by simp only [eqD,beq_self_eq_true]
 | _,.str _,_=>by simp only [eqD,beq_self_eq_true]
 | 0,.ty _,h=>by simp [okD] at h
 | _+1,.ty _,h=>by simp [okD] at h
 | 0,.tup xs,h=>by simp [okD] at h
 | 0,.lst xs _,h=>by simp [okD] at h
 | n+1,.tup xs,h=>by simp only [okD] at h;simp only [eqD];exact Zc2 n xs h
 | n+1,.lst xs false,h=>by simp only [okD] at h;simp only [eqD];exact Zc2 n xs h
 | n+1,.lst xs true,h=>by simp [okD] at h
theorem Zc2:∀ (n:Nat) (xs:List D),xs.all (okD n)=true→Zaj xs xs=true
 | _,[],_=>by simp only [Zaj]
 | n,x::xs,h=>by
  simp only [List.all_cons,Bool.and_eq_true] at h
  simp only [Zaj,Bool.and_eq_true]
  exact ⟨Zhh n x h.1,Zc2 n xs h.2⟩
end
theorem Zhk:∀ {xs ys:List D},xs.length≠ys.length→Zaj xs ys=false
 | [],[],h=>absurd rfl h
 | [],_::_,_=>by simp only [Zaj]
 | _::_,[],_=>by simp only [Zaj]
 | x::xs,y::ys,h=>by
  simp only [Zaj]
  rw [Zhk (xs:=xs) (ys:=ys) (by simpa using h),Bool.and_false]
theorem Zhq:∀ {xs ys:List D},xs.length=ys.length→Zaj xs ys=(List.range xs.length).all fun j=>eqD (xs.getD j .non) (ys.getD j .non)
 | [],[],_=>by simp [Zaj]
 | [],_::_,h=>by simp at h
 | _::_,[],h=>by simp at h
 | x::xs,y::ys,h=>by
  have ih:=Zhq (xs:=xs) (ys:=ys) (by simpa using h)
  simp only [Zaj,List.length_cons,List.range_succ_eq_map,List.all_cons,List.getD_cons_zero,List.all_map,ih]
  rfl
section
variable {X:Cx} {pins:List (Addr×Obj)} {σ:St} {H:Hp} {s:Shared}
theorem Inv.apart (I:Inv X pins σ H s) {a:Addr} {xs ys:List V} (h:SqL X.K H a xs) (h':SqT X.K H a ys):False:=by
 obtain ⟨its,r,⟨o,n,e,c,_⟩,_⟩:=I.list h
 obtain ⟨its',r',⟨o',e',c',_⟩,_⟩:=I.tuple h'
 rw [e] at e';cases e'
 rw [c] at c'
 exact absurd c' (by decide)
theorem Rd.dct_inj {H:Hp} {a:Addr} {ks ks':List KT} {vs vs':List V} (h:Rd H a (.dct ks vs)) (h':Rd H a (.dct ks' vs')):vs=vs':=by
 rcases h with h | ⟨o,h⟩<;>rcases h' with h' | ⟨o',h'⟩<;>(rw [h] at h';cases h';try rfl)
theorem Inv.apartDL (I:Inv X pins σ H s) {a:Addr} {ks:List KT} {xs ys:List V} (h:Rd H a (.dct ks xs)) (h':SqL X.K H a ys):False:=by
 obtain ⟨_,_,_,o,_,_,e,c,_⟩:=h.ok I.hok
 obtain ⟨its',r',⟨o',n',e',c',_⟩,_⟩:=I.list h'
 rw [e] at e';cases e'
 rw [c.1] at c'
 exact absurd c' (by decide)
theorem Inv.apartDT (I:Inv X pins σ H s) {a:Addr} {ks:List KT} {xs ys:List V} (h:Rd H a (.dct ks xs)) (h':SqT X.K H a ys):False:=by
 obtain ⟨_,_,_,o,_,_,e,c,_⟩:=h.ok I.hok
 obtain ⟨its',r',⟨o',e',c',_⟩,_⟩:=I.tuple h'
 rw [e] at e';cases e'
 rw [c.1] at c'
 exact absurd c' (by decide)
mutual
/-- what an address denotes is one thing -/
theorem Zk4 (I:Inv X pins σ H s) {N N':Fb}:∀ (d d':D) (v:V),DenP X.K N H d v→DenP X.K N' H d' v→d=d'
 | .non,d',v,h,h'=>by
  have h:=h.non
  cases d' with
  | non=>rfl
  | bl _=>rw [h'.bl] at h;cases h
  | int _=>rw [h'.int] at h;cases h
  | str _=>rw [h'.str] at h;cases h
  | ty _=>rw [h'.ty] at h;cases h
  | tup _=>obtain ⟨_,_,e,_⟩:=h'.tup;rw [e] at h;cases h
  | lst _ fl=>cases fl<;>(obtain ⟨_,_,e,_⟩:=h';rw [e] at h;cases h)
 | .bl _,d',v,h,h'=>by
  have h:=h.bl
  cases d' with
  | non=>rw [h'.non] at h;cases h
  | bl _=>rw [h'.bl] at h;cases h;rfl
  | int _=>rw [h'.int] at h;cases h
  | str _=>rw [h'.str] at h;cases h
  | ty _=>rw [h'.ty] at h;cases h
  | tup _=>obtain ⟨_,_,e,_⟩:=h'.tup;rw [e] at h;cases h
  | lst _ fl=>cases fl<;>(obtain ⟨_,_,e,_⟩:=h';rw [e] at h;cases h)
 | .int _,d',v,h,h'=>by
  have h:=h.int
  cases d' with
  | non=>rw [h'.non] at h;cases h
  | bl _=>rw [h'.bl] at h;cases h
  | int _=>rw [h'.int] at h;cases h;rfl
  | str _=>rw [h'.str] at h;cases h
  | ty _=>rw [h'.ty] at h;cases h
  | tup _=>obtain ⟨_,_,e,_⟩:=h'.tup;rw [e] at h;cases h
  | lst _ fl=>cases fl<;>(obtain ⟨_,_,e,_⟩:=h';rw [e] at h;cases h)
 | .str _,d',v,h,h'=>by
  have h:=h.str
  cases d' with
  | non=>rw [h'.non] at h;cases h
  | bl _=>rw [h'.bl] at h;cases h
  | int _=>rw [h'.int] at h;cases h
  | str _=>rw [h'.str] at h;cases h;rfl
  | ty _=>rw [h'.ty] at h;cases h
  | tup _=>obtain ⟨_,_,e,_⟩:=h'.tup;rw [e] at h;cases h
  | lst _ fl=>cases fl<;>(obtain ⟨_,_,e,_⟩:=h';rw [e] at h;cases h)
 | .ty _,d',v,h,h'=>by
  have h:=h.ty
  cases d' with
  | non=>rw [h'.non] at h;cases h
  | bl _=>rw [h'.bl] at h;cases h
  | int _=>rw [h'.int] at h;cases h
  | str _=>rw [h'.str] at h;cases h
  | ty _=>rw [h'.ty] at h;cases h;rfl
  | tup _=>obtain ⟨_,_,e,_⟩:=h'.tup;rw [e] at h;cases h
  | lst _ fl=>cases fl<;>(obtain ⟨_,_,e,_⟩:=h';rw [e] at h;cases h)
 | .tup xs,d',v,h,h'=>by
  obtain ⟨a,vs,e,q,r⟩:=h.tup
  subst e
  cases d' with
  | non=>cases h'.non
  | bl _=>cases h'.bl
  | int _=>cases h'.int
  | str _=>cases h'.str
  | ty _=>cases h'.ty
  | tup ys =>
   obtain ⟨b,ws,e,q',r'⟩:=h'.tup
   cases e
   have:=I.tuple_inj q q'
   subst this
   rw [ZcQ I xs ys vs r r']
  | lst _ fl =>
   cases fl with
   | false=>obtain ⟨b,ws,e,q',_⟩:=h';cases e;exact (I.apart q' q).elim
   | true=>obtain ⟨b,ws,e,q',_⟩:=h';cases e;exact (I.apartDT q' q).elim
 | .lst xs true,d',v,h,h'=>by
  obtain ⟨a,vs,e,q,r⟩:=h
  subst e
  cases d' with
  | non=>cases h'.non
  | bl _=>cases h'.bl
  | int _=>cases h'.int
  | str _=>cases h'.str
  | ty _=>cases h'.ty
  | tup ys=>obtain ⟨b,ws,e,q',r'⟩:=h'.tup;cases e;exact (I.apartDT q q').elim
  | lst ys fl =>
   cases fl with
   | false=>obtain ⟨b,ws,e,q',r'⟩:=h';cases e;exact (I.apartDL q q').elim
   | true =>
    obtain ⟨b,ws,e,q',r'⟩:=h'
    cases e
    have:=Rd.dct_inj q q'
    subst this
    rw [ZcQ I xs ys vs r r']
 | .lst xs false,d',v,h,h'=>by
  obtain ⟨a,vs,e,q,r⟩:=h
  subst e
  cases d' with
  | non=>cases h'.non
  | bl _=>cases h'.bl
  | int _=>cases h'.int
  | str _=>cases h'.str
  | ty _=>cases h'.ty
  | tup ys=>obtain ⟨b,ws,e,q',r'⟩:=h'.tup;cases e;exact (I.apart q q').elim
  | lst ys fl =>
   cases fl with
   | true=>obtain ⟨b,ws,e,q',r'⟩:=h';cases e;exact (I.apartDL q' q).elim
   | false =>
   obtain ⟨b,ws,e,q',r'⟩:=h'
   cases e
   have:=I.list_inj q q'
   subst this
   rw [ZcQ I xs ys vs r r']
theorem ZcQ (I:Inv X pins σ H s) {N N':Fb}:∀ (xs ys:List D) (vs:List V),DenL X.K N H xs vs→DenL X.K N' H ys vs→xs=ys
 | [],ys,vs,h,h'=>by
  simp only [DenL] at h;subst h
  cases ys with
  | nil=>rfl
  | cons y ys=>simp only [DenL] at h';obtain ⟨_,_,e,_⟩:=h';cases e
 | x::xs,ys,vs,h,h'=>by
  simp only [DenL] at h
  obtain ⟨v,r,e,q,t⟩:=h
  subst e
  cases ys with
  | nil=>simp only [DenL] at h';cases h'
  | cons y ys =>
   simp only [DenL] at h'
   obtain ⟨v',r',e,q',t'⟩:=h'
   cases e
   rw [Zk4 I x y v q.p q'.p,ZcQ I xs ys r t t']
end
open SeqAt
theorem getD_some {α:Type} {xs:List α} {j:Nat} {d e:α} (h:xs[j]?=some e):xs.getD j d=e:=by simp [List.getD_eq_getElem?_getD,h]
theorem ZgR {its:List Value} {j:Nat} {u:Value} (h1:j<its.toArray.size) (e:its[j]?=some u):its.toArray[j]=u:=by
 obtain ⟨_,e⟩:=List.getElem?_eq_some_iff.mp e
 simpa using e
def ZpK (A:Around) (s:Shared) (u v:Value) (b:Bool):Prop:=RcAt A s u v b∧EqAt A s u v b∧RcNeAt A s u v (!b)
theorem Zcr (A:Around):A.in1.units=A.units+1:=rfl
theorem ZdY (I:Inv X pins σ H s) {N:Fb}:∀ (n:Nat) (A:Around) (x y:D) (vx vy:V) (u v:Value),A.units+n<cLine→okD n x=true→okD n y=true→DenP X.K N H x vx→DenP X.K N H y vy→RelV vx u→RelV vy v→ZpK A s u v (eqD x y):=by
 intro n
 induction n with
 | zero =>
  intro A x y vx vy u v hu ox oy hx hy rx ry
  have hu':A.units<cLine:=by omega
  cases x with
  | non =>
   rw [hx.non] at rx;cases rx
   cases y with
   | non=>rw [hy.non] at ry;cases ry;simp only [eqD];exact ⟨RcAt.none_none,EqAt.same _,RcNeAt.none_none⟩
   | bl _=>rw [hy.bl] at ry;cases ry;simp only [eqD];exact ⟨RcAt.none_bool _,EqAt.none_bool _,RcNeAt.none_bool _⟩
   | int _=>rw [hy.int] at ry;obtain ⟨t2,rfl⟩:=ry;simp only [eqD];exact ⟨RcAt.none_int _ _,EqAt.none_int _ _,RcNeAt.none_int _ _⟩
   | str _=>rw [hy.str] at ry;obtain ⟨t2,rfl⟩:=ry;simp only [eqD];exact ⟨RcAt.none_str _ _,EqAt.none_str _ _,RcNeAt.none_str _ _⟩
   | tup ys=>simp [okD] at oy
   | lst ys=>simp [okD] at oy
   | ty _=>simp [okD] at oy
  | bl _ =>
   rw [hx.bl] at rx;cases rx
   cases y with
   | non=>rw [hy.non] at ry;cases ry;simp only [eqD];exact ⟨RcAt.bool_none _,EqAt.bool_none _,RcNeAt.bool_none _⟩
   | bl _=>rw [hy.bl] at ry;cases ry;simp only [eqD];exact ⟨RcAt.bool_bool _ _,EqAt.bool_bool _ _,RcNeAt.bool_bool _ _⟩
   | int _=>rw [hy.int] at ry;obtain ⟨t2,rfl⟩:=ry;simp only [eqD];exact ⟨RcAt.bool_int _ _ _,EqAt.bool_int _ _ _,RcNeAt.bool_int _ _ _⟩
   | str _=>rw [hy.str] at ry;obtain ⟨t2,rfl⟩:=ry;simp only [eqD];exact ⟨RcAt.bool_str _ _ _,EqAt.bool_str _ _ _,RcNeAt.bool_str _ _ _⟩
   | tup ys=>simp [okD] at oy
   | lst ys=>simp [okD] at oy
   | ty _=>simp [okD] at oy
  | int _ =>
   rw [hx.int] at rx;obtain ⟨t1,rfl⟩:=rx
   cases y with
   | non=>rw [hy.non] at ry;cases ry;simp only [eqD];exact ⟨RcAt.int_none _ _,EqAt.int_none _ _,RcNeAt.int_none _ _⟩
   | bl _=>rw [hy.bl] at ry;cases ry;simp only [eqD];exact ⟨RcAt.int_bool _ _ _,EqAt.int_bool _ _ _,RcNeAt.int_bool _ _ _⟩
   | int _=>rw [hy.int] at ry;obtain ⟨t2,rfl⟩:=ry;simp only [eqD];exact ⟨RcAt.int_int _ _ _ _,EqAt.int_int _ _ _ _,RcNeAt.int_int _ _ _ _⟩
   | str _=>rw [hy.str] at ry;obtain ⟨t2,rfl⟩:=ry;simp only [eqD];exact ⟨RcAt.int_str _ _ _ _,EqAt.int_str _ _ _ _,RcNeAt.int_str _ _ _ _⟩
   | tup ys=>simp [okD] at oy
   | lst ys=>simp [okD] at oy
   | ty _=>simp [okD] at oy
  | str _ =>
   rw [hx.str] at rx;obtain ⟨t1,rfl⟩:=rx
   cases y with
   | non=>rw [hy.non] at ry;cases ry;simp only [eqD];exact ⟨RcAt.str_none _ _,EqAt.str_none _ _,RcNeAt.str_none _ _⟩
   | bl _=>rw [hy.bl] at ry;cases ry;simp only [eqD];exact ⟨RcAt.str_bool _ _ _,EqAt.str_bool _ _ _,RcNeAt.str_bool _ _ _⟩
   | int _=>rw [hy.int] at ry;obtain ⟨t2,rfl⟩:=ry;simp only [eqD];exact ⟨RcAt.str_int _ _ _ _,EqAt.str_int _ _ _ _,RcNeAt.str_int _ _ _ _⟩
   | str _=>rw [hy.str] at ry;obtain ⟨t2,rfl⟩:=ry;simp only [eqD];exact ⟨RcAt.str_str _ _ _ _,EqAt.str_str _ _ _ _,RcNeAt.str_str _ _ _ _⟩
   | tup ys=>simp [okD] at oy
   | lst ys=>simp [okD] at oy
   | ty _=>simp [okD] at oy
  | tup xs=>simp [okD] at ox
  | lst xs=>simp [okD] at ox
  | ty _=>simp [okD] at ox
 | succ n ih =>
  intro A x y vx vy u v hu ox oy hx hy rx ry
  have hu':A.units<cLine:=by omega
  cases x with
  | non =>
   rw [hx.non] at rx;cases rx
   cases y with
   | non=>rw [hy.non] at ry;cases ry;simp only [eqD];exact ⟨RcAt.none_none,EqAt.same _,RcNeAt.none_none⟩
   | bl _=>rw [hy.bl] at ry;cases ry;simp only [eqD];exact ⟨RcAt.none_bool _,EqAt.none_bool _,RcNeAt.none_bool _⟩
   | int _=>rw [hy.int] at ry;obtain ⟨t2,rfl⟩:=ry;simp only [eqD];exact ⟨RcAt.none_int _ _,EqAt.none_int _ _,RcNeAt.none_int _ _⟩
   | str _=>rw [hy.str] at ry;obtain ⟨t2,rfl⟩:=ry;simp only [eqD];exact ⟨RcAt.none_str _ _,EqAt.none_str _ _,RcNeAt.none_str _ _⟩
   | tup ys=>obtain ⟨a2,vs2,e2,q2,d2⟩:=hy.tup;subst e2;cases ry;obtain ⟨its2,r2,p2,z2⟩:=I.tuple q2;simp only [eqD];exact ⟨RcAt.none_tuple p2 hu',EqAt.none_tuple p2 hu',RcNeAt.none_tuple p2 hu'⟩
   | lst ys fl =>
    cases fl with
    | true=>simp [okD] at oy
    | false =>
     obtain ⟨a2,vs2,e2,q2,d2⟩:=hy;subst e2;cases ry;obtain ⟨its2,r2,p2,z2⟩:=I.list q2;simp only [eqD];exact ⟨RcAt.none_list p2.isList hu',EqAt.none_list p2.isList hu',RcNeAt.none_list p2.isList hu'⟩
   | ty _=>simp [okD] at oy
  | bl _ =>
   rw [hx.bl] at rx;cases rx
   cases y with
   | non=>rw [hy.non] at ry;cases ry;simp only [eqD];exact ⟨RcAt.bool_none _,EqAt.bool_none _,RcNeAt.bool_none _⟩
   | bl _=>rw [hy.bl] at ry;cases ry;simp only [eqD];exact ⟨RcAt.bool_bool _ _,EqAt.bool_bool _ _,RcNeAt.bool_bool _ _⟩
   | int _=>rw [hy.int] at ry;obtain ⟨t2,rfl⟩:=ry;simp only [eqD];exact ⟨RcAt.bool_int _ _ _,EqAt.bool_int _ _ _,RcNeAt.bool_int _ _ _⟩
   | str _=>rw [hy.str] at ry;obtain ⟨t2,rfl⟩:=ry;simp only [eqD];exact ⟨RcAt.bool_str _ _ _,EqAt.bool_str _ _ _,RcNeAt.bool_str _ _ _⟩
   | tup ys=>obtain ⟨a2,vs2,e2,q2,d2⟩:=hy.tup;subst e2;cases ry;obtain ⟨its2,r2,p2,z2⟩:=I.tuple q2;simp only [eqD];exact ⟨RcAt.bool_tuple _ p2 hu',EqAt.bool_tuple _ p2 hu',RcNeAt.bool_tuple _ p2 hu'⟩
   | lst ys fl =>
    cases fl with
    | true=>simp [okD] at oy
    | false =>
     obtain ⟨a2,vs2,e2,q2,d2⟩:=hy;subst e2;cases ry;obtain ⟨its2,r2,p2,z2⟩:=I.list q2;simp only [eqD];exact ⟨RcAt.bool_list _ p2.isList hu',EqAt.bool_list _ p2.isList hu',RcNeAt.bool_list _ p2.isList hu'⟩
   | ty _=>simp [okD] at oy
  | int _ =>
   rw [hx.int] at rx;obtain ⟨t1,rfl⟩:=rx
   cases y with
   | non=>rw [hy.non] at ry;cases ry;simp only [eqD];exact ⟨RcAt.int_none _ _,EqAt.int_none _ _,RcNeAt.int_none _ _⟩
   | bl _=>rw [hy.bl] at ry;cases ry;simp only [eqD];exact ⟨RcAt.int_bool _ _ _,EqAt.int_bool _ _ _,RcNeAt.int_bool _ _ _⟩
   | int _=>rw [hy.int] at ry;obtain ⟨t2,rfl⟩:=ry;simp only [eqD];exact ⟨RcAt.int_int _ _ _ _,EqAt.int_int _ _ _ _,RcNeAt.int_int _ _ _ _⟩
   | str _=>rw [hy.str] at ry;obtain ⟨t2,rfl⟩:=ry;simp only [eqD];exact ⟨RcAt.int_str _ _ _ _,EqAt.int_str _ _ _ _,RcNeAt.int_str _ _ _ _⟩
   | tup ys=>obtain ⟨a2,vs2,e2,q2,d2⟩:=hy.tup;subst e2;cases ry;obtain ⟨its2,r2,p2,z2⟩:=I.tuple q2;simp only [eqD];exact ⟨RcAt.int_tuple _ _ p2 hu',EqAt.int_tuple _ _ p2 hu',RcNeAt.int_tuple _ _ p2 hu'⟩
   | lst ys fl =>
    cases fl with
    | true=>simp [okD] at oy
    | false =>
     obtain ⟨a2,vs2,e2,q2,d2⟩:=hy;subst e2;cases ry;obtain ⟨its2,r2,p2,z2⟩:=I.list q2;simp only [eqD];exact ⟨RcAt.int_list _ _ p2.isList hu',EqAt.int_list _ _ p2.isList hu',RcNeAt.int_list _ _ p2.isList hu'⟩
   | ty _=>simp [okD] at oy
  | str _ =>
   rw [hx.str] at rx;obtain ⟨t1,rfl⟩:=rx
   cases y with
   | non=>rw [hy.non] at ry;cases ry;simp only [eqD];exact ⟨RcAt.str_none _ _,EqAt.str_none _ _,RcNeAt.str_none _ _⟩
   | bl _=>rw [hy.bl] at ry;cases ry;simp only [eqD];exact ⟨RcAt.str_bool _ _ _,EqAt.str_bool _ _ _,RcNeAt.str_bool _ _ _⟩
   | int _=>rw [hy.int] at ry;obtain ⟨t2,rfl⟩:=ry;simp only [eqD];exact ⟨RcAt.str_int _ _ _ _,EqAt.str_int _ _ _ _,RcNeAt.str_int _ _ _ _⟩
   | str _=>rw [hy.str] at ry;obtain ⟨t2,rfl⟩:=ry;simp only [eqD];exact ⟨RcAt.str_str _ _ _ _,EqAt.str_str _ _ _ _,RcNeAt.str_str _ _ _ _⟩
   | tup ys=>obtain ⟨a2,vs2,e2,q2,d2⟩:=hy.tup;subst e2;cases ry;obtain ⟨its2,r2,p2,z2⟩:=I.tuple q2;simp only [eqD];exact ⟨RcAt.str_tuple _ _ p2 hu',EqAt.str_tuple _ _ p2 hu',RcNeAt.str_tuple _ _ p2 hu'⟩
   | lst ys fl =>
    cases fl with
    | true=>simp [okD] at oy
    | false =>
     obtain ⟨a2,vs2,e2,q2,d2⟩:=hy;subst e2;cases ry;obtain ⟨its2,r2,p2,z2⟩:=I.list q2;simp only [eqD];exact ⟨RcAt.str_list _ _ p2.isList hu',EqAt.str_list _ _ p2.isList hu',RcNeAt.str_list _ _ p2.isList hu'⟩
   | ty _=>simp [okD] at oy
  | tup xs =>
   obtain ⟨a1,vs1,e1,q1,d1⟩:=hx.tup;subst e1;cases rx;obtain ⟨its1,r1,p1,z1⟩:=I.tuple q1
   cases y with
   | non=>rw [hy.non] at ry;cases ry;simp only [eqD];exact ⟨RcAt.tuple_none p1 hu',EqAt.tuple_none p1 hu',RcNeAt.tuple_none p1 hu'⟩
   | bl _=>rw [hy.bl] at ry;cases ry;simp only [eqD];exact ⟨RcAt.tuple_bool _ p1 hu',EqAt.tuple_bool _ p1 hu',RcNeAt.tuple_bool _ p1 hu'⟩
   | int _=>rw [hy.int] at ry;obtain ⟨t2,rfl⟩:=ry;simp only [eqD];exact ⟨RcAt.tuple_int _ _ p1 hu',EqAt.tuple_int _ _ p1 hu',RcNeAt.tuple_int _ _ p1 hu'⟩
   | str _=>rw [hy.str] at ry;obtain ⟨t2,rfl⟩:=ry;simp only [eqD];exact ⟨RcAt.tuple_str _ _ p1 hu',EqAt.tuple_str _ _ p1 hu',RcNeAt.tuple_str _ _ p1 hu'⟩
   | tup ys =>
    obtain ⟨a2,vs2,e2,q2,d2⟩:=hy.tup;subst e2;cases ry;obtain ⟨its2,r2,p2,z2⟩:=I.tuple q2
    simp only [okD] at ox oy
    have l1:=r1.length
    have l2:=r2.length
    have m1:=d1.length
    have m2:=d2.length
    simp only [eqD]
    have rc:RcAt A s (.ref a1) (.ref a2) (Zaj xs ys)∧RcNeAt A s (.ref a1) (.ref a2) (!Zaj xs ys):=by
     have each:∀ j (h1:j<its1.toArray.size) (h2:j<its2.toArray.size),EqAt A.in1 s its1.toArray[j] its2.toArray[j] (eqD (xs.getD j .non) (ys.getD j .non)):=fun j h1 h2=>?_
     ·have key:=RcAt.tuples (A:=A) (s:=s) (e:=fun j=>eqD (xs.getD j .non) (ys.getD j .non)) p1 p2 hu' each
      have key2:=RcNeAt.tuples (A:=A) (s:=s) (e:=fun j=>eqD (xs.getD j .non) (ys.getD j .non)) p1 p2 hu' each
      have e:((List.range (min its1.toArray.size its2.toArray.size)).all (fun j=>eqD (xs.getD j .non) (ys.getD j .non))&&its1.toArray.size==its2.toArray.size)=Zaj xs ys:=by
       rw [List.size_toArray,List.size_toArray]
       by_cases hl:xs.length=ys.length
       ·rw [Zhq hl,show its1.length=xs.length by omega,show its2.length=xs.length by omega,Nat.min_self];simp
       ·rw [Zhk hl,show (its1.length==its2.length)=false by simp;omega,Bool.and_false]
      rw [e] at key key2
      exact ⟨key,key2⟩
     ·have h1':j<xs.length:=by rw [List.size_toArray] at h1;omega
      have h2':j<ys.length:=by rw [List.size_toArray] at h2;omega
      have g1:=List.getElem?_eq_getElem h1'
      have g2:=List.getElem?_eq_getElem h2'
      obtain ⟨w1,hw1,dw1⟩:=d1.get g1
      obtain ⟨w2,hw2,dw2⟩:=d2.get g2
      obtain ⟨u1,hu1,ru1⟩:=r1.get hw1
      obtain ⟨u2,hu2,ru2⟩:=r2.get hw2
      rw [ZgR h1 hu1,ZgR h2 hu2,getD_some g1,getD_some g2]
      exact (ih A.in1 _ _ _ _ _ _ (by rw [Zcr];omega) (List.all_eq_true.mp ox _ (List.getElem_mem h1')) (List.all_eq_true.mp oy _ (List.getElem_mem h2')) dw1.p dw2.p ru1 ru2).2.1
    refine ⟨rc.1,?_,rc.2⟩
    by_cases ea:a1=a2
    ·subst ea
     have:=I.tuple_inj q1 q2
     subst this
     rw [ZcQ I xs ys _ d1 d2,Zc2 n ys oy]
     exact EqAt.same _
    ·exact EqAt.of_refs ea rc.1
   | lst ys fl =>
    cases fl with
    | true=>simp [okD] at oy
    | false =>
     obtain ⟨a2,vs2,e2,q2,d2⟩:=hy;subst e2;cases ry;obtain ⟨its2,r2,p2,z2⟩:=I.list q2;simp only [eqD];exact ⟨RcAt.tuple_list p1 p2.isList hu',EqAt.tuple_list p1 p2.isList hu',RcNeAt.tuple_list p1 p2.isList hu'⟩
   | ty _=>simp [okD] at oy
  | lst xs fl =>
   cases fl with
   | true=>simp [okD] at ox
   | false =>
    obtain ⟨a1,vs1,e1,q1,d1⟩:=hx;subst e1;cases rx;obtain ⟨its1,r1,p1,z1⟩:=I.list q1
    cases y with
    | non=>rw [hy.non] at ry;cases ry;simp only [eqD];exact ⟨RcAt.list_none p1.isList hu',EqAt.list_none p1.isList hu',RcNeAt.list_none p1.isList hu'⟩
    | bl _=>rw [hy.bl] at ry;cases ry;simp only [eqD];exact ⟨RcAt.list_bool _ p1.isList hu',EqAt.list_bool _ p1.isList hu',RcNeAt.list_bool _ p1.isList hu'⟩
    | int _=>rw [hy.int] at ry;obtain ⟨t2,rfl⟩:=ry;simp only [eqD];exact ⟨RcAt.list_int _ _ p1.isList hu',EqAt.list_int _ _ p1.isList hu',RcNeAt.list_int _ _ p1.isList hu'⟩
    | str _=>rw [hy.str] at ry;obtain ⟨t2,rfl⟩:=ry;simp only [eqD];exact ⟨RcAt.list_str _ _ p1.isList hu',EqAt.list_str _ _ p1.isList hu',RcNeAt.list_str _ _ p1.isList hu'⟩
    | tup ys=>obtain ⟨a2,vs2,e2,q2,d2⟩:=hy.tup;subst e2;cases ry;obtain ⟨its2,r2,p2,z2⟩:=I.tuple q2;simp only [eqD];exact ⟨RcAt.list_tuple p1.isList p2 hu',EqAt.list_tuple p1.isList p2 hu',RcNeAt.list_tuple p1.isList p2 hu'⟩
    | lst ys fl =>
     cases fl with
     | true=>simp [okD] at oy
     | false =>
      obtain ⟨a2,vs2,e2,q2,d2⟩:=hy;subst e2;cases ry;obtain ⟨its2,r2,p2,z2⟩:=I.list q2
      simp only [okD] at ox oy
      have l1:=r1.length
      have l2:=r2.length
      have m1:=d1.length
      have m2:=d2.length
      simp only [eqD]
      have rc:RcAt A s (.ref a1) (.ref a2) (Zaj xs ys)∧RcNeAt A s (.ref a1) (.ref a2) (!Zaj xs ys):=by
       by_cases hl:xs.length=ys.length
       ·have each:∀ j (h1:j<its1.toArray.size) (h2:j<its2.toArray.size),EqAt A.in1 s its1.toArray[j] its2.toArray[j] (eqD (xs.getD j .non) (ys.getD j .non)):=fun j h1 h2=>?_
        ·have key:=RcAt.lists (A:=A) (s:=s) (e:=fun j=>eqD (xs.getD j .non) (ys.getD j .non)) p1.isList p2.isList (by rw [List.size_toArray,List.size_toArray];omega) hu' each
         have key2:=RcNeAt.lists (A:=A) (s:=s) (e:=fun j=>eqD (xs.getD j .non) (ys.getD j .non)) p1.isList p2.isList (by rw [List.size_toArray,List.size_toArray];omega) hu' each
         have e:(List.range its1.toArray.size).all (fun j=>eqD (xs.getD j .non) (ys.getD j .non))=Zaj xs ys:=by
          rw [List.size_toArray,Zhq hl,show its1.length=xs.length by omega]
         rw [e] at key key2
         exact ⟨key,key2⟩
        ·have h1':j<xs.length:=by rw [List.size_toArray] at h1;omega
         have h2':j<ys.length:=by rw [List.size_toArray] at h2;omega
         have g1:=List.getElem?_eq_getElem h1'
         have g2:=List.getElem?_eq_getElem h2'
         obtain ⟨w1,hw1,dw1⟩:=d1.get g1
         obtain ⟨w2,hw2,dw2⟩:=d2.get g2
         obtain ⟨u1,hu1,ru1⟩:=r1.get hw1
         obtain ⟨u2,hu2,ru2⟩:=r2.get hw2
         rw [ZgR h1 hu1,ZgR h2 hu2,getD_some g1,getD_some g2]
         exact (ih A.in1 _ _ _ _ _ _ (by rw [Zcr];omega) (List.all_eq_true.mp ox _ (List.getElem_mem h1')) (List.all_eq_true.mp oy _ (List.getElem_mem h2')) dw1.p dw2.p ru1 ru2).2.1
       ·rw [Zhk hl]
        have hne:(its1.toArray.size != its2.toArray.size)=true:=by rw [List.size_toArray,List.size_toArray];simp;omega
        exact ⟨RcAt.lists_lengths p1.isList p2.isList hne hu',RcNeAt.lists_lengths p1.isList p2.isList hne hu'⟩
      refine ⟨rc.1,?_,rc.2⟩
      by_cases ea:a1=a2
      ·subst ea
       have:=I.list_inj q1 q2
       subst this
       rw [ZcQ I xs ys _ d1 d2,Zc2 n ys oy]
       exact EqAt.same _
      ·exact EqAt.of_refs ea rc.1
    | ty _=>simp [okD] at oy
  | ty _=>simp [okD] at ox
end
def Z1:Nat:=12
@[simp] def eqO (x y:D):Option D:=if okD Z1 x&&okD Z1 y then some (.bl (eqD x y)) else none
@[simp] def neO (x y:D):Option D:=if okD Z1 x&&okD Z1 y then some (.bl (!eqD x y)) else none
def Zlh (K:PySem.W.Frag) (neg:Bool):R2:=fun x y H Q=>∃ N d1 d2,DenP K N H d1 x∧DenP K N H d2 y∧okD Z1 d1=true∧okD Z1 d2=true∧Q (.bl (if neg then !eqD d1 d2 else eqD d1 d2)) H
section
variable {X:Cx} {K:PySem.W.Frag} {M:Fb} {H0:Hp} {a b:Expr} {f g:VE→Option D} {pos:Pos}
theorem Zl6 (hu:X.A.units+64<cLine):OpR X (compareOp .Eq) (Zlh X.K false):=by
 intro pins s σ H x y v u Q I rx ry h
 obtain ⟨N,d1,d2,h1,h2,o1,o2,q⟩:=h
 exact (ZdY I Z1 X.A d1 d2 x y v u (by unfold Z1;omega) o1 o2 h1 h2 rx ry).1 X.prog X.w X.xe _ ⟨.bl _,H,I,rfl,q⟩
theorem Zms (hu:X.A.units+64<cLine):OpR X (compareOp .NotEq) (Zlh X.K true):=by
 intro pins s σ H x y v u Q I rx ry h
 obtain ⟨N,d1,d2,h1,h2,o1,o2,q⟩:=h
 exact (ZdY I Z1 X.A d1 d2 x y v u (by unfold Z1;omega) o1 o2 h1 h2 rx ry).2.2 X.prog X.w X.xe _ ⟨.bl _,H,I,rfl,q⟩
theorem ZnZ:R2D K (Zlh K false) eqO:=by
 intro N H x y d1 d2 d Q nh h1 h2 e q
 unfold eqO at e
 split at e
 ·next ho=>rw [Bool.and_eq_true] at ho;cases e;exact ⟨N,d1,d2,h1,h2,ho.1,ho.2,q _ H (Same.refl H) Zbx⟩
 ·cases e
theorem ZnX:R2D K (Zlh K true) neO:=by
 intro N H x y d1 d2 d Q nh h1 h2 e q
 unfold neO at e
 split at e
 ·next ho=>rw [Bool.and_eq_true] at ho;cases e;exact ⟨N,d1,d2,h1,h2,ho.1,ho.2,q _ H (Same.refl H) Zbx⟩
 ·cases e
def ZcK (x:D) (ys:List D):Bool:=ys.any fun y=>eqD y x
@[simp] def inD (neg:Bool) (x y:D):Option D:=match y with
  | .lst ys=>if okD Z1 x&&ys.all (okD Z1) then some (.bl (if neg then !ZcK x ys else ZcK x ys)) else none
  | .tup ys=>if okD Z1 x&&ys.all (okD Z1) then some (.bl (if neg then !ZcK x ys else ZcK x ys)) else none
  | .str z=>match x with
   | .str w=>some (.bl (if neg then !(!(Builtin.Str.occurrences z w 0 z.length 1).isEmpty) else !(Builtin.Str.occurrences z w 0 z.length 1).isEmpty))
   | _=>none
  | _=>none
def ZlD (K:PySem.W.Frag) (neg:Bool):R2:=fun x y H Q=>∃ N d1 ys vs p,DenP K N H d1 x∧y=.ref p∧(SqL K H p vs∨SqT K H p vs)∧DenL K N H ys vs∧okD Z1 d1=true∧ys.all (okD Z1)=true∧Q (.bl (if neg then !ZcK d1 ys else ZcK d1 ys)) H
open Classical in
noncomputable def Zbb (K:PySem.W.Frag) (N:Fb) (H:Hp) (x:D) (u:Value):Bool:=decide (∃ d w,DenP K N H d w∧RelV w u∧eqD d x=true)
theorem Zjj {pins:List (Addr×Obj)} {σ:St} {H:Hp} {s:Shared} (I:Inv X pins σ H s) {N:Fb} {x d:D} {w:V} {u:Value} (hd:DenP X.K N H d w) (r:RelV w u):Zbb X.K N H x u=eqD d x:=by
 classical
 unfold Zbb
 cases e:eqD d x with
 | true=>exact @decide_eq_true _ (Classical.propDecidable _) ⟨d,w,hd,r,e⟩
 | false =>
  refine @decide_eq_false _ (Classical.propDecidable _) ?_
  rintro ⟨d',w',hd',r',e'⟩
  have:=r'.inj r
  subst this
  have:=Zk4 I d' d _ hd' hd
  subst this
  rw [e] at e';cases e'
theorem Zez {pins:List (Addr×Obj)} {σ:St} {H:Hp} {s:Shared} (I:Inv X pins σ H s) {N:Fb} {x:D}:∀ {ys:List D} {vs:List V} {us:List Value},DenL X.K N H ys vs→Vals vs us→us.any (Zbb X.K N H x)=ZcK x ys
 | [],_,_,h,r=>by simp only [DenL] at h;subst h;cases r;rfl
 | y::ys,_,_,h,r=>by
  simp only [DenL] at h
  obtain ⟨v,t,e,hv,ht⟩:=h
  subst e
  cases r with
  | cons r1 r2 =>
   rw [List.any_cons,Zjj I hv.p r1,Zez I ht r2]
   rfl
theorem Zfc {pins:List (Addr×Obj)} {σ:St} {H:Hp} {s:Shared} (I:Inv X pins σ H s) {N:Fb} {A:Around} {x:D} {vx:V} {v:Value} (hu:A.units+Z1<cLine) (ox:okD Z1 x=true) (hx:DenP X.K N H x vx) (rx:RelV vx v) {ys:List D} {vs:List V} {us:List Value} (h:DenL X.K N H ys vs) (r:Vals vs us) (oy:ys.all (okD Z1)=true) :
  ∀ u∈us,SeqAt.EqAt A s u v (Zbb X.K N H x u):=by
 intro u hu'
 obtain ⟨j,hj⟩:=List.getElem?_of_mem hu'
 have hl:=r.length
 have hj':j<vs.length:=by have:=(List.getElem?_eq_some_iff.mp hj).1;omega
 have hv:=List.getElem?_eq_getElem hj'
 obtain ⟨u',e1,r1⟩:=r.get hv
 rw [hj] at e1;cases e1
 obtain ⟨y,e2,hy⟩:=h.get' hv
 rw [Zjj I hy.p r1]
 exact (ZdY I Z1 A y x _ _ _ _ hu (List.all_eq_true.mp oy y (List.mem_of_getElem? e2)) ox hy.p hx r1 rx).2.1
theorem ZmB (hu:X.A.units+64<cLine):OpR X (compareOp .In) (ZlD X.K false):=by
 intro pins s σ H x y v u Q I rx ry h
 obtain ⟨N,d1,ys,vs,p,h1,rfl,hq,hd,o1,o2,q⟩:=h
 cases ry
 have hu1:X.A.in1.units+Z1<cLine:=by rw [Zcr];unfold Z1;omega
 rcases hq with hq | hq
 ·obtain ⟨its,r,pl,hz⟩:=I.list hq
  refine SeqAt.in_listAt (Zbb X.K N H d1) pl.isList (fun w hw=>Zfc I hu1 o1 h1 rx hd r o2 w (by simpa using hw)) ⟨.bl _,H,I,rfl,?_⟩
  rw [show its.toArray.any (Zbb X.K N H d1)=its.any (Zbb X.K N H d1) by simp,Zez I hd r]
  exact q
 ·obtain ⟨its,r,pl,hz⟩:=I.tuple hq
  refine SeqAt.in_tupleAt (Zbb X.K N H d1) pl (fun w hw=>Zfc I hu1 o1 h1 rx hd r o2 w (by simpa using hw)) ⟨.bl _,H,I,rfl,?_⟩
  rw [show its.toArray.any (Zbb X.K N H d1)=its.any (Zbb X.K N H d1) by simp,Zez I hd r]
  exact q
theorem ZoS (hu:X.A.units+64<cLine):OpR X (compareOp .NotIn) (ZlD X.K true):=by
 intro pins s σ H x y v u Q I rx ry h
 obtain ⟨N,d1,ys,vs,p,h1,rfl,hq,hd,o1,o2,q⟩:=h
 cases ry
 have hu1:X.A.in1.units+Z1<cLine:=by rw [Zcr];unfold Z1;omega
 rcases hq with hq | hq
 ·obtain ⟨its,r,pl,hz⟩:=I.list hq
  refine SeqAt.notIn_listAt (Zbb X.K N H d1) pl.isList (fun w hw=>Zfc I hu1 o1 h1 rx hd r o2 w (by simpa using hw)) ⟨.bl _,H,I,rfl,?_⟩
  rw [show its.toArray.any (Zbb X.K N H d1)=its.any (Zbb X.K N H d1) by simp,Zez I hd r]
  exact q
 ·obtain ⟨its,r,pl,hz⟩:=I.tuple hq
  refine SeqAt.notIn_tupleAt (Zbb X.K N H d1) pl (fun w hw=>Zfc I hu1 o1 h1 rx hd r o2 w (by simpa using hw)) ⟨.bl _,H,I,rfl,?_⟩
  rw [show its.toArray.any (Zbb X.K N H d1)=its.any (Zbb X.K N H d1) by simp,Zez I hd r]
  exact q
theorem ZnY:R2D K (fun x y H Q=>ZlD K false x y H Q∨∃ i j,x=.str i∧y=.str j∧Q (.bl (!(Builtin.Str.occurrences j i 0 j.length 1).isEmpty)) H) (inD false):=by
 intro N H x y d1 d2 d Q nh h1 h2 e q
 unfold inD at e
 split at e
 ·split at e
  ·next ho=>rw [Bool.and_eq_true] at ho;cases e;obtain ⟨a,vs,e1,q1,r1⟩:=h2;exact .inl ⟨N,d1,_,vs,a,h1,e1,.inl q1,r1,ho.1,ho.2,q _ H (Same.refl H) Zbx⟩
  ·cases e
 ·split at e
  ·next ho=>rw [Bool.and_eq_true] at ho;cases e;obtain ⟨a,vs,e1,q1,r1⟩:=h2.tup;exact .inl ⟨N,d1,_,vs,a,h1,e1,.inr q1,r1,ho.1,ho.2,q _ H (Same.refl H) Zbx⟩
  ·cases e
 ·split at e
  ·cases e;exact .inr ⟨_,_,h1.str,h2.str,q _ H (Same.refl H) Zbx⟩
  ·cases e
 ·cases e
theorem Zqu:R2D K (fun x y H Q=>ZlD K true x y H Q∨∃ i j,x=.str i∧y=.str j∧Q (.bl (!(!(Builtin.Str.occurrences j i 0 j.length 1).isEmpty))) H) (inD true):=by
 intro N H x y d1 d2 d Q nh h1 h2 e q
 unfold inD at e
 split at e
 ·split at e
  ·next ho=>rw [Bool.and_eq_true] at ho;cases e;obtain ⟨a,vs,e1,q1,r1⟩:=h2;exact .inl ⟨N,d1,_,vs,a,h1,e1,.inl q1,r1,ho.1,ho.2,q _ H (Same.refl H) Zbx⟩
  ·cases e
 ·split at e
  ·next ho=>rw [Bool.and_eq_true] at ho;cases e;obtain ⟨a,vs,e1,q1,r1⟩:=h2.tup;exact .inl ⟨N,d1,_,vs,a,h1,e1,.inr q1,r1,ho.1,ho.2,q _ H (Same.refl H) Zbx⟩
  ·cases e
 ·split at e
  ·cases e;exact .inr ⟨_,_,h1.str,h2.str,q _ H (Same.refl H) Zbx⟩
  ·cases e
 ·cases e
@[simp] def ZdS (lt:D→D→Option Bool):List D→List D→Option Bool
  | [],[]=>some false
  | [],_::_=>some true
  | _::_,[]=>some false
  | x::xs,y::ys=>if okD Z1 x&&okD Z1 y then (if eqD x y then ZdS lt xs ys else lt x y) else none
@[simp] def ltN:Nat→D→D→Option Bool
  | _,.int i,.int j=>some (decide (i<j))
  | _,.str a,.str b=>some (decide (a.cps.toList<b.cps.toList))
  | n+1,.tup xs,.tup ys=>ZdS (ltN n) xs ys
  | _,_,_=>none
@[simp] def ltO (x y:D):Option D:=(ltN 6 x y).map D.bl
def Zrt (K:PySem.W.Frag):R2:=fun x y H Q=>∃ N d1 d2 b,DenP K N H d1 x∧DenP K N H d2 y∧ltN 6 d1 d2=some b∧Q (.bl b) H
theorem Zmg {pins:List (Addr×Obj)} {σ:St} {H:Hp} {s:Shared} (I:Inv X pins σ H s) {N:Fb}:∀ (n:Nat) (A:Around) (x y:D) (vx vy:V) (u v:Value) (b:Bool),A.units+n+Z1<cLine→ltN n x y=some b→DenP X.K N H x vx→DenP X.K N H y vy→RelV vx u→RelV vy v →
  ∀ (prog:Program) (wo:World) (E Q:Value→Shared→Prop),Q (.bool b) s→wpAny (model prog wo) A (richCompare .Lt u v) Q E s:=by
 intro n
 induction n with
 | zero =>
  intro A x y vx vy u v b hu h hx hy rx ry prog wo E Q q
  unfold ltN at h
  split at h
  ·cases h;rw [hx.int] at rx;rw [hy.int] at ry;obtain ⟨t,rfl⟩:=rx;obtain ⟨t',rfl⟩:=ry;exact HT.rcLt_int A s _ _ _ _ prog wo E Q q
  ·cases h;rw [hx.str] at rx;rw [hy.str] at ry;obtain ⟨t,rfl⟩:=rx;obtain ⟨t',rfl⟩:=ry;exact (PyProof.Rows.lt_str q:wpAny (model prog wo) A (compareOp .Lt _ _) Q E s)
  ·next h0=>cases h0
  ·cases h
 | succ n ih =>
  intro A x y vx vy u v b hu h hx hy rx ry prog wo E Q q
  unfold ltN at h
  split at h
  ·cases h;rw [hx.int] at rx;rw [hy.int] at ry;obtain ⟨t,rfl⟩:=rx;obtain ⟨t',rfl⟩:=ry;exact HT.rcLt_int A s _ _ _ _ prog wo E Q q
  ·cases h;rw [hx.str] at rx;rw [hy.str] at ry;obtain ⟨t,rfl⟩:=rx;obtain ⟨t',rfl⟩:=ry;exact (PyProof.Rows.lt_str q:wpAny (model prog wo) A (compareOp .Lt _ _) Q E s)
  ·next m xs ys e0 =>
   cases e0
   obtain ⟨a1,vs1,e1,q1,d1⟩:=hx.tup
   obtain ⟨a2,vs2,e2,q2,d2⟩:=hy.tup
   subst e1 e2
   cases rx
   cases ry
   obtain ⟨its1,r1,p1,_⟩:=I.tuple q1
   obtain ⟨its2,r2,p2,_⟩:=I.tuple q2
   have lists:∀ (xs ys:List D) (vs1 vs2:List V) (us1 us2:List Value),ZdS (ltN n) xs ys=some b→DenL X.K N H xs vs1→DenL X.K N H ys vs2→Vals vs1 us1→Vals vs2 us2→Zeq A.in1 s us1 us2 b:=by
    intro xs
    induction xs with
    | nil =>
     intro ys vs1 vs2 us1 us2 h d1 d2 r1 r2
     simp only [DenL] at d1;subst d1;cases r1
     cases ys with
     | nil=>simp only [DenL] at d2;subst d2;cases r2;cases h;exact .nn
     | cons y ys=>simp only [DenL] at d2;obtain ⟨w,t,e,_,_⟩:=d2;subst e;cases r2;cases h;exact .nc
    | cons x xs ihx =>
     intro ys vs1 vs2 us1 us2 h d1 d2 r1 r2
     simp only [DenL] at d1;obtain ⟨w1,t1,e1,dw1,dt1⟩:=d1;subst e1
     cases r1 with
     | cons rw1 rt1 =>
      cases ys with
      | nil=>simp only [DenL] at d2;subst d2;cases r2;cases h;exact .cn
      | cons y ys =>
       simp only [DenL] at d2;obtain ⟨w2,t2,e2,dw2,dt2⟩:=d2;subst e2
       cases r2 with
       | cons rw2 rt2 =>
        simp only [ZdS] at h
        split at h
        ·next ho =>
         rw [Bool.and_eq_true] at ho
         have he:=(ZdY I Z1 A.in1 x y _ _ _ _ (by rw [Zcr];omega) ho.1 ho.2 dw1.p dw2.p rw1 rw2).2.1
         split at h
         ·next e=>rw [e] at he;exact .eq he (ihx ys _ _ _ _ h dt1 dt2 rt1 rt2)
         ·next e =>
          rw [Bool.not_eq_true] at e
          rw [e] at he
          exact .ne he fun prog wo E Q q=>ih A.in1 x y _ _ _ _ b (by rw [Zcr];omega) h dw1.p dw2.p rw1 rw2 prog wo E Q q
        ·cases h
   exact Zm6 p1 p2 (by simpa using lists xs ys _ _ _ _ h d1 d2 r1 r2) (by omega) q
  ·cases h
theorem ZqD (hu:X.A.units+64<cLine):OpR X (compareOp .Lt) (Zrt X.K):=by
 intro pins s σ H x y v u Q I rx ry h
 obtain ⟨N,d1,d2,b,h1,h2,hb,q⟩:=h
 have fin:EP X pins σ Q (.bool b) s:=⟨.bl b,H,I,rfl,q⟩
 exact Zmg I 6 X.A d1 d2 x y v u b (by unfold Z1;omega) hb h1 h2 rx ry X.prog X.w X.xe _ fin
theorem Zsh:R2D K (Zrt K) ltO:=by
 intro N H x y d1 d2 d Q nh h1 h2 e q
 unfold ltO at e
 cases hl:ltN 6 d1 d2 with
 | none=>rw [hl] at e;cases e
 | some b=>rw [hl] at e;cases e;exact ⟨N,d1,d2,b,h1,h2,hl,q _ H (Same.refl H) Zbx⟩
end
end L2
set_option Elab.async false
set_option linter.all false
set_option maxRecDepth 100000
namespace L2
open PySem PySem.Spec PyProof.Rows
section
variable {K:PySem.W.Frag} {N:Fb} {H:Hp}
theorem Paired.one' {α β:Type} {F:α→β→Prop} {x:α} {vs:List β} (h:Paired F [x] vs):∃ v,vs=[v]∧F x v:=by
 cases h with
 | cons r t=>cases t;exact ⟨_,rfl,r⟩
theorem Paired.two' {α β:Type} {F:α→β→Prop} {x y:α} {vs:List β} (h:Paired F [x,y] vs):∃ v w,vs=[v,w]∧F x v∧F y w:=by
 cases h with
 | cons r t =>
  obtain ⟨w,e,q⟩:=Paired.one' t
  subst e
  exact ⟨_,w,rfl,r,q⟩
@[simp] def Z6:List D→Option D
  | [.lst xs]=>some (.int xs.length)
  | [.tup xs]=>some (.int xs.length)
  | [.str x]=>if x.length≤sizeLine then some (.int x.length) else none
  | _=>none
theorem Zau:RcD K (fun xs H Q=>∃ x n,xs=[x]∧ZqL K x H n∧Q (.int n) H) Z6:=by
 intro N H vs ds d Q nh h e q
 unfold Z6 at e
 split at e
 ·cases e
  obtain ⟨v,rfl,hv⟩:=Paired.one' h
  obtain ⟨a,ws,e1,q1,r1⟩:=hv
  subst e1
  exact ⟨.ref a,_,rfl,.inl ⟨ws,q1,rfl⟩,by rw [← r1.length];exact q _ H (Same.refl H) ZbR⟩
 ·cases e
  obtain ⟨v,rfl,hv⟩:=Paired.one' h
  obtain ⟨a,ws,e1,q1,r1⟩:=hv.tup
  subst e1
  exact ⟨.ref a,_,rfl,.inr ⟨ws,q1,rfl⟩,by rw [← r1.length];exact q _ H (Same.refl H) ZbR⟩
 ·split at e
  ·next hz =>
   cases e
   obtain ⟨v,rfl,hv⟩:=Paired.one' h
   exact ⟨v,_,rfl,by rw [hv.str];exact ⟨hz,rfl⟩,q _ H (Same.refl H) ZbR⟩
  ·cases e
 ·cases e
@[simp] def Zj7:List D→Option (List D)
  | [.lst xs]=>some xs
  | [.tup xs]=>some xs
  | _=>none
theorem ZkZ:RcF K (fun xs H Q=>∃ p ys,xs=[.ref p]∧(SqL K H p ys∨SqT K H p ys)∧∀ l,H l=none→Q (.ref l) (upd H l (.lst ys))) Zj7:=by
 intro N H vs ds xs Q nh h e q
 unfold Zj7 at e
 split at e
 ·cases e
  obtain ⟨v,rfl,hv⟩:=Paired.one' h
  obtain ⟨a,ws,e1,q1,r1⟩:=hv
  subst e1
  exact ⟨a,ws,rfl,.inl q1,fun l hl=>q ws l hl r1⟩
 ·cases e
  obtain ⟨v,rfl,hv⟩:=Paired.one' h
  obtain ⟨a,ws,e1,q1,r1⟩:=hv.tup
  subst e1
  exact ⟨a,ws,rfl,.inr q1,fun l hl=>q ws l hl r1⟩
 ·cases e
@[simp] def ZeX:List D→Option D
  | [.lst xs]=>some (.tup xs)
  | [.tup xs]=>some (.tup xs)
  | _=>none
theorem Ze2:RcD K (fun xs H Q=>∃ p ys,xs=[.ref p]∧((SqL K H p ys∧∀ l,H l=none→Q (.ref l) (upd H l (.tup ys)))∨(SqT K H p ys∧Q (.ref p) H))) ZeX:=by
 intro N H vs ds d Q nh h e q
 unfold ZeX at e
 split at e
 ·cases e
  obtain ⟨v,rfl,hv⟩:=Paired.one' h
  obtain ⟨a,ws,e1,q1,r1⟩:=hv
  subst e1
  exact ⟨a,ws,rfl,.inl ⟨q1,fun l hl=>q _ _ (ZaG hl) (Ze5 hl r1)⟩⟩
 ·cases e
  obtain ⟨v,rfl,hv⟩:=Paired.one' h
  obtain ⟨a,ws,e1,q1,r1⟩:=hv.tup
  subst e1
  exact ⟨a,ws,rfl,.inr ⟨q1,q _ _ (Same.refl H) (by simp only [Den];exact ⟨a,ws,rfl,q1,r1⟩)⟩⟩
 ·cases e
def Zjq:List D→Option (List Bool)
 | []=>some []
 | .bl b::r=>(Zjq r).map (b::·)
 | _=>none
@[simp] def ZtV:List D→Option D
  | [.lst xs]=>(Zjq xs).map fun bs=>.bl (bs.all id)
  | _=>none
@[simp] def ZtZ:List D→Option D
  | [.lst xs]=>(Zjq xs).map fun bs=>.bl (bs.any id)
  | _=>none
@[simp] def ZiU:List D→Option D
  | [.int i,.int j]=>some (.int (if j > i then j else i))
  | _=>none
@[simp] def ZiZ:List D→Option D
  | [.int i,.int j]=>some (.int (if j<i then j else i))
  | _=>none
theorem ZoR:RcD K (fun xs H Q=>∃ i j,xs=[.int i,.int j]∧Q (.int (if j > i then j else i)) H) ZiU:=by
 intro N H vs ds d Q nh h e q
 unfold ZiU at e
 split at e
 ·cases e
  obtain ⟨v,w,rfl,hv,hw⟩:=Paired.two' h
  exact ⟨_,_,by rw [hv.int,hw.int],q _ H (Same.refl H) ZbR⟩
 ·cases e
theorem Zo8:RcD K (fun xs H Q=>∃ i j,xs=[.int i,.int j]∧Q (.int (if j<i then j else i)) H) ZiZ:=by
 intro N H vs ds d Q nh h e q
 unfold ZiZ at e
 split at e
 ·cases e
  obtain ⟨v,w,rfl,hv,hw⟩:=Paired.two' h
  exact ⟨_,_,by rw [hv.int,hw.int],q _ H (Same.refl H) ZbR⟩
 ·cases e
@[simp] def Zt5:List D→Option D
  | [.int i]=>some (.int (if i<0 then -i else i))
  | _=>none
@[simp] def ZtW:List D→Option D
  | [.int i]=>if i.natAbs.log2<1920 then some (.str (toString i)) else none
  | _=>none
@[simp] def ZtT:List D→Option D
  | [.int i]=>some (.int i)
  | [.bl k]=>some (.int (if k then 1 else 0))
  | _=>none
def Zgv:List D→Option (List Int)
 | []=>some []
 | .int b::r=>(Zgv r).map (b::·)
 | _=>none
theorem ZiF:∀ (ns:List Int),Zgv (ns.map D.int)=some ns
 | []=>rfl
 | n::ns=>by simp only [List.map_cons,Zgv,ZiF ns];rfl
end
section
variable {X:Cx}
end
def ZsS:List Int→Option Int
 | []=>none
 | x::xs=>some (xs.foldl (fun m y=>if y<m then y else m) x)
def ZsU:List Int→Option Int
 | []=>none
 | x::xs=>some (xs.foldl (fun m y=>if y > m then y else m) x)
section
variable {K:PySem.W.Frag}
@[simp] def Zt2:List D→Option D
  | [.lst xs]=>(Zgv xs).map fun ns=>.int ns.sum
  | _=>none
@[simp] def ZtS:List D→Option D
  | [.lst xs]=>((Zgv xs).bind ZsS).map D.int
  | _=>none
@[simp] def ZtQ:List D→Option D
  | [.lst xs]=>((Zgv xs).bind ZsU).map D.int
  | _=>none
@[simp] def tyD:D→Option String
  | .non=>some "NoneType"
  | .bl _=>some "bool"
  | .int _=>some "int"
  | .str _=>some "str"
  | .tup _=>some "tuple"
  | .lst _=>some "list"
  | .lst _ true=>none
  | .ty _=>none
def ZhX (t n:String):Bool:=t==n||(t=="bool"&&n=="int")
end
def Zbk:List String:=["NoneType","bool","int","str","tuple","list"]
theorem ZkD (K:PySem.W.Frag):∀ t∈Zbk,∀ n∈Zbk,PySem.W.kitOne K (.type t) (.type n)=some (ZhX t n):=by
 intro t ht n hn
 simp only [Zbk,List.mem_cons,List.not_mem_nil,or_false] at ht hn
 rcases ht with rfl | rfl | rfl | rfl | rfl | rfl<;>rcases hn with rfl | rfl | rfl | rfl | rfl | rfl<;>with_unfolding_all rfl
theorem ZkQ (K:PySem.W.Frag) {t:String} (ht:t∈Zbk):∀ (ns:List String),(∀ n∈ns,n∈Zbk)→PySem.W.kitAny K (.type t) (ns.map Value.type)=some (ns.any fun n=>ZhX t n)
 | [],_=>rfl
 | n::ns,h=>by
  have h1:=ZkD K t ht n (h n List.mem_cons_self)
  have h2:=ZkQ K ht ns fun m hm=>h m (List.mem_cons_of_mem _ hm)
  simp only [List.map_cons,PySem.W.kitAny,h1,h2,List.any_cons]
  cases ZhX t n<;>rfl
theorem Zkt {d:D} {t:String} (h:tyD d=some t):t∈Zbk:=by
 cases d with
 | lst xs fl=>cases fl<;>simp [tyD] at h;subst h;simp [Zbk]
 | _=>simp [tyD] at h<;>subst h<;>simp [Zbk]
section
variable {X:Cx} {K:PySem.W.Frag}
theorem Zrm {pins:List (Addr×Obj)} {σ:St} {H:Hp} {s:Shared} (I:Inv X pins σ H s) {N:Fb} {d:D} {x:V} {u:Value} {t:String} (hx:DenP X.K N H d x) (rx:RelV x u) (ht:tyD d=some t) :
  ∃ HP:Heap→Prop,PySem.W.KitX X.K u (.type t) HP∧HP s.heap∧u≠.builtin "__main__.__loader__#opaque":=by
 cases d with
 | non=>cases ht;rw [hx.non] at rx;cases rx;exact ⟨_,PySem.W.kitx_none,trivial,fun z=>nomatch z⟩
 | bl b=>cases ht;rw [hx.bl] at rx;cases rx;exact ⟨_,PySem.W.kitx_bool,trivial,fun z=>nomatch z⟩
 | int b=>cases ht;rw [hx.int] at rx;obtain ⟨t,rfl⟩:=rx;exact ⟨_,PySem.W.kitx_int,trivial,fun z=>nomatch z⟩
 | str b=>cases ht;rw [hx.str] at rx;obtain ⟨t,rfl⟩:=rx;exact ⟨_,PySem.W.kitx_str,trivial,fun z=>nomatch z⟩
 | ty n=>cases ht
 | tup xs =>
  cases ht
  obtain ⟨a,vs,e,q,r⟩:=hx.tup
  subst e;cases rx
  obtain ⟨its,_,⟨o,h1,h2,_⟩,_⟩:=I.tuple q
  exact ⟨_,PySem.W.kitx_tuple,⟨o,h1,h2⟩,fun z=>nomatch z⟩
 | lst xs fl =>
  cases fl with
  | true=>cases ht
  | false =>
  cases ht
  obtain ⟨a,vs,e,q,r⟩:=hx
  subst e;cases rx
  obtain ⟨its,_,⟨o,n,h1,h2,_⟩,_⟩:=I.list q
  exact ⟨_,PySem.W.kitx_list,⟨o,h1,h2⟩,fun z=>nomatch z⟩
@[simp] def tysOf:D→Option (List String)
  | .ty n=>some [n]
  | .tup xs=>tysL xs
  | _=>none
where tysL:List D→Option (List String)
 | []=>some []
 | .ty n::r=>(tysL r).map (n::·)
 | _=>none
theorem ZjR:∀ {xs:List D} {ns:List String},tysOf.tysL xs=some ns→xs=ns.map D.ty
 | [],_,e=>by cases e;rfl
 | .ty b::r,_,e=>by
  simp only [tysOf.tysL] at e
  cases h:tysOf.tysL r with
  | none=>rw [h] at e;cases e
  | some bs=>rw [h] at e;cases e;rw [ZjR h];rfl
 | .non::_,_,e=>nomatch e
 | .bl _::_,_,e=>nomatch e
 | .int _::_,_,e=>nomatch e
 | .str _::_,_,e=>nomatch e
 | .tup _::_,_,e=>nomatch e
 | .lst _ _::_,_,e=>nomatch e
@[simp] def isD:List D→Option D
  | [x,c]=>(tysOf c).bind fun ns=>if (∀ n∈ns,n∈Zbk) then (tyD x).map fun t=>.bl (ns.any fun n=>ZhX t n) else none
  | _=>none
def Zqi (K:PySem.W.Frag):List V→Hp→VK→Prop:=fun vs H Q=>∃ N d c x y ns t,vs=[x,y]∧DenP K N H d x∧DenP K N H c y∧tysOf c=some ns∧(∀ n∈ns,n∈Zbk)∧tyD d=some t∧Q (.bl (ns.any fun n=>ZhX t n)) H
theorem ZjE {N:Fb} {H:Hp}:∀ {ns:List String} {vs:List V},DenL K N H (ns.map D.ty) vs→vs=ns.map V.ty
 | [],_,h=>by simpa only [List.map_nil,DenL] using h
 | b::bs,_,h=>by
  simp only [List.map_cons,DenL,Den] at h
  obtain ⟨v,r,e,hv,t⟩:=h
  subst e hv
  rw [ZjE t];rfl
theorem Zjf:∀ {ns:List String} {us:List Value},Vals (ns.map V.ty) us→us=ns.map Value.type
 | [],_,r=>by cases r;rfl
 | n::ns,_,r=>by
  cases r with
  | cons r1 r2=>cases r1;rw [Zjf r2];rfl
theorem ZbM:CallR X (.builtin "isinstance") (Zqi X.K):=by
 intro pins s σ H xs us Q I r h
 obtain ⟨N,d,c,x,y,ns,t,rfl,hx,hy,hns,hin,ht,q⟩:=h
 obtain ⟨u,w',rfl,rx,ry⟩:=vals2 r
 obtain ⟨HP,Z,p,hne⟩:=Zrm I hx rx ht
 cases c with
 | ty n =>
  cases hns
  rw [hy.ty] at ry;cases ry
  refine PySem.W.kia_one Z I.kIn p (ZkD X.K t (Zkt ht) n (hin n (by simp))) hne fun tk=>⟨.bl _,H,I.tok tk,rfl,?_⟩
  simpa using q
 | tup xs =>
  have e:=ZjR hns
  subst e
  obtain ⟨a,vs,e,sq,dl⟩:=hy.tup
  subst e;cases ry
  obtain ⟨its,rv,⟨⟨cls,dd,data,sl⟩,h1,h2,n,h3⟩,_⟩:=I.tuple sq
  simp only at h2 h3
  subst h2 h3
  have e2:=ZjE dl
  subst e2
  have e3:=Zjf rv
  subst e3
  exact PySem.W.kia_tup Z I.kIn p h1 (ZkQ X.K (Zkt ht) ns hin) hne fun tk=>⟨.bl _,H,I.tok tk,rfl,q⟩
 | non=>cases hns
 | bl _=>cases hns
 | int _=>cases hns
 | str _=>cases hns
 | lst _=>cases hns
theorem Zee:RcD K (Zqi K) isD:=by
 intro N H vs ds d Q nh h e q
 unfold isD at e
 split at e
 ·next x c =>
  cases hc:tysOf c with
  | none=>rw [hc] at e;cases e
  | some ns =>
   rw [hc] at e
   simp only [Option.bind] at e
   split at e
   ·next hin =>
    cases ht:tyD x with
    | none=>rw [ht] at e;cases e
    | some t =>
     rw [ht] at e;cases e
     obtain ⟨v,w,rfl,hv,hw⟩:=Paired.two' h
     exact ⟨N,x,c,v,w,ns,t,rfl,hv,hw,hc,hin,ht,q _ H (Same.refl H) Zbx⟩
   ·cases e
 ·cases e
theorem Zrl {M:Fb} {H0:Hp} {x:Str} {n:String} {pos:Pos} (hg:Gl X x) (hm:X.mg x=none) (hv:bootBuiltins x=some (.type n)) (hn:x≠"__name__":=by decide) (hd:(x==("__debug__":Str))=false:=by decide):PE X (.Name x pos) (tD K M H0 fun _=>some (.ty n)) :=
 Zi5 (Zok hg hm hv (v:=.ty n) rfl hn hd) fun _ _=>by simp only [Den]
theorem Zbq {M:Fb} {H0:Hp} {x:Str} {n:String} {pos:Pos} (hg:Gl X x) (hm:X.mg x=none) (hv:bootBuiltins x=some (.type n)) (hn:x≠"__name__":=by decide) (hd:(x==("__debug__":Str))=false:=by decide):JE X (.Name x pos) (tD K M H0 fun _=>some (.ty n)):=⟨Zrl hg hm hv hn hd⟩
end
end L2
set_option Elab.async false
set_option linter.all false
set_option maxRecDepth 100000
namespace L2
open PySem PySem.Spec PyProof.Rows
section
variable {X:Cx} {K:PySem.W.Frag} {M:Fb} {H0:Hp} {a b c e tg iter:Expr} {es:List Expr} {f g h:VE→Option D} {fa:VE→Option (List Sl)} {pos:Pos}
theorem vv (i:Nat) {x:Str} (hN:X.N[i]?=some x:=by rfl) (hv:Vis X.env.scope x:=by first | exact Or.inl rfl | exact Or.inr (Or.inl rfl) | exact Or.inr (Or.inr rfl)) (hd:(x==("__debug__":Str))=false:=by decide) (hcd:(x==("__classdict__":Str))=false:=by decide) :
  PE X (.Name x pos) (tD K M H0 fun ρ=>rdV ρ i):=ZrE hN hv hd hcd
theorem Zav (i:Nat) {x:Str} (hN:X.N[i]?=some x:=by rfl) (hv:Vis X.env.scope x:=by first | exact Or.inl rfl | exact Or.inr (Or.inl rfl) | exact Or.inr (Or.inr rfl)) (hd:(x==("__debug__":Str))=false:=by decide) (hcd:(x==("__classdict__":Str))=false:=by decide):JE X (.Name x pos) (tD K M H0 fun ρ=>rdV ρ i):=⟨vv i hN hv hd hcd⟩
theorem vp (i:Nat) {x:Str} (hN:X.N[i]?=some x:=by rfl) (hv:Vis X.env.scope x:=by first | exact Or.inl rfl | exact Or.inr (Or.inl rfl) | exact Or.inr (Or.inr rfl)) (hd:(x==("__debug__":Str))=false:=by decide) (hcd:(x==("__classdict__":Str))=false:=by decide) :
  PE X (.Name x pos) (tP K M H0 fun ρ=>rdP ρ i):=Zq5 hN hv hd hcd
theorem Zj (i:Nat) {x:Str} (hN:X.N[i]?=some x:=by rfl) (hv:Vis X.env.scope x:=by first | exact Or.inl rfl | exact Or.inr (Or.inl rfl) | exact Or.inr (Or.inr rfl)) (hd:(x==("__debug__":Str))=false:=by decide) (hcd:(x==("__classdict__":Str))=false:=by decide):JE X (.Name x pos) (tP K M H0 fun ρ=>rdP ρ i):=⟨vp i hN hv hd hcd⟩
theorem vq (i:Nat) {x:Str} (hN:X.N[i]?=some x:=by rfl) (hv:Vis X.env.scope x:=by first | exact Or.inl rfl | exact Or.inr (Or.inl rfl) | exact Or.inr (Or.inr rfl)) (hd:(x==("__debug__":Str))=false:=by decide) (hcd:(x==("__classdict__":Str))=false:=by decide) :
  PE X (.Name x pos) (tQ K M H0 fun ρ=>rdQ ρ i):=Zpw hN hv hd hcd
theorem Zb9 (i:Nat) {x:Str} (hN:X.N[i]?=some x:=by rfl) (hv:Vis X.env.scope x:=by first | exact Or.inl rfl | exact Or.inr (Or.inl rfl) | exact Or.inr (Or.inr rfl)) (hd:(x==("__debug__":Str))=false:=by decide) (hcd:(x==("__classdict__":Str))=false:=by decide):JE X (.Name x pos) (tQ K M H0 fun ρ=>rdQ ρ i):=⟨vq i hN hv hd hcd⟩
theorem va (i:Nat) {x:Str} (hN:X.N[i]?=some x:=by rfl) (hv:Vis X.env.scope x:=by first | exact Or.inl rfl | exact Or.inr (Or.inl rfl) | exact Or.inr (Or.inr rfl)) (hd:(x==("__debug__":Str))=false:=by decide) (hcd:(x==("__classdict__":Str))=false:=by decide) :
  PE X (.Name x pos) (tS1 K M H0 fun ρ=>rdA ρ i):=Zql hN hv hd hcd
theorem Zz (i:Nat) {x:Str} (hN:X.N[i]?=some x:=by rfl) (hv:Vis X.env.scope x:=by first | exact Or.inl rfl | exact Or.inr (Or.inl rfl) | exact Or.inr (Or.inr rfl)) (hd:(x==("__debug__":Str))=false:=by decide) (hcd:(x==("__classdict__":Str))=false:=by decide):JE X (.Name x pos) (tS1 K M H0 fun ρ=>rdA ρ i):=⟨va i hN hv hd hcd⟩
theorem ZsY (i:Nat) {x:Str} {vpos:Pos} (hN:X.N[i]?=some x:=by rfl) (hv:Vis X.env.scope x:=by first | exact Or.inl rfl | exact Or.inr (Or.inl rfl) | exact Or.inr (Or.inr rfl)) (hd:(x==("__debug__":Str))=false:=by decide) (hcd:(x==("__classdict__":Str))=false:=by decide) :
  PS X (.Return (some (.Name x vpos)) pos) (tS K M H0 fun ρ=>Zaw (rdO ρ i)):=ZoO hN hv hd hcd
theorem Zc0 (i:Nat) {x:Str} {vpos:Pos} (hN:X.N[i]?=some x:=by rfl) (hv:Vis X.env.scope x:=by first | exact Or.inl rfl | exact Or.inr (Or.inl rfl) | exact Or.inr (Or.inr rfl)) (hd:(x==("__debug__":Str))=false:=by decide) (hcd:(x==("__classdict__":Str))=false:=by decide):JS X (.Return (some (.Name x vpos)) pos) (tS K M H0 fun ρ=>Zaw (rdO ρ i)):=⟨ZsY i hN hv hd hcd⟩
theorem Zr4 (hu:X.A.units+64<cLine) (ha:PE X a (tP X.K M H0 f)) (hb:PE X b (tP X.K M H0 g)):PE X (.Compare a [.Eq] [b] pos) (tD X.K M H0 (Zd eqO f g)):=ZjK (Zl6 hu) ZnZ ha hb (ZbP _ (by decide) (by decide))
theorem Zh3 (hu:X.A.units+64<cLine) (ha:JE X a (tP X.K M H0 f)) (hb:JE X b (tP X.K M H0 g)):JE X (.Compare a [.Eq] [b] pos) (tD X.K M H0 (Zd eqO f g)):=⟨Zr4 hu ha.h hb.h⟩
theorem ZrL (hu:X.A.units+64<cLine) (ha:PE X a (tP X.K M H0 f)) (hb:PE X b (tP X.K M H0 g)):PE X (.Compare a [.NotEq] [b] pos) (tD X.K M H0 (Zd neO f g)):=ZjK (Zms hu) ZnX ha hb (ZbP _ (by decide) (by decide))
theorem Zoo (hu:X.A.units+64<cLine) (ha:JE X a (tP X.K M H0 f)) (hb:JE X b (tP X.K M H0 g)):JE X (.Compare a [.NotEq] [b] pos) (tD X.K M H0 (Zd neO f g)):=⟨ZrL hu ha.h hb.h⟩
theorem ZrW (hu:X.A.units+64<cLine) (ha:PE X a (tP X.K M H0 f)) (hb:PE X b (tP X.K M H0 g)) (hm:behindInMarks .In b=false:=by with_unfolding_all rfl):PE X (.Compare a [.In] [b] pos) (tD X.K M H0 (Zd (inD false) f g)):=ZjK ((ZmB hu).or Ziw) ZnY ha hb hm
theorem ZhU (hu:X.A.units+64<cLine) (ha:JE X a (tP X.K M H0 f)) (hb:JE X b (tP X.K M H0 g)) (hm:behindInMarks .In b=false:=by with_unfolding_all rfl):JE X (.Compare a [.In] [b] pos) (tD X.K M H0 (Zd (inD false) f g)):=⟨ZrW hu ha.h hb.h hm⟩
theorem ZqX (hu:X.A.units+64<cLine) (ha:PE X a (tP X.K M H0 f)) (hb:PE X b (tP X.K M H0 g)):PT X (.Compare a [.Eq] [b] pos) (tB' X.K M H0 fun ρ=>asB (Zd eqO f g ρ)):=ZdX (Zl6 hu) ZnZ ha hb (ZbP _ (by decide) (by decide))
theorem Za6 (hu:X.A.units+64<cLine) (ha:JE X a (tP X.K M H0 f)) (hb:JE X b (tP X.K M H0 g)):JT X (.Compare a [.Eq] [b] pos) (tB' X.K M H0 fun ρ=>asB (Zd eqO f g ρ)):=⟨ZqX hu ha.h hb.h⟩
theorem Zqr (hu:X.A.units+64<cLine) (ha:PE X a (tP X.K M H0 f)) (hb:PE X b (tP X.K M H0 g)):PT X (.Compare a [.NotEq] [b] pos) (tB' X.K M H0 fun ρ=>asB (Zd neO f g ρ)):=ZdX (Zms hu) ZnX ha hb (ZbP _ (by decide) (by decide))
theorem ZeW (hu:X.A.units+64<cLine) (ha:JE X a (tP X.K M H0 f)) (hb:JE X b (tP X.K M H0 g)):JT X (.Compare a [.NotEq] [b] pos) (tB' X.K M H0 fun ρ=>asB (Zd neO f g ρ)):=⟨Zqr hu ha.h hb.h⟩
theorem Zpx (hu:X.A.units+64<cLine) (ha:PE X a (tP X.K M H0 f)) (hb:PE X b (tP X.K M H0 g)):PT X (.Compare a [.Lt] [b] pos) (tB' X.K M H0 fun ρ=>asB (Zd ltO f g ρ)):=ZdX (ZqD hu) Zsh ha hb (ZbP _ (by decide) (by decide))
theorem ZjT (hu:X.A.units+64<cLine) (ha:JE X a (tP X.K M H0 f)) (hb:JE X b (tP X.K M H0 g)):JT X (.Compare a [.Lt] [b] pos) (tB' X.K M H0 fun ρ=>asB (Zd ltO f g ρ)):=⟨Zpx hu ha.h hb.h⟩
theorem Zrg (hu:X.A.units+64<cLine) (ha:PE X a (tP X.K M H0 f)) (hb:PE X b (tP X.K M H0 g)):PT X (.Compare a [.Gt] [b] pos) (tB' X.K M H0 fun ρ=>asB (Zd gtD f g ρ)):=ZdX ZrZ (ZrR _) ha hb (ZbP _ (by decide) (by decide))
theorem ZnB (hu:X.A.units+64<cLine) (ha:JE X a (tP X.K M H0 f)) (hb:JE X b (tP X.K M H0 g)):JT X (.Compare a [.Gt] [b] pos) (tB' X.K M H0 fun ρ=>asB (Zd gtD f g ρ)):=⟨Zrg hu ha.h hb.h⟩
theorem Zry (hu:X.A.units+64<cLine) (ha:PE X a (tP X.K M H0 f)) (hb:PE X b (tP X.K M H0 g)) (hm:behindInMarks .In b=false:=by with_unfolding_all rfl):PT X (.Compare a [.In] [b] pos) (tB' X.K M H0 fun ρ=>asB (Zd (inD false) f g ρ)):=ZdX ((ZmB hu).or Ziw) ZnY ha hb hm
theorem Ze7 (hu:X.A.units+64<cLine) (ha:JE X a (tP X.K M H0 f)) (hb:JE X b (tP X.K M H0 g)) (hm:behindInMarks .In b=false:=by with_unfolding_all rfl):JT X (.Compare a [.In] [b] pos) (tB' X.K M H0 fun ρ=>asB (Zd (inD false) f g ρ)):=⟨Zry hu ha.h hb.h hm⟩
theorem Zov (hu:X.A.units+64<cLine) (ha:PE X a (tP X.K M H0 f)) (hb:PE X b (tP X.K M H0 g)) (hm:behindInMarks .NotIn b=false:=by with_unfolding_all rfl):PT X (.Compare a [.NotIn] [b] pos) (tB' X.K M H0 fun ρ=>asB (Zd (inD true) f g ρ)):=ZdX ((ZoS hu).or ZjD) Zqu ha hb hm
theorem ZcZ (hu:X.A.units+64<cLine) (ha:JE X a (tP X.K M H0 f)) (hb:JE X b (tP X.K M H0 g)) (hm:behindInMarks .NotIn b=false:=by with_unfolding_all rfl):JT X (.Compare a [.NotIn] [b] pos) (tB' X.K M H0 fun ρ=>asB (Zd (inD true) f g ρ)):=⟨Zov hu ha.h hb.h hm⟩
@[simp] def Ztc (F F':D→D→Option D) (f g h:VE→Option D):VE→Option D:=fun ρ=>(f ρ).bind fun x=>(g ρ).bind fun y=>match F x y with
  | some (.bl true)=>(h ρ).bind fun z=>F' y z
  | some (.bl false)=>some (.bl false)
  | _=>none
@[simp] def Zat:Option D→Option Bool
  | some .non=>some false
  | some (.bl b)=>some b
  | some (.int i)=>some (i != 0)
  | some (.str y)=>if y.length≤sizeLine then some ((y.length:Int) != 0) else none
  | some (.lst xs)=>some (!xs.isEmpty)
  | some (.tup xs)=>some (!xs.isEmpty)
  | _=>none
theorem DenL.isEmpty {N:Fb} {H:Hp} {xs:List D} {vs:List V} (h:DenL K N H xs vs):vs.isEmpty=xs.isEmpty:=by
 cases xs with
 | nil=>simp only [DenL] at h;subst h;rfl
 | cons x xs=>simp only [DenL] at h;obtain ⟨_,_,e,_⟩:=h;subst e;rfl
theorem Zp9 (ha:PE X a (tP X.K M H0 f)) (he:∀ whole,isTrue a X.env whole=(do let v ← whole;standAt a.pos;holding [v] (truthy v)):=by intro _;rfl):PT X a (tB' X.K M H0 fun ρ=>Zat (f ρ)) :=
 (Znj ha he).mono fun σ H Q ⟨ρ,k,R,e,q⟩=>by
  try dsimp only at e q
  unfold Zat at e
  split at e
  ·next hf=>cases e;exact ⟨ρ,_,R,hf,fun v H' s hv=>⟨_,by rw [hv.non];rfl,q H' s⟩⟩
  ·next hf=>cases e;exact ⟨ρ,_,R,hf,fun v H' s hv=>⟨_,by rw [hv.bl];rfl,q H' s⟩⟩
  ·next hf=>cases e;exact ⟨ρ,_,R,hf,fun v H' s hv=>⟨_,by rw [hv.int];rfl,q H' s⟩⟩
  ·next hf =>
   split at e
   ·next hz=>cases e;exact ⟨ρ,_,R,hf,fun v H' s hv=>⟨_,by rw [hv.str];exact ⟨hz,rfl⟩,q H' s⟩⟩
   ·cases e
  ·next hf =>
   cases e
   refine ⟨ρ,_,R,hf,fun v H' s hv=>⟨_,?_,q H' s⟩⟩
   obtain ⟨p,vs,e1,q1,r1⟩:=hv
   subst e1
   exact .inl ⟨vs,q1,by rw [r1.isEmpty]⟩
  ·next hf =>
   cases e
   refine ⟨ρ,_,R,hf,fun v H' s hv=>⟨_,?_,q H' s⟩⟩
   obtain ⟨p,vs,e1,q1,r1⟩:=hv.tup
   subst e1
   exact .inr (.inl ⟨vs,q1,by rw [r1.isEmpty]⟩)
  ·cases e
theorem Zal (ha:JE X a (tP X.K M H0 f)) (he:∀ whole,isTrue a X.env whole=(do let v ← whole;standAt a.pos;holding [v] (truthy v)):=by intro _;rfl):JT X a (tB' X.K M H0 fun ρ=>Zat (f ρ)):=⟨Zp9 ha.h he⟩
@[simp] def ZA:D→Option (List D)
  | .lst xs=>some xs
  | .tup xs=>some xs
  | .str x=>some (x.cps.toList.map fun c=>D.str ⟨#[c]⟩)
  | _=>none
theorem Zrc {l:Expr} (hl:PE X l (tQ X.K M H0 f)):PI X tg l (tI X.K M H0 fun ρ=>(f ρ).bind ZA):=fun pins s σ H R' I ⟨ρ,ds,R,e,q⟩=>by
 try dsimp only at e
 cases hf:f ρ with
 | none=>rw [hf] at e;cases e
 | some d =>
  rw [hf] at e
  cases d with
  | lst xs fl =>
   cases fl with
   | true=>cases e
   | false=>exact Zob hl pins s σ H R' I ⟨ρ,ds,R,by dsimp only;rw [hf];exact e,q⟩
  | tup xs=>exact Zrw hl pins s σ H R' I ⟨ρ,ds,R,by dsimp only;rw [hf];exact e,q⟩
  | str x=>exact Zp3 hl pins s σ H R' I ⟨ρ,ds,R,by dsimp only;rw [hf];exact e,q⟩
  | _=>cases e
theorem ZV {l:Expr} (hl:JE X l (tQ X.K M H0 f)):JI X tg l (tI X.K M H0 fun ρ=>(f ρ).bind ZA):=⟨Zrc hl.h⟩
@[simp] def Zt3 (i:Nat) (o:Option (List D)) (ρ:VE):Res:=match rdO ρ i,o with
  | some xs,some ys=>if xs.length+ys.length≤sizeLine then .next (ρ.set i (.own (xs++ys))) else .fail
  | _,_=>.fail
@[simp] def ZtY (i:Nat) (ρ:VE):Res:=match rdO ρ i with
  | some xs=>.next (ρ.set i (.own xs.reverse))
  | _=>.fail
@[simp] def ZtU (i j:Nat) (ρ:VE):Res:=match rdO ρ j with
  | some xs=>.next ((ρ.set j .no).set i (.own xs))
  | _=>.fail
@[simp] def ZtX (i j:Nat) (ρ:VE):Res:=match rdG ρ j with
  | some xs=>.next ((ρ.set j .no).set i (.own xs true))
  | _=>.fail
end
end L2
namespace L2
theorem PSs.conv {X:Cx} {K:PySem.W.Frag} {M:Fb} {H0:Hp} {b:List PySem.Stmt} {g g':VE→Res} (h:PSs X b (tS K M H0 g)) (e:g=g'):PSs X b (tS K M H0 g'):=e ▸ h
theorem Z2 {X:Cx} {K:PySem.W.Frag} {M:Fb} {H0:Hp} {b:List PySem.Stmt} {g g':VE→Res} (h:JB X b (tS K M H0 g)) (e:g=g'):JB X b (tS K M H0 g'):=⟨PSs.conv h.h e⟩
end L2
namespace L2
theorem Zfn {X:Cx} {e:PySem.Expr} {t:TT} (h:JW X e t):JT X e t:=⟨h.h.pt⟩
end L2
set_option Elab.async false
set_option linter.all false
set_option maxRecDepth 100000
namespace L2
open PySem PySem.Spec PyProof.Rows
def ZpE (ns:List Int):List Int:=ns.mergeSort fun a b=>decide (a≤b)
section
variable {X:Cx} {K:PySem.W.Frag}
def ZnU:List D→Option (List D)
 | [.lst xs]=>(Zgv xs).bind fun ns=>if ns.length<64 then some ((ZpE ns).map D.int) else none
 | _=>none
@[simp] def mtO (F:Str→List D→Option D) (f:VE→Option D) (fa:VE→Option (List Sl)):VE→Option D:=fun ρ=>match f ρ with
  | some (.str z)=>((fa ρ).bind pks).bind (F z)
  | _=>none
@[simp] def Zt4 (F:Str→List D→Option D) (f:VE→Option D):VE→Option D:=fun ρ=>match f ρ with
  | some (.str z)=>F z []
  | _=>none
section
variable {M:Fb} {H0:Hp} {o e:Expr} {es:List Expr} {f:VE→Option D} {fa:VE→Option (List Sl)} {name:Str} {apos cpos:Pos} {id:String} {r:V→List V→Hp→VK→Prop} {F:Str→List D→Option D}
end
def Zlm:List D→Option (List Str)
 | []=>some []
 | .str b::r=>(Zlm r).map (b::·)
 | _=>none
@[simp] theorem ZoW:∀ (ns:List Str),Zlm (ns.map D.str)=some ns
  | []=>rfl
  | n::ns=>by simp only [List.map_cons,Zlm,ZoW ns];rfl
@[simp] def ZtN (z:Str):List D→Option D
  | [.lst xs]=>(Zlm xs).bind fun zs=>if (zs.map (·.length)).sum+zs.length * z.length≤16777216 then some (.str (Txt.join z zs)) else none
  | _=>none
@[simp] def ZtO (z:Str):List D→Option D
  | [.str y]=>some (.int (Txt.find z y))
  | _=>none
@[simp] def Zty (z:Str):List D→Option D
  | []=>if Builtin.Str.tooLong (Txt.upper z).length=false then some (.str (Txt.upper z)) else none
  | _=>none
end
end L2
set_option Elab.async false
set_option linter.all false
set_option maxRecDepth 100000
namespace L2
open PySem PySem.Spec PyProof.Rows
structure ZhH (P:Program) (w:World) (i:Addr) (fp:List Addr) (n:Nat) (is:Nat→Value→Prop) (st:Nat→Heap→Prop):Prop where
 frame:∀ k h h',st k h→(∀ b,b=i∨b∈fp→∀ o,h.get? b=some o→h'.get? b=some o)→st k h'
 lt:∀ k h,st k h→i<h.objs.size
 item:∀ (A:Around) (E:Value→Shared→Prop) (s:Shared) (k:Nat) (Q:Value→Shared→Prop),k<n→st k s.heap→(∀ v h',is k v→st (k+1) h'→Heap.SameBut i s.heap h'→Q v { s with heap:=h' })→wpAny (model P w) A (Builtin.SmallTypes.nextOf (.ref i)) Q E s
 fin:∀ (A:Around) (E:Value→Shared→Prop) (s:Shared) (k:Nat) (Q:Value→Shared→Prop),A.handled=none→n≤k→st k s.heap→(∀ h' e,Heap.ExtBut i s.heap h'→(∃ o,h'.get? e=some o∧o.cls=.type "StopIteration")→E (.ref e) { s with heap:=h' }) →
  wpAny (model P w) A (Builtin.SmallTypes.nextOf (.ref i)) Q E s
section
variable {prog:Program} {w:World} {A:Around} {E:Value→Shared→Prop} {s:Shared}
theorem ZhI {i tu:Addr} {k:Nat} {its:Array Value} {v:Value} {Q:Value→Shared→Prop} (hi:s.heap.IsTupleIter i tu k) (ht:s.heap.IsTuple tu its) (hv:its[k]?=some v)
  (q:∀ h',h'.IsTupleIter i tu (k+1)→Heap.SameBut i s.heap h'→Q v { s with heap:=h' }):wpAny (model prog w) A (Builtin.SmallTypes.nextOf (.ref i)) Q E s:=by
 obtain ⟨oi,e0,c0,f0⟩:=id hi
 obtain ⟨ot,e1,_,m1,f1⟩:=ht
 unfold Builtin.SmallTypes.nextOf
 refine wpAny_bind (wpAny_callSpecial?_slot (name:=Str.ofString "__next__") hi.typeIs PySem.F.slot_tuple_iterator_next (wpAny_call_entry PySem.F.slot_tuple_iterator_next hi.typeIs PySem.F.entry_tuple_iterator_next ?_ (PySem.F.args_tuple_iterator_next_1 _)))
 show wpAny _ _ (field (.ref i) 0 >>= _) _ _ s
 refine wpAny_bind (wpAny_field e0 f0 (x:=.ref tu) rfl ?_)
 show wpAny _ _ (if (Value.ref tu==Value.none)=true then _ else _) _ _ s
 rw [if_neg (show ¬ ((Value.ref tu==Value.none)=true) from Bool.false_ne_true)]
 show wpAny _ _ (field (.ref i) 1 >>= _) _ _ s
 refine wpAny_bind (wpAny_field e0 f0 (x:=.int k 0) rfl ?_)
 show wpAny _ _ (seqItems? (.ref tu) >>= _) _ _ s
 refine wpAny_bind (wpAny_seqItems e1 f1 ?_)
 simp only [hv,Int.toNat_natCast]
 refine wpAny_bind (wpAny_setField e0 f0 (by simp) (wpAny_pure ⟨v,rfl,wpAny_pure (q _ ?_ (Heap.SameBut.update ..))⟩))
 exact ⟨_,Heap.get?_update_self _ e0 (Obj.isFreed_of_fields (Obj.data_mapFields f0 _)),(Obj.cls_mapFields ..).trans c0,by rw [Obj.data_mapFields f0];simp [rawInt]⟩
theorem Zia {i tu:Addr} {k:Nat} {its:Array Value} {Q:Value→Shared→Prop} (hh:A.handled=none) (hi:s.heap.IsTupleIter i tu k) (ht:s.heap.IsTuple tu its) (hv:its[k]?=none)
  (q:∀ h' e,Heap.ExtBut i s.heap h'→(∃ o,h'.get? e=some o∧o.cls=.type "StopIteration")→E (.ref e) { s with heap:=h' }):wpAny (model prog w) A (Builtin.SmallTypes.nextOf (.ref i)) Q E s:=by
 obtain ⟨oi,e0,c0,f0⟩:=id hi
 obtain ⟨ot,e1,_,m1,f1⟩:=ht
 unfold Builtin.SmallTypes.nextOf
 refine wpAny_bind (wpAny_callSpecial?_slot (name:=Str.ofString "__next__") hi.typeIs PySem.F.slot_tuple_iterator_next (wpAny_call_entry PySem.F.slot_tuple_iterator_next hi.typeIs PySem.F.entry_tuple_iterator_next ?_ (PySem.F.args_tuple_iterator_next_1 _)))
 show wpAny _ _ (field (.ref i) 0 >>= _) _ _ s
 refine wpAny_bind (wpAny_field e0 f0 (x:=.ref tu) rfl ?_)
 show wpAny _ _ (if (Value.ref tu==Value.none)=true then _ else _) _ _ s
 rw [if_neg (show ¬ ((Value.ref tu==Value.none)=true) from Bool.false_ne_true)]
 show wpAny _ _ (field (.ref i) 1 >>= _) _ _ s
 refine wpAny_bind (wpAny_field e0 f0 (x:=.int k 0) rfl ?_)
 show wpAny _ _ (seqItems? (.ref tu) >>= _) _ _ s
 refine wpAny_bind (wpAny_seqItems e1 f1 ?_)
 simp only [hv,Int.toNat_natCast]
 refine wpAny_bind (wpAny_rule (wpAny_bind (wpAny_setField e0 f0 (by simp) ?_)))
 show wpAny _ _ (newExc (.type "StopIteration") ([]:List Value) >>= _) _ _ _
 refine wpAny_bind ?_
 simp only [newTuple,newExc]
 refine wpAny_bind (wpAny_newObj_type ?_ (show (0:Nat)≤sizeLine by decide))
 refine wpAny_bind (m:=firstArgMember _ _) (wpAny_of_eq (a:=Value.none) (by first | rfl | (unfold firstArgMember;rfl)) ?_)
 refine wpAny_newObj_type ?_ (by first | trivial | (show (0:Nat)≤sizeLine;decide) | size_fits)
 unfold raiseNew
 refine wpAny_bind (wpAny_handled ?_)
 first | rw [hh] | rw [show A.in1.handled=none from hh]
 refine wpAny_bind (wpAny_pure (wpAny_throw ?_))
 exact q _ _ ((Heap.ExtBut.push (Heap.SameBut.extBut (Heap.SameBut.update ..)) _).push _) ⟨_,Heap.get?_push_size _ rfl,rfl⟩
theorem ZnH {P:Program} {w:World} {i l:Addr} (its:Array Value):ZhH P w i [l] its.size (fun k v=>its[k]?=some v) (fun k h=>h.IsListIter i l k∧h.IsList l its) where
 frame:=fun k h h' ⟨a,b⟩ kp=>⟨a.at fun o e=>kp i (.inl rfl) o e,b.at fun o e=>kp l (.inr (by simp)) o e⟩
 lt:=fun k h ⟨⟨o,e,_⟩,_⟩=>Heap.lt_size e
 item:=fun A E s k Q hk ⟨a,b⟩ q=>wpAny_nextOf_list_item a b (Array.getElem?_eq_getElem hk) fun h' a' sb=>by
  by_cases hl:l=i
  ·subst hl
   obtain ⟨o,e,c,_⟩:=a
   obtain ⟨o',e',c',_⟩:=b
   rw [e] at e';cases e'
   rw [c] at c'
   exact absurd c' (by decide)
  ·exact q _ h' (Array.getElem?_eq_getElem hk) ⟨a',b.extBut sb.extBut hl⟩ sb
 fin:=fun A E s k Q hh hk ⟨a,b⟩ q=>wpAny_nextOf_list_end hh a b (Array.getElem?_eq_none hk) q
theorem Zn6 {P:Program} {w:World} {i l:Addr} (its:Array Value):ZhH P w i [l] its.size (fun k v=>its[k]?=some v) (fun k h=>h.IsTupleIter i l k∧h.IsTuple l its) where
 frame:=fun k h h' ⟨a,b⟩ kp=>⟨a.at fun o e=>kp i (.inl rfl) o e,b.at fun o e=>kp l (.inr (by simp)) o e⟩
 lt:=fun k h ⟨⟨o,e,_⟩,_⟩=>Heap.lt_size e
 item:=fun A E s k Q hk ⟨a,b⟩ q=>ZhI a b (Array.getElem?_eq_getElem hk) fun h' a' sb=>by
  by_cases hl:l=i
  ·subst hl
   obtain ⟨o,e,c,_⟩:=a
   obtain ⟨o',e',c',_⟩:=b
   rw [e] at e';cases e'
   rw [c] at c'
   exact absurd c' (by decide)
  ·exact q _ h' (Array.getElem?_eq_getElem hk) ⟨a',b.at fun o e=>sb.extBut _ _ hl e⟩ sb
 fin:=fun A E s k Q hh hk ⟨a,b⟩ q=>Zia hh a b (Array.getElem?_eq_none hk) q
section
variable {z tin tout ia ib:Addr} {fa fb:List Addr} {n m k:Nat} {isA isB:Nat→Value→Prop} {sa sb:Nat→Heap→Prop} {a b:Value}
end
end
end L2
set_option Elab.async false
set_option linter.all false
set_option maxRecDepth 100000
namespace L2
open PySem PySem.Spec PyProof.Rows
section
variable {X:Cx} {pins:List (Addr×Obj)} {σ:St} {H:Hp} {s:Shared} {h':Heap}
theorem Inv.turnedL {fp:List Addr} (I:Inv X pins σ H s) (hf:∀ b∈fp,ZcI X pins H b) (k:∀ b o,b∉fp→s.heap.get? b=some o→h'.get? b=some o):Inv X pins σ H { s with heap:=h' }:=by
 have nit:∀ b u,H b=some u→b∉fp:=fun b u e z=>by rw [(hf b z).1] at e;cases e
 refine I.step (g':=s.gens) (d':=s.drawn) (t':=s.toks) (ch:=fp) (fun b hb=>?_) (fun b o _ _ hc e _=>k b o hc e) (fun b o _ _ hc e _=>⟨o.slots,k b o hc e⟩) (fun _ _ _ _ n=>n)
  (fun b o hc e=>⟨o,k b o hc e⟩) (fun _ _ e=>e) (fun _ _ _ e=>e) (fun b ps e=>⟨#[],by rw [e];simp⟩) (fun m hm=>?_) (fun b u e=>?_) I.bare
 ·obtain ⟨_,f1,_,f3,f4,f5⟩:=hf b hb
  exact ⟨f3,f1,f4,f5⟩
 ·obtain ⟨o,es,ep,ho,r⟩:=hm
  exact ⟨o,es,ep,k _ o (fun z=>(hf _ z).2.1 rfl) ho,r⟩
 ·refine (I.hok b u e).stay (fun c v hc q=>k c v ?_ q) (fun _ q=>q) fun _ _ q=>q
  rcases hc with z | z
  ·rw [z];exact nit b u e
  ·exact nit c _ z
theorem Inv.yielded {fp:List Addr} {p:Addr} {vs:List V} (I:Inv X pins σ H s) (hf:∀ b∈fp,ZcI X pins H b) (k:∀ b o,b∉fp→s.heap.get? b=some o→h'.get? b=some o) (hp:s.heap.objs.size≤p)
  (new:ObjOk X.prog X.w (upd H p (.tup vs)) h' p (.tup vs)):Inv X pins σ (upd H p (.tup vs)) { s with heap:=h' }:=by
 have nit:∀ b u,H b=some u→b∉fp:=fun b u e z=>by rw [(hf b z).1] at e;cases e
 have hn:H p=none:=I.hok.fresh hp
 refine I.step (g':=s.gens) (d':=s.drawn) (t':=s.toks) (ch:=fp) (fun b hb=>?_) (fun b o _ _ hc e _=>k b o hc e) (fun b o _ _ hc e _=>⟨o.slots,k b o hc e⟩) (fun b o _ e n=>?_)
  (fun b o hc e=>⟨o,k b o hc e⟩) (fun b xs e=>?_) (fun b o u e=>?_) (fun b ps e=>⟨#[],?_⟩) (fun m hm=>?_) (fun b u e=>?_) I.bare
 ·obtain ⟨_,f1,_,f3,f4,f5⟩:=hf b hb
  exact ⟨f3,f1,f4,f5⟩
 ·rw [ZG (Nat.ne_of_lt (Nat.lt_of_lt_of_le (Heap.lt_size e) hp))];exact n
 ·rw [ZG (Zac e hn)];exact e
 ·rw [ZG (Zac e hn)];exact e
 ·rw [ZG (Zac e hn),e];simp
 ·obtain ⟨o,es,ep,ho,r⟩:=hm
  exact ⟨o,es,ep,k _ o (fun z=>(hf _ z).2.1 rfl) ho,r⟩
 ·by_cases hb:b=p
  ·subst hb;rw [ZaJ] at e;cases e;exact new
  ·rw [ZG hb] at e
   refine (I.hok b u e).stay (fun c v hc q=>k c v ?_ q) (fun c q=>by rw [ZG (Zac q hn)];exact q) fun c xs q=>by rw [ZG (Zac q hn)];exact q
   rcases hc with z | z
   ·rw [z];exact nit b u e
   ·exact nit c _ z
end
inductive Src where
 | l (a:Addr)
 | t (a:Addr)
@[reducible] def Src.ad:Src→Addr
  | .l a=>a
  | .t a=>a
def Src.sq (K:PySem.W.Frag) (H:Hp):Src→List V→Prop
 | .l a=>SqL K H a
 | .t a=>SqT K H a
def Src.nm:Src→String
 | .l _=>"list_iterator"
 | .t _=>"tuple_iterator"
def Src.ok (h:Heap) (its:Array Value):Src→Prop
 | .l a=>h.IsList a its
 | .t a=>h.IsTuple a its
def Src.it (h:Heap) (i:Addr) (k:Nat):Src→Prop
 | .l a=>h.IsListIter i a k
 | .t a=>h.IsTupleIter i a k
theorem Src.of (S:Src) {X:Cx} {pins:List (Addr×Obj)} {σ:St} {H:Hp} {s:Shared} {xs:List V} (I:Inv X pins σ H s) (h:S.sq X.K H xs):∃ its:List Value,Vals xs its∧S.ok s.heap its.toArray∧xs.length≤sizeLine:=by
 cases S with
 | l a=>obtain ⟨its,r,p,z⟩:=I.list h;exact ⟨its,r,p.isList,z⟩
 | t a=>obtain ⟨its,r,p,z⟩:=I.tuple h;exact ⟨its,r,(show s.heap.IsTuple a its.toArray from p),z⟩
theorem Src.inj (S:Src) {X:Cx} {pins:List (Addr×Obj)} {σ:St} {H:Hp} {s:Shared} {xs ys:List V} (I:Inv X pins σ H s) (h:S.sq X.K H xs) (h':S.sq X.K H ys):xs=ys:=by
 cases S with
 | l a=>exact I.list_inj h h'
 | t a=>exact I.tuple_inj h h'
theorem Src.lt (S:Src) {h:Heap} {its:Array Value} (p:S.ok h its):S.ad<h.objs.size:=by
 cases S with
 | l a=>obtain ⟨o,e,_⟩:=p;exact Heap.lt_size e
 | t a=>obtain ⟨o,e,_⟩:=p;exact Heap.lt_size e
theorem Src.itAt (S:Src) {h h':Heap} {i:Addr} {n:Nat} (p:S.it h i n) (k:∀ o,h.get? i=some o→h'.get? i=some o):S.it h' i n:=by
 cases S with
 | l a=>exact Heap.IsListIter.at p k
 | t a=>exact Heap.IsTupleIter.at p k
theorem Src.itOb (S:Src) {h:Heap} {i:Addr} {n:Nat} (p:S.it h i n):∃ o,h.get? i=some o∧∀ v,o.data≠.cell v:=by
 cases S with
 | l a=>obtain ⟨o,e,c,d⟩:=p;exact ⟨o,e,fun v z=>by rw [d] at z;cases z⟩
 | t a=>obtain ⟨o,e,c,d⟩:=p;exact ⟨o,e,fun v z=>by rw [d] at z;cases z⟩
theorem Src.sub (S:Src) {P:Program} {w:World} {i:Addr} (its:Array Value):ZhH P w i [S.ad] its.size (fun k v=>its[k]?=some v) (fun k h=>S.it h i k∧S.ok h its):=by
 cases S with
 | l a=>exact ZnH its
 | t a=>exact Zn6 its
def Src.obj (S:Src):Obj:={ cls:=.type S.nm,data:=.fields #[.ref S.ad,.int 0 0] }
theorem Src.pyIter (S:Src) {prog:Program} {w:World} {A:Around} {E:Value→Shared→Prop} {s:Shared} {its:Array Value} {Q:Value→Shared→Prop} (p:S.ok s.heap its)
  (q:Q (.ref s.heap.objs.size) { s with heap:=s.heap.push S.obj }):wpAny (model prog w) A (pyIter (.ref S.ad)) Q E s:=by
 cases S with
 | l a=>exact wpAny_pyIter_list p q
 | t a=>exact wpAny_pyIter_tuple p q
theorem Src.new (S:Src) {h:Heap}:S.it (h.push S.obj) h.objs.size 0:=by
 cases S with
 | l a=>exact ⟨_,Heap.get?_push_size _ rfl,rfl,rfl⟩
 | t a=>exact ⟨_,Heap.get?_push_size _ rfl,rfl,rfl⟩
end L2
set_option Elab.async false
set_option linter.all false
set_option maxRecDepth 100000
namespace L2
open PySem PySem.Spec PyProof.Rows
section
variable {prog:Program} {w:World} {A:Around} {E:Value→Shared→Prop} {s:Shared}
end
@[simp] def Zdr:D→Option (List D)
  | .lst xs=>some xs
  | .tup xs=>some xs
  | _=>none
theorem DenQ.src {K:PySem.W.Frag} {M N:Fb} {H:Hp} {d:D} {v:V} {xs:List D} (h:DenQ K M N H d v) (e:Zdr d=some xs) :
  ∃ (S:Src) (vs:List V),v=.ref S.ad∧DenL K N H xs vs∧∀ N2 H2,Step M N N2 H H2→S.sq K H2 vs:=by
 cases d with
 | lst ys fl =>
  cases fl with
  | true=>cases e
  | false =>
  cases e
  obtain ⟨a,vs,e1,hr,hd⟩:=h
  refine ⟨.l a,vs,e1,hd,fun N2 H2 S=>?_⟩
  rcases hr with ⟨hn,hr⟩ | hr
  ·exact .inl (hr.step S (by rcases hn with z | z;exact .inl z;exact .inr (.inl z)))
  ·exact hr.sq
 | tup ys =>
  cases e
  simp only [DenQ,Den] at h
  obtain ⟨a,vs,e1,hr,hd⟩:=h
  exact ⟨.t a,vs,e1,hd,fun N2 H2 S=>hr.step S⟩
 | _=>cases e
@[simp] def Zt1 (f g:VE→Option D):VE→Option (List D):=fun ρ=>match (f ρ).bind Zdr,(g ρ).bind Zdr with
  | some xs,some ys=>some (List.zipWith (fun x y=>D.tup [x,y]) xs ys)
  | _,_=>none
section
variable {X:Cx} {M:Fb} {H0:Hp} {f g:VE→Option D} {a b:Expr} {elts:List Expr} {p pos tpos:Pos}
end
end L2
set_option Elab.async false
set_option linter.all false
set_option maxRecDepth 100000
namespace L2
open PySem PySem.Spec PyProof.Rows
section
variable {prog:Program} {w:World} {A:Around} {E:Value→Shared→Prop} {s:Shared}
theorem Zlr (l:Addr) (items:Array Value) (n:Nat) (dct:Option Addr) (sl:Array (Option Value)) (ob:Obj) (ho:ob={ cls:=.type "list_iterator",data:=.fields #[.ref l,.int 0 0] }) :
  Meets (Builtin.«enumerate.__new__» ⟨[.type "enumerate",.ref l],[]⟩) (fun _ R s=>s.heap.get? l=some { cls:=.type "list",dict:=dct,data:=.seq items n,slots:=sl } ∧
   R (.ok (.ret (.ref (s.heap.push ob).objs.size))) { s with heap:=(s.heap.push ob).push { cls:=.type "enumerate",data:=.fields #[.none,.bool false,.ref s.heap.objs.size,rawInt 0,.none,.none] } }):=by
 subst ho;exact meets_enumerate_newL l items n dct sl
theorem Zlo (l:Addr) (items:Array Value) (n:Nat) (dct:Option Addr) (sl:Array (Option Value)) :
  Meets (Builtin.«enumerate.__new__» ⟨[.type "enumerate",.ref l],[]⟩) (fun _ R s=>s.heap.get? l=some { cls:=.type "tuple",dict:=dct,data:=.seq items n,slots:=sl } ∧
   R (.ok (.ret (.ref (s.heap.push (Src.obj (.t l))).objs.size))) { s with heap:=(s.heap.push (Src.obj (.t l))).push { cls:=.type "enumerate",data:=.fields #[.none,.bool false,.ref s.heap.objs.size,rawInt 0,.none,.none] } }) :=
 .of_wp fun prog w A R s h=>by
  obtain ⟨hp,g,d,tk,os⟩:=s;obtain ⟨e,q⟩:=h
  have hs:=sub_enumerate
  have hL:Src.ok (Shared.heap ⟨hp,g,d,tk,os⟩) items (.t l):=⟨_,e,rfl,n,rfl⟩
  have hI:∀ {prog:Program} {w:World} {A:Around} {E:Value→Shared→Prop} {Q:Value→Shared→Prop},Q (.ref hp.objs.size) ⟨hp.push (Src.obj (.t l)),g,d,tk,os⟩→wpAny (model prog w) A (pyIter (.ref l)) Q E ⟨hp,g,d,tk,os⟩:=fun q=>Src.pyIter (.t l) hL q
  wp_walk using AutoSeq1.wpAny_loadPart' e
  refine wpAny_stack_any fun st=>wpAny_pure ?_
  split
  ·rename_i c _ _ _ _ _
   cases (c==Value.type "enumerate")
   ·wp_walk using AutoSeq1.wpAny_loadPart' e,hI
    exact ⟨_,rfl,q⟩
   ·wp_walk using AutoSeq1.wpAny_loadPart' e,hI
    exact ⟨_,rfl,q⟩
  ·wp_walk using AutoSeq1.wpAny_loadPart' e,hI
   exact ⟨_,rfl,q⟩
theorem Zl4 {S:Src} {items:Array Value} {Q:Value→Shared→Prop} (p:S.ok s.heap items)
  (q:∀ h',IsEnum h' (s.heap.objs.size+1) s.heap.objs.size 0 .none→S.it h' s.heap.objs.size 0→(∀ b o,s.heap.get? b=some o→h'.get? b=some o)→Q (.ref (s.heap.objs.size+1)) { s with heap:=h' }) :
  wpAny (model prog w) A (call (.type "enumerate") [.ref S.ad]) Q E s:=by
 have hz:(s.heap.push S.obj).objs.size=s.heap.objs.size+1:=Heap.size_push ..
 have he:IsEnum ((s.heap.push S.obj).push { cls:=.type "enumerate",data:=.fields #[.none,.bool false,.ref s.heap.objs.size,rawInt 0,.none,.none] }) (s.heap.objs.size+1) s.heap.objs.size 0 .none:=by
  have:=Heap.get?_push_size (s.heap.push S.obj) (o:={ cls:=.type "enumerate",data:=.fields #[.none,.bool false,.ref s.heap.objs.size,rawInt 0,.none,.none] }) rfl
  rw [hz] at this;exact this
 have fin:(s.TypeIs (.ref 0) "x"→True):=fun _=>trivial
 have last:=q _ he (S.itAt (S.new (h:=s.heap)) fun o e=>Heap.get?_push_of_some _ e) fun b o e=>Heap.get?_push_of_some _ (Heap.get?_push_of_some _ e)
 cases S with
 | l a =>
  obtain ⟨⟨c,dct,dt,sl⟩,hl,hc,n,hd⟩:=p
  replace hc:c=.type "list":=hc
  replace hd:dt=.seq items n:=hd
  subst hc hd
  refine callType_new PySem.F.called_enumerate (by decide) (PySem.F.typeCall_enumerate_1 _) (PySem.F.newCall_enumerate_1 _) (fun obj=>PySem.F.args_object_init_2 obj _) PySem.F.entry_enumerate_new (Zlr a items n dct sl (Src.obj (.l a)) rfl) ⟨hl,?_⟩
  show _∧_
  rw [hz]
  exact ⟨⟨_,he,rfl⟩,last⟩
 | t a =>
  obtain ⟨⟨c,dct,dt,sl⟩,hl,hc,n,hd⟩:=p
  replace hc:c=.type "tuple":=hc
  replace hd:dt=.seq items n:=hd
  subst hc hd
  refine callType_new PySem.F.called_enumerate (by decide) (PySem.F.typeCall_enumerate_1 _) (PySem.F.newCall_enumerate_1 _) (fun obj=>PySem.F.args_object_init_2 obj _) PySem.F.entry_enumerate_new (Zlo a items n dct sl) ⟨hl,?_⟩
  show _∧_
  rw [hz]
  exact ⟨⟨_,he,rfl⟩,last⟩
section
variable {e it:Addr} {fa:List Addr} {n k:Nat} {isA:Nat→Value→Prop} {sa:Nat→Heap→Prop} {old:Value}
theorem Zmm {Q:Option Value→Shared→Prop} (SA:ZhH prog w it fa n isA sa) (he:IsEnum s.heap e it k old) (ha:sa k s.heap) (kn:k<n) (hne:e≠it) (hfe:e∉fa)
  (q:∀ x h',isA k x→IsEnumOut h' e it ((k:Int)+1) x s.heap.objs.size→sa (k+1) h'→h'.get? s.heap.objs.size=some { cls:=.type "tuple",data:=.seq #[.int k s.toks,x] } →
   (∀ b o,b≠e→b≠it→s.heap.get? b=some o→h'.get? b=some o)→Q (some (.ref s.heap.objs.size)) { s with heap:=h',toks:=s.toks+1 }) :
  wpAny (model prog w) A (pyNext (.ref e)) Q E s:=by
 obtain ⟨hp,g,d,tk,os⟩:=s
 have ty:Shared.TypeIs ⟨hp,g,d,tk,os⟩ (.ref e) "enumerate":=⟨_,he,rfl⟩
 unfold pyNext
 refine wpAny_bind (wpAny_attempt (wpAny_callSpecial?_slot (name:=Str.ofString "__next__") ty PySem.F.slot_enumerate_next (wpAny_call_entry PySem.F.slot_enumerate_next ty PySem.F.entry_enumerate_next ?_ (PySem.F.args_enumerate_next_1 _))))
 have fr:∀ {h h':Heap},sa (k+1) h→(∀ b o,b≠e→h.get? b=some o→h'.get? b=some o)→sa (k+1) h':=fun st kp=>SA.frame _ _ _ st fun b hb o x=>kp b o (by
  rcases hb with rfl | hb
  ·exact Ne.symm hne
  ·intro z;subst z;exact hfe hb) x
 show wpAny _ _ (field (.ref e) 2 >>= _) _ _ _
 refine wpAny_bind (wpAny_field he rfl (x:=.ref it) rfl ?_)
 refine wpAny_bind (SA.item _ _ _ k _ kn ha fun x h1 hx a1 s1=>?_)
 replace s1:Heap.SameBut it hp h1:=s1
 have e1:IsEnum h1 e it k old:=(s1.2 e hne).trans he
 show wpAny _ _ (field (.ref e) 3 >>= _) _ _ ⟨h1,g,d,tk,os⟩
 refine wpAny_bind (wpAny_field e1 rfl (x:=rawInt k) rfl ?_)
 show wpAny _ _ (field (.ref e) 4 >>= _) _ _ ⟨h1,g,d,tk,os⟩
 refine wpAny_bind (wpAny_field e1 rfl (x:=.none) rfl ?_)
 show wpAny _ _ (mkInt k >>= _) _ _ ⟨h1,g,d,tk,os⟩
 refine wpAny_bind (wpAny_mkInt ?_)
 show wpAny _ _ (setField (.ref e) 3 (rawInt ((k:Int)+1)) >>= _) _ _ ⟨h1,g,d,tk+1,os⟩
 refine wpAny_bind (wpAny_setField_rec e1 (by simp) fun h2 e2 s2=>?_)
 replace s2:Heap.SameBut e h1 h2:=s2
 replace e2:IsEnum h2 e it ((k:Int)+1) old:=e2
 show wpAny _ _ (setField (.ref e) 4 .none >>= _) _ _ ⟨h2,g,d,tk+1,os⟩
 refine wpAny_bind (wpAny_setField_rec e2 (by simp) fun h3 e3 s3=>?_)
 replace s3:Heap.SameBut e h2 h3:=s3
 replace e3:IsEnum h3 e it ((k:Int)+1) old:=e3
 show wpAny _ _ (newTuple [.int k tk,x] >>= _) _ _ ⟨h3,g,d,tk+1,os⟩
 refine wpAny_bind (wpAny_newTuple ?_)
 have sz:h3.objs.size=hp.objs.size:=by rw [s3.1,s2.1,s1.1]
 have el:e<hp.objs.size:=Heap.lt_size he
 have e4:IsEnum (h3.push { cls:=.type "tuple",data:=.seq #[.int k tk,x] }) e it ((k:Int)+1) old:=Heap.get?_push_of_some _ e3
 have t4:(h3.push { cls:=.type "tuple",data:=.seq #[.int k tk,x] }).get? hp.objs.size=some { cls:=.type "tuple",data:=.seq #[.int k tk,x] }:=by rw [← sz];exact Heap.get?_push_size _ rfl
 have k4:∀ b o,b≠e→b≠it→hp.get? b=some o→(h3.push { cls:=.type "tuple",data:=.seq #[.int k tk,x] }).get? b=some o:=fun b o he hi hb =>
  Heap.get?_push_of_some _ (s3.extBut b o he (s2.extBut b o he (s1.extBut b o hi hb)))
 have a4:sa (k+1) (h3.push { cls:=.type "tuple",data:=.seq #[.int k tk,x] }):=fr a1 fun b o hb z=>Heap.get?_push_of_some _ (s3.extBut b o hb (s2.extBut b o hb z))
 generalize (h3.push { cls:=.type "tuple",data:=.seq #[.int k tk,x] })=h4 at e4 t4 k4 a4 ⊢
 show wpAny _ _ (Builtin.SmallTypes.ownedTupleIsFree (.ref e) >>= _) _ _ ⟨h4,g,d,tk+1,os⟩
 rw [sz]
 refine wpAny_bind ?_
 unfold Builtin.SmallTypes.ownedTupleIsFree
 refine wpAny_bind (wpAny_field e4 rfl (x:=.none) rfl (wpAny_pure ?_))
 rw [if_pos rfl]
 refine wpAny_bind (wpAny_rule ?_)
 refine wpAny_bind (wpAny_field e4 rfl (x:=old) rfl ?_)
 refine wpAny_bind (wpAny_setField_rec e4 (by simp) fun h5 e5 s5=>?_)
 replace s5:Heap.SameBut e h4 h5:=s5
 replace e5:IsEnum h5 e it ((k:Int)+1) x:=e5
 show wpAny _ _ (Builtin.SmallTypes.ownedTupleHandOut (.ref e) (.ref hp.objs.size) >>= _) _ _ ⟨h5,g,d,tk+1,os⟩
 refine wpAny_bind ?_
 unfold Builtin.SmallTypes.ownedTupleHandOut
 refine wpAny_bind (wpAny_setField_rec e5 (by simp) fun h6 e6 s6=>?_)
 replace s6:Heap.SameBut e h5 h6:=s6
 replace e6:IsEnumOut h6 e it ((k:Int)+1) x hp.objs.size:=e6
 refine wpAny_setField_rec e6 (by simp) fun h7 e7 s7=>?_
 replace s7:Heap.SameBut e h6 h7:=s7
 replace e7:IsEnumOut h7 e it ((k:Int)+1) x hp.objs.size:=e7
 have up:∀ b o,b≠e→h4.get? b=some o→h7.get? b=some o:=fun b o hb z=>s7.extBut b o hb (s6.extBut b o hb (s5.extBut b o hb z))
 refine wpAny_bind (wpAny_letGo (wpAny_pure ⟨_,rfl,wpAny_pure (q x h7 hx e7 (fr a4 up) (up _ _ (Nat.ne_of_gt el) t4) fun b o he hi z=>up b o he (k4 b o he hi z))⟩))
theorem ZmI {Q:Option Value→Shared→Prop} (hh:A.handled=none) (SA:ZhH prog w it fa n isA sa) (he:IsEnum s.heap e it k old) (ha:sa k s.heap) (kn:n≤k)
  (q:∀ h',Heap.ExtBut it s.heap h'→Q none { s with heap:=h' }):wpAny (model prog w) A (pyNext (.ref e)) Q E s:=by
 have ty:s.TypeIs (.ref e) "enumerate":=⟨_,he,rfl⟩
 unfold pyNext
 refine wpAny_bind (wpAny_attempt (wpAny_callSpecial?_slot (name:=Str.ofString "__next__") ty PySem.F.slot_enumerate_next (wpAny_call_entry PySem.F.slot_enumerate_next ty PySem.F.entry_enumerate_next ?_ (PySem.F.args_enumerate_next_1 _))))
 show wpAny _ _ (field (.ref e) 2 >>= _) _ _ _
 refine wpAny_bind (wpAny_field he rfl (x:=.ref it) rfl ?_)
 refine wpAny_bind (SA.fin _ _ _ k _ (by first | exact hh | simpa using hh) kn ha fun h' x e' hx=>?_)
 obtain ⟨o,ho,hc⟩:=hx
 exact wpAny_bind (wpAny_isInstance (T:="StopIteration") (b:=true) ⟨o,ho,hc⟩ isSubtype_stop (wpAny_pure (q _ e')))
theorem Zow {elts:List Expr} {x1} {pos:Pos} {i:Int} {v:Value} {T:Addr} {Q:Unit→Shared→Prop} (hz:IsEnumOut s.heap e it i v T)
  (q:∀ h',IsEnum h' e it i v→Heap.SameBut e s.heap h'→Q () { s with heap:=h' }):wpAny (model prog w) A (letOwnedTupleGo (.Tuple elts x1 pos) (.ref e) (.ref T)) Q E s:=by
 unfold letOwnedTupleGo
 refine wpAny_bind (wpAny_load hz ?_)
 show wpAny _ _ (if (["enumerate","zip","dict_itemiterator","dict_reverseitemiterator","odict_iterator","itertools.zip_longest","itertools.pairwise"].contains "enumerate"&&(#[rawInt T,.bool false,.ref it,rawInt i,.none,v]:Array Value)[0]?==some (rawInt T))=true then _ else _) Q E s
 rw [if_pos (by simp)]
 refine wpAny_bind (wpAny_rule ?_)
 show wpAny _ _ (setField (.ref e) 0 .none) Q E s
 exact wpAny_setField_rec hz (by simp) fun h' z sb=>q h' z sb
end
end
def Ite (K:PySem.W.Frag) (S:Src):It :=
 ⟨fun i H=>∃ xs x,S.sq K H xs∧xs[i]?=some x,
  fun i H v H'=>∃ p x,v=.ref p∧H p=none∧H'=upd H p (.tup [.int i,x])∧(∀ xs,S.sq K H xs→xs[i]?=some x),
  fun i H=>∃ xs,S.sq K H xs∧xs.length≤i⟩
theorem Zl0 {P:Program} {w:World} {K:PySem.W.Frag} {elts:List Expr} {x1} {pos:Pos} (S:Src) (n:Nat) (h1:S.ad<n) :
  Zgp P w K (.Tuple elts x1 pos) (Ite K S) [n+1,n] (n+1) (fun i h=>(∃ old,IsEnum h (n+1) n i old)∧S.it h n i) where
 mem:=by simp
 obj:=fun i h ⟨⟨x,z⟩,c⟩ q hq=>by
  simp only [List.mem_cons,List.not_mem_nil,or_false] at hq
  rcases hq with rfl | rfl
  ·exact ⟨_,z,fun v e=>nomatch (show Data.fields _=Data.cell v from e)⟩
  ·exact S.itOb c
 keep:=fun i h h' ⟨⟨x,z⟩,c⟩ k=>⟨⟨x,k _ (by simp) _ z⟩,S.itAt c fun o e=>k _ (by simp) o e⟩
 item:=by
  intro X hP hw hK hc i pins s σ H E I hf ⟨⟨old,z⟩,c⟩ ⟨xs,x,hx,ex⟩
  subst hP hw hK
  obtain ⟨its,r1,o1,_⟩:=S.of I hx
  obtain ⟨u1,e1,ru1⟩:=r1.get ex
  have l1:=(List.getElem?_eq_some_iff.mp e1).1
  have hlt:n+1<s.heap.objs.size:=Heap.lt_size z
  have nea:S.ad≠(n+1:Nat):=fun e=>absurd (show @LT.lt Nat _ S.ad n from h1) (by rw [e];show ¬ @LT.lt Nat _ _ _;omega)
  refine Zmm (S.sub (P:=X.prog) (w:=X.w) its.toArray) z ⟨c,o1⟩ (by simpa using l1) (by (show @Ne Nat _ _;omega)) (fun z=>nea (List.mem_singleton.mp z).symm) fun x' h' hx' z' ⟨c',_⟩ new kp=>?_
  have hx1:x'=u1:=by simp [e1] at hx';exact hx'.symm
  subst hx1
  refine ⟨_,rfl,Zow (s:={ s with heap:=h',toks:=s.toks+1 }) z' fun h2' z2 sb=>?_⟩
  have up:∀ q o,q≠n+1→h'.get? q=some o→h2'.get? q=some o:=fun q o hq e=>sb.extBut _ _ hq e
  have I1:Inv X pins σ (upd H s.heap.objs.size (.tup [.int i,x])) { s with heap:=h2' }:=by
   refine I.yielded hf (fun q o hq e=>up q o (fun z=>hq (by simp [z])) (kp q o (fun z=>hq (by simp [z])) (fun z=>hq (by simp [z])) e)) (Nat.le_refl _) ?_
   exact ⟨show 2≤sizeLine by decide,[.int i s.toks,x'],.cons ⟨_,rfl⟩ (.cons ru1 .nil),⟨_,up _ _ (by (show @Ne Nat _ _;omega)) new,rfl,_,rfl⟩⟩
  refine ⟨.ref s.heap.objs.size,_,I1.tok (s.toks+1),rfl,⟨_,x,rfl,I.hok.fresh (Nat.le_refl _),rfl,fun zs hz=>by rw [S.inj I hz hx];exact ex⟩,⟨⟨x',?_⟩,S.itAt c' fun o e=>up _ o (by (show @Ne Nat _ _;omega)) e⟩,fun q hq=>?_⟩
  ·have:((i+1:Nat):Int)=(i:Int)+1:=by omega
   show IsEnum h2' (n+1) n ((i+1:Nat):Int) x'
   rw [this]
   exact z2
  rw [ZG]
  ·exact (hf q hq).1
  ·simp only [List.mem_cons,List.not_mem_nil,or_false] at hq
   rcases hq with rfl | rfl<;>(show @Ne Nat _ _;omega)
 done:=by
  intro X hP hw hK hc i pins s σ H E I hf ⟨⟨old,z⟩,c⟩ ⟨xs,hx,hl⟩
  subst hP hw hK
  obtain ⟨its,r1,o1,_⟩:=S.of I hx
  have q1:=r1.length
  refine ZmI (I.ok.hd hc) (S.sub (P:=X.prog) (w:=X.w) its.toArray) z ⟨c,o1⟩ (by simp only [List.size_toArray];omega) fun h' kp=>⟨rfl,I.turnedL hf fun q o hq e=>kp q o (fun z=>hq (by simp [z])) e⟩
 self:=fun _ _ _ _ _ ⟨⟨_,z⟩,_⟩ q=>wpAny_pyIter_enum z q
theorem Zlg:bootBuiltins "enumerate"=some (.type "enumerate"):=by decide +kernel
def ZbH:Nat→List D→List D
 | _,[]=>[]
 | k,d::ds=>.tup [.int k,d]::ZbH (k+1) ds
theorem Zio:∀ (xs:List D) (k:Nat),(ZbH k xs).length=xs.length
 | [],_=>rfl
 | _::xs,k=>by simp [ZbH,Zio xs]
theorem ZiG:∀ (xs:List D) (k i:Nat),(ZbH k xs)[i]?=(xs[i]?).map fun d=>D.tup [.int ((k+i:Nat):Int),d]
 | [],_,_=>by simp [ZbH]
 | x::xs,k,0=>by simp [ZbH]
 | x::xs,k,i+1=>by
  simp only [ZbH,List.getElem?_cons_succ,ZiG xs]
  rw [show k+1+i=k+(i+1) by omega]
@[simp] def Zd9 (f:VE→Option D):VE→Option (List D):=fun ρ=>match (f ρ).bind Zdr with
  | some xs=>some (ZbH 0 xs)
  | none=>none
theorem ZoV {K:PySem.W.Frag} {M N:Fb} {H:Hp} {S:Src} {xs:List D} {us:List V} (h1:DenL K N H xs us) (q1:∀ N2 H2,Step M N N2 H H2→S.sq K H2 us):Znx K M N H (Ite K S) (ZbH 0 xs):=fun N2 H2 St i=>by
 have s1:=q1 _ _ St
 have d1:=DenL.step St _ _ h1
 refine ⟨fun d he=>?_,fun he=>⟨us,s1,?_⟩⟩
 ·rw [ZiG] at he
  cases ex:xs[i]? with
  | none=>rw [ex] at he;cases he
  | some x =>
   rw [ex] at he;cases he
   obtain ⟨u,eu,du⟩:=d1.get ex
   refine ⟨⟨us,u,s1,eu⟩,fun z H3 ⟨p,u',e1,hp,e3,w1⟩=>?_⟩
   have:=w1 us s1;rw [eu] at this;cases this
   subst e1 e3
   refine ⟨ZnK hp,Ze5 hp (DenL.cons ?_ (DenL.cons du DenL.nil))⟩
   simp [Den]
 ·have l1:=h1.length
  rw [Zio] at he
  omega
section
variable {X:Cx} {M:Fb} {H0:Hp} {f:VE→Option D} {a:Expr} {elts:List Expr} {p pos tpos:Pos}
theorem ZoM {x1} (hg:Gl X "enumerate") (hm:X.mg "enumerate"=none) (ha:PE X a (tQ X.K M H0 f)) (hs:starEach [a] X.env=[(false,eval a X.env)]:=by rfl) (hs3:starEach [] X.env=[]:=by rfl) :
  PI X (.Tuple elts x1 tpos) (.Call (.Name "enumerate" p) [a] [] pos) (tI X.K M H0 (Zd9 f)):=by
 intro pins s σ H Q I ⟨ρ,ds,R,e,q⟩
 unfold Zd9 at e
 split at e
 ·next xs ex =>
  cases e
  cases hf:f ρ with
  | none=>rw [hf] at ex;cases ex
  | some d1 =>
   rw [hf] at ex
   have PA2:=ZbQ ha pa_nil (by rw [hs,hs3])
   refine Call_ (ZdT I hg hm Zlg (PyProof.Rows.callWith_type1 (thn (PA2 pos pins s σ H (fun vs H2=>∃ S us,vs=[.ref (Src.ad S)]∧Same H H2∧DenL X.K (Nf M ρ σ) H2 xs us∧(∀ N2 H3,Step M (Nf M ρ σ) N2 H2 H3→S.sq X.K H3 us)) I ?_) fun us s1 ⟨vs,H1,I1,r1,q1⟩=>?_) hs rfl))
   ·refine ⟨ρ,d1,R,hf,fun v1 H1 z1 q1=>?_⟩
    obtain ⟨S,us,e1,dl1,k1⟩:=q1.src ex
    exact ⟨S,us,by rw [e1],z1,dl1,k1⟩
   ·obtain ⟨S,us',e1,z,dl1,k1⟩:=q1
    subst e1
    cases r1 with
    | cons r rr =>
     cases rr
     cases r
     obtain ⟨its,v1,o1,_⟩:=S.of I1 (k1 _ _ Step.refl)
     refine Zl4 o1 fun h' a1 a4 kp=>wpAny_pyIter_enum a1 ?_
     refine ⟨_,_,_,_,H1,rfl,I1.kept (t':=s1.toks) kp,Zl0 S s1.heap.objs.size (S.lt o1),⟨⟨_,a1⟩,a4⟩,fun b hb=>?_,q _ _ z (ZoV dl1 k1)⟩
     have hl:s1.heap.objs.size≤b:=by
      simp only [List.mem_cons,List.not_mem_nil,or_false] at hb
      rcases hb with rfl | rfl<;>(show @LE.le Nat _ _ _;omega)
     exact I1.fpOk hl (I1.hok.fresh hl)
 ·cases e
theorem ZiA {x1} (hg:Gl X "enumerate") (hm:X.mg "enumerate"=none) (ha:JE X a (tQ X.K M H0 f)) (hs:starEach [a] X.env=[(false,eval a X.env)]:=by rfl) (hs3:starEach [] X.env=[]:=by rfl) :
  JI X (.Tuple elts x1 tpos) (.Call (.Name "enumerate" p) [a] [] pos) (tI X.K M H0 (Zd9 f)):=⟨ZoM hg hm ha.h hs hs3⟩
end
end L2
set_option Elab.async false
set_option linter.all false
set_option maxRecDepth 100000
namespace L2
open PySem PySem.Spec PyProof.Rows
abbrev T3:=KT×V×V
def ZaT:List T3→List V
 | []=>[]
 | t::r=>t.2.1::t.2.2::ZaT r
def ZaM:List T3→KT→Option V
 | [],_=>none
 | t::r,k=>if t.1=k then some t.2.2 else ZaM r k
def Zdd:List T3→KT→V→List T3
 | [],_,_=>[]
 | t::r,k,v=>(if t.1=k then (t.1,t.2.1,v) else t)::Zdd r k v
def Zbn (tr:List T3) (k:KT) (kv v:V):List T3:=if (ZaM tr k).isSome=true then Zdd tr k v else tr++[(k,kv,v)]
theorem Zj1 (k:KT) (v:V):∀ tr:List T3,(Zdd tr k v).map (·.1)=tr.map (·.1)
 | []=>rfl
 | t::r=>by
  simp only [Zdd,List.map_cons,Zj1 k v r]
  split<;>rfl
theorem Ziq {k:KT}:∀ {tr:List T3},ZaM tr k=none→k∉tr.map (·.1)
 | [],_=>by simp
 | t::r,h=>by
  unfold ZaM at h
  split at h
  ·cases h
  ·next e =>
   simp only [List.map_cons,List.mem_cons,not_or]
   exact ⟨fun z=>e z.symm,Ziq h⟩
theorem ZbU {tr:List T3} {k:KT} {kv v:V} (h:(tr.map (·.1)).Nodup):((Zbn tr k kv v).map (·.1)).Nodup:=by
 unfold Zbn
 split
 ·rw [Zj1];exact h
 ·next e =>
  rw [List.map_append,List.nodup_append]
  refine ⟨h,by simp,fun a ha b hb=>?_⟩
  have hn:ZaM tr k=none:=by
   cases hv:ZaM tr k with
   | none=>rfl
   | some x=>rw [hv] at e;exact absurd rfl e
  simp only [List.map_cons,List.map_nil,List.mem_singleton] at hb
  subst hb
  rintro rfl
  exact Ziq hn ha
theorem Zjt (k:KT) (v:V):∀ tr:List T3,(Zdd tr k v).length=tr.length
 | []=>rfl
 | t::r=>by simp [Zdd,Zjt k v r]
theorem Zhc (tr:List T3) (k:KT) (kv v:V):(Zbn tr k kv v).length≤tr.length+1:=by
 unfold Zbn
 split
 ·rw [Zjt];omega
 ·simp
theorem Zc3 {a:At} {u:Value} (h:RelV (atV a) u):Zgi a u=true:=by
 cases a with
 | non=>cases h;rfl
 | int i=>obtain ⟨t,rfl⟩:=h;exact ZmW i t
 | str x=>obtain ⟨t,rfl⟩:=h;exact ZmZ x t
theorem Zq1 {a:At} {u:Value} (h:Zgi a u=true):RelV (atV a) u:=by
 rcases Za2 h with ⟨rfl,rfl⟩ | ⟨i,t,rfl,rfl⟩ | ⟨x,t,rfl,rfl⟩
 ·rfl
 ·exact ⟨t,rfl⟩
 ·exact ⟨t,rfl⟩
abbrev RA:List T3→List (At×Value)→Prop:=Paired fun t u=>t.1=.at u.1∧t.2.1=atV u.1∧RelV t.2.2 u.2
theorem ZiD {P:Program} {w:World}:∀ {tr:List T3} {es:List DictEntry},ZgT w (tr.map (·.1)) (ZaT tr) es→(∀ t∈tr,∃ a,t.1=KT.at a) →
  ∃ us,RA tr us∧Pairs (ZY P w) es us∧∀ e∈es,∃ k,(ZY P w).is k e.key=true∧e.hash=(ZY P w).hash k
 | [],es,h,_=>by
  obtain ⟨_,rfl⟩:=h
  exact ⟨[],.nil,.nil,fun _ z=>nomatch z⟩
 | t::r,es,h,ha=>by
  obtain ⟨kv,v,q,e,es',e1,e2,h1,h2,h3,h4,h5⟩:=h
  obtain ⟨a,ea⟩:=ha t List.mem_cons_self
  simp only [ZaT,List.cons.injEq] at e1
  obtain ⟨e1,e1',e1''⟩:=e1
  subst e1 e1' e2 e1''
  dsimp only at h3 h4
  rw [ea] at h3 h4
  obtain ⟨us,r1,r2,r3⟩:=ZiD (P:=P) h5 fun t ht=>ha t (List.mem_cons_of_mem _ ht)
  have h4:t.2.1=atV a:=h4
  rw [h4] at h1
  refine ⟨(a,e.val)::us,.cons ⟨ea,h4,h2⟩ r1,.cons (Zc3 h1) rfl r2,fun e' he=>?_⟩
  rcases List.mem_cons.mp he with rfl | he
  ·exact ⟨a,Zc3 h1,h3⟩
  ·exact r3 e' he
theorem Zih {P:Program} {w:World}:∀ {tr:List T3} {us:List (At×Value)} {es:List DictEntry},RA tr us→Pairs (ZY P w) es us→(∀ e∈es,∃ k,(ZY P w).is k e.key=true∧e.hash=(ZY P w).hash k) →
  ZgT w (tr.map (·.1)) (ZaT tr) es
 | _,_,_,.nil,.nil,_=>⟨rfl,rfl⟩
 | t::r,(a,u)::us,e::es,.cons ⟨h1,h2,h3⟩ hr,.cons p1 p2 pr,hk=>by
  refine ⟨t.2.1,t.2.2,ZaT r,e,es,rfl,rfl,?_,?_,?_,?_,Zih hr pr fun e he=>hk e (List.mem_cons_of_mem _ he)⟩
  ·rw [h2];exact Zq1 p1
  ·rw [p2];exact h3
  ·obtain ⟨k,q1,q2⟩:=hk e List.mem_cons_self
   have:k=a:=(ZY P w).inj _ _ _ q1 p1
   subst this
   dsimp only;rw [h1];exact q2
  ·dsimp only;rw [h1];exact h2
theorem RA.val:∀ {tr:List T3} {us:List (At×Value)},RA tr us→∀ a,RelO (ZaM tr (.at a)) (valueAt us a)
 | _,_,.nil,_=>True.intro
 | t::r,u::us,.cons ⟨h1,h2,h3⟩ hr,a=>by
  have ih:=RA.val hr a
  unfold ZaM valueAt
  rw [h1,List.find?_cons]
  by_cases e:u.1=a
  ·rw [if_pos (by rw [e])];simp only [e,decide_true];exact h3
  ·rw [if_neg (fun z=>e (KT.at.inj z))];simp only [e,decide_false];exact ih
theorem RelO.isS:∀ {o:Option V} {u:Option Value},RelO o u→o.isSome=u.isSome
 | some _,some _,_=>rfl
 | none,none,_=>rfl
 | some _,none,h=>h.elim
 | none,some _,h=>h.elim
theorem RA.rep {a:At} {v:V} {u:Value} (rv:RelV v u):∀ {tr:List T3} {us:List (At×Value)},RA tr us→RA (Zdd tr (.at a) v) (us.map fun kv=>if kv.1=a then (kv.1,u) else kv)
 | _,_,.nil=>.nil
 | t::r,w::us,.cons ⟨h1,h2,h3⟩ hr=>by
  have ih:=RA.rep (a:=a) rv hr
  unfold Zdd
  rw [List.map_cons]
  refine .cons ?_ ih
  by_cases e:w.1=a
  ·rw [if_pos (by rw [h1,e]),if_pos e];exact ⟨h1,h2,rv⟩
  ·rw [if_neg (fun z=>e (KT.at.inj (h1.symm.trans z))),if_neg e];exact ⟨h1,h2,h3⟩
theorem Paired.snoc' {α β:Type} {F:α→β→Prop} {x:α} {y:β} (h:F x y):∀ {l:List α} {m:List β},Paired F l m→Paired F (l++[x]) (m++[y])
 | _,_,.nil=>.cons h .nil
 | _,_,.cons r t=>.cons r (Paired.snoc' h t)
theorem Zod {us:List (At×Value)} {a:At}:(us.any fun kv=>decide (kv.1=a))=(valueAt us a).isSome:=by
 unfold valueAt
 rw [Option.isSome_map]
 induction us with
 | nil=>rfl
 | cons x r ih =>
  rw [List.any_cons,List.find?_cons]
  cases decide (x.1=a) with
  | true=>rfl
  | false=>simpa using ih
theorem RA.put {tr:List T3} {us:List (At×Value)} {a:At} {v:V} {u:Value} (h:RA tr us) (rv:RelV v u):RA (Zbn tr (.at a) (atV a) v) (stored us a u):=by
 unfold Zbn stored
 rw [Zod,(h.val a).isS]
 by_cases e:(valueAt us a).isSome=true
 ·rw [if_pos e,if_pos e];exact h.rep rv
 ·rw [if_neg e,if_neg e];exact Paired.snoc' ⟨rfl,rfl,rv⟩ h
theorem RA.fst:∀ {tr:List T3} {us:List (At×Value)},RA tr us→tr.map (·.1)=(us.map (·.1)).map KT.at
 | _,_,.nil=>rfl
 | t::r,u::us,.cons ⟨h1,_,_⟩ hr=>by rw [List.map_cons,List.map_cons,List.map_cons,h1,RA.fst hr]
abbrev RT:List T3→List (List At×Addr×Value)→Prop:=Paired fun t u=>t.1=.tup u.1∧t.2.1=.ref u.2.1∧RelV t.2.2 u.2.2
theorem Zj0 {P:Program} {w:World}:∀ {tr:List T3} {es:List DictEntry},ZgT w (tr.map (·.1)) (ZaT tr) es→(∀ t∈tr,∃ l,t.1=KT.tup l) →
  ∃ us,RT tr us∧es=us.map (entryOfKey (tupleKind (ZY P w)))
 | [],es,h,_=>by
  obtain ⟨_,rfl⟩:=h
  exact ⟨[],.nil,rfl⟩
 | t::r,es,h,ha=>by
  obtain ⟨kv,v,q,e,es',e1,e2,h1,h2,h3,h4,h5⟩:=h
  obtain ⟨l,el⟩:=ha t List.mem_cons_self
  simp only [ZaT,List.cons.injEq] at e1
  obtain ⟨e1,e1',e1''⟩:=e1
  subst e1 e1' e2 e1''
  dsimp only at h3 h4
  rw [el] at h3 h4
  obtain ⟨us,r1,r2⟩:=Zj0 (P:=P) h5 fun t ht=>ha t (List.mem_cons_of_mem _ ht)
  obtain ⟨p,ep⟩:=(h4:∃ p,t.2.1=.ref p)
  rw [ep] at h1
  obtain ⟨hh,hk,hv⟩:=e
  cases (h1:hk=Value.ref p)
  refine ⟨(l,p,hv)::us,.cons ⟨el,ep,h2⟩ r1,?_⟩
  rw [List.map_cons,← r2]
  have:hh=(KT.tup l).hash w:=h3
  rw [this];rfl
theorem ZjL {P:Program} {w:World}:∀ {tr:List T3} {us:List (List At×Addr×Value)},RT tr us→ZgT w (tr.map (·.1)) (ZaT tr) (us.map (entryOfKey (tupleKind (ZY P w))))
 | _,_,.nil=>⟨rfl,rfl⟩
 | t::r,u::us,.cons ⟨h1,h2,h3⟩ hr=>by
  refine ⟨t.2.1,t.2.2,ZaT r,_,_,rfl,rfl,?_,h3,?_,?_,ZjL hr⟩
  ·rw [h2];rfl
  ·dsimp only;rw [h1];rfl
  ·dsimp only;rw [h1];exact ⟨_,h2⟩
theorem RT.val:∀ {tr:List T3} {us:List (List At×Addr×Value)},RT tr us→∀ l,RelO (ZaM tr (.tup l)) ((atKey us l).map (·.2))
 | _,_,.nil,_=>True.intro
 | t::r,u::us,.cons ⟨h1,h2,h3⟩ hr,l=>by
  have ih:=RT.val hr l
  unfold ZaM atKey
  rw [h1,List.find?_cons]
  by_cases e:u.1=l
  ·rw [if_pos (by rw [e])];simp only [e,decide_true];exact h3
  ·rw [if_neg (fun z=>e (KT.tup.inj z))];simp only [e,decide_false];exact ih
theorem RT.rep {l:List At} {v:V} {u:Value} (rv:RelV v u):∀ {tr:List T3} {us:List (List At×Addr×Value)},RT tr us→RT (Zdd tr (.tup l) v) (us.map (putAt l u))
 | _,_,.nil=>.nil
 | t::r,w::us,.cons ⟨h1,h2,h3⟩ hr=>by
  have ih:=RT.rep (l:=l) rv hr
  unfold Zdd
  rw [List.map_cons]
  refine .cons ?_ ih
  unfold putAt
  by_cases e:w.1=l
  ·rw [if_pos (by rw [h1,e]),if_pos e];exact ⟨h1,h2,rv⟩
  ·rw [if_neg (fun z=>e (KT.tup.inj (h1.symm.trans z))),if_neg e];exact ⟨h1,h2,h3⟩
theorem RT.put {tr:List T3} {us:List (List At×Addr×Value)} {l:List At} {p:Addr} {v:V} {u:Value} (h:RT tr us) (rv:RelV v u):RT (Zbn tr (.tup l) (.ref p) v) (storedH us l p u):=by
 unfold Zbn storedH
 have e0:=(h.val l).isS
 rw [Option.isSome_map] at e0
 rw [e0]
 by_cases e:(atKey us l).isSome=true
 ·rw [if_pos e,if_pos e];exact h.rep rv
 ·rw [if_neg e,if_neg e];exact Paired.snoc' ⟨rfl,rfl,rv⟩ h
theorem RT.fst:∀ {tr:List T3} {us:List (List At×Addr×Value)},RT tr us→tr.map (·.1)=(us.map (·.1)).map KT.tup
 | _,_,.nil=>rfl
 | t::r,u::us,.cons ⟨h1,_,_⟩ hr=>by rw [List.map_cons,List.map_cons,List.map_cons,h1,RT.fst hr]
theorem Zf0 {α β:Type} {f:α→β} (hf:∀ a b,f a=f b→a=b):∀ {l:List α},(l.map f).Nodup→l.Nodup
 | [],_=>List.nodup_nil
 | a::l,h=>by
  rw [List.map_cons,List.nodup_cons] at h
  rw [List.nodup_cons]
  exact ⟨fun z=>h.1 (List.mem_map.mpr ⟨a,z,rfl⟩),Zf0 hf h.2⟩
def ZbC (K:PySem.W.Frag) (H:Hp):KT→V→Prop
 | .at a,v=>v=atV a
 | .tup l,v=>∃ p,v=.ref p∧SqT K H p (l.map atV)
theorem ZjF {P:Program} {w:World}:∀ {ks:List At} {us:List Value},Vals (ks.map atV) us→ItemsAre (ZY P w) ks us
 | [],_,r=>by rw [List.map_nil] at r;cases r;exact .nil
 | k::ks,_,r=>by
  rw [List.map_cons] at r
  cases r with
  | cons h t=>exact .cons (Zc3 h) (ZjF t)
def Zfh:KT→List T3→Prop
 | .at _,tr=>∀ t∈tr,∃ a,t.1=KT.at a
 | .tup _,tr=>∀ t∈tr,∃ l,t.1=KT.tup l
def IsDc (K:PySem.W.Frag) (H:Hp) (a:Addr) (tr:List T3):Prop:=Rd H a (.dct (tr.map (·.1)) (ZaT tr))∧∀ t∈tr,ZbC K H t.1 t.2.1
section
variable {X:Cx} {pins:List (Addr×Obj)} {σ:St} {H:Hp} {s:Shared} {a p:Addr} {y v:V} {u r:Value} {o:Option V} {A:Around} {E:Value→Shared→Prop} {tr:List T3} {k:KT}
theorem Zdq {l:List At} (I:Inv X pins σ H s) (h:SqT X.K H p (l.map atV)):(tupleKind (ZY X.prog X.w)).is s.heap l p:=by
 obtain ⟨its,r,⟨o,h1,h2,n,h3⟩,_⟩:=I.tuple h
 exact ⟨o,its.toArray,n,h1,h2,h3,by simpa using ZjF r⟩
theorem ZgI (I:Inv X pins σ H s) (h:IsDc X.K H a tr) (hk:∀ t∈tr,∃ a,t.1=KT.at a):tr.length≤sizeLine∧(a==sysModules)=false∧(tr.map (·.1)).Nodup∧∃ us,RA tr us∧s.heap.DictOf (ZY X.prog X.w) a us:=by
 obtain ⟨z,hs,nd,o,es,ep,e1,e2,e3,e4⟩:=h.1.ok I.hok
 obtain ⟨us,r1,r2,r3⟩:=ZiD (P:=X.prog) e4 hk
 refine ⟨by simpa using z,hs,nd,us,r1,o,es,ep,e1,e2,e3,fun e he=>r3 e (by simpa using he),r2,?_⟩
 rw [r1.fst] at nd
 exact Zf0 (fun _ _ z=>KT.at.inj z) nd
theorem ZeI (I:Inv X pins σ H s) (h:IsDc X.K H a tr) (hk:∀ t∈tr,∃ l,t.1=KT.tup l):tr.length≤sizeLine∧(a==sysModules)=false∧(tr.map (·.1)).Nodup∧∃ us,RT tr us∧s.heap.DictOfH (tupleKind (ZY X.prog X.w)) a us:=by
 obtain ⟨z,hs,nd,o,es,ep,e1,e2,e3,e4⟩:=h.1.ok I.hok
 obtain ⟨us,r1,r2⟩:=Zj0 (P:=X.prog) e4 hk
 have nd':=nd
 rw [r1.fst] at nd'
 refine ⟨by simpa using z,hs,nd,us,r1,o,es,ep,e1,e2,e3,r2,fun x hx=>?_,Zf0 (fun _ _ z=>KT.tup.inj z) nd'⟩
 have all:∀ {l:List T3} {m:List (List At×Addr×Value)},RT l m→(∀ t∈l,ZbC X.K H t.1 t.2.1)→∀ x∈m,(tupleKind (ZY X.prog X.w)).is s.heap x.1 x.2.1:=by
  intro l m q
  induction q with
  | nil=>intro _ x hx;exact nomatch hx
  | @cons t u ts us hq tl ih =>
   intro hl x hx
   rcases List.mem_cons.mp hx with e | hx
   ·subst e
    have:=hl t List.mem_cons_self
    rw [hq.1,hq.2.1] at this
    obtain ⟨p,ep,sq⟩:=this
    cases ep
    exact Zdq I sq
   ·exact ih (fun t ht=>hl t (List.mem_cons_of_mem _ ht)) x hx
 exact all r1 h.2 x hx
theorem RelO.to:∀ {v:V} {o:Option Value},RelO (some v) o→∃ w,o=some w∧RelV v w
 | _,some w,h=>⟨w,rfl,h⟩
 | _,none,h=>h.elim
theorem Zlj {Q:Value→Shared→Prop} (hu:A.units+1<cLine) (I:Inv X pins σ H s) (h:IsDc X.K H a tr) (hk:Zfh k tr) (ky:ZbC X.K H k y) (ry:RelV y u) (hv:ZaM tr k=some v) (q:∀ w' s',Inv X pins σ H s'→RelV v w'→Q w' s') :
  wpAny (model X.prog X.w) A (getItem (.ref a) u) Q E s:=by
 cases k with
 | «at» b =>
  cases ky
  obtain ⟨z,hd,nd,us,rel,dd⟩:=ZgI I h hk
  have h1:=rel.val b
  rw [hv] at h1
  obtain ⟨w',hw,rw'⟩:=h1.to
  exact wpAny_getItem_of (knd:=ZY X.prog X.w) (Zc3 ry) dd.mapOf hw (q w' _ (I.tok _) rw')
 | tup l =>
  obtain ⟨p,ep,sq⟩:=ky
  subst ep
  cases (show u=Value.ref p from ry)
  obtain ⟨z,hd,nd,us,rel,dd⟩:=ZeI I h hk
  have h1:=rel.val l
  rw [hv] at h1
  obtain ⟨w',hw,rw'⟩:=h1.to
  obtain ⟨p',hp,hp2⟩:=Option.map_eq_some_iff.mp hw
  refine wpAny_getItem_heap (tupleKind_room_in1 hu) (Zdq I sq) dd hp ?_
  rw [hp2]
  exact q w' _ (I.tok _) rw'
theorem ZrG {Q:Value→Shared→Prop} (hu:A.units+1<cLine) (I:Inv X pins σ H s) (h:IsDc X.K H a tr) (hk:Zfh k tr) (ky:ZbC X.K H k y) (ry:RelV y u) (q:∀ s',Inv X pins σ H s'→Q (.bool (ZaM tr k).isSome) s') :
  wpAny (model X.prog X.w) A (compareOp .In u (.ref a)) Q E s:=by
 cases k with
 | «at» b =>
  cases ky
  obtain ⟨z,hd,nd,us,rel,dd⟩:=ZgI I h hk
  refine wpAny_in_of (knd:=ZY X.prog X.w) (Zc3 ry) hd dd.mapOf ?_
  rw [← (rel.val b).isS]
  exact q _ (I.tok _)
 | tup l =>
  obtain ⟨p,ep,sq⟩:=ky
  subst ep
  cases (show u=Value.ref p from ry)
  obtain ⟨z,hd,nd,us,rel,dd⟩:=ZeI I h hk
  refine wpAny_in_heap (tupleKind_room_in1 hu) (Zdq I sq) hd dd ?_
  have e0:=(rel.val l).isS
  rw [Option.isSome_map] at e0
  rw [← e0]
  exact q _ (I.tok _)
theorem ZcF {h':Heap} {t':Nat} {ob:HO} (I:Inv X pins σ H s) (mu:Mut (H a)) (hs:Heap.SameBut a s.heap h') (he:∃ q,h'.get? a=some q) (new:ObjOk X.prog X.w (upd H a ob) h' a ob) :
  Inv X pins σ (upd H a ob) { s with heap:=h',toks:=t' } :=
 I.write (x:=a) (e:=a) mu (.inl rfl) (fun b q hb z=>(hs.2 b hb).trans z) he new
def dcO (tr:List T3):HO:=.dct (tr.map (·.1)) (ZaT tr)
theorem ZjG {P:Program} {w:World} {H':Hp} {h':Heap} {us:List (At×Value)} (z:tr.length≤sizeLine) (hd:(a==sysModules)=false) (nd:(tr.map (·.1)).Nodup) (rel:RA tr us) (dd:h'.DictOf (ZY P w) a us):ObjOk P w H' h' a (dcO tr):=by
 obtain ⟨o,es,ep,e1,e2,e3,e4,e5,e6⟩:=dd
 exact ⟨by simpa using z,hd,nd,o,es,ep,e1,e2,e3,Zih rel e5 fun e he=>e4 e (by simpa using he)⟩
theorem ZhS {P:Program} {w:World} {H':Hp} {h':Heap} {us:List (List At×Addr×Value)} (z:tr.length≤sizeLine) (hd:(a==sysModules)=false) (nd:(tr.map (·.1)).Nodup) (rel:RT tr us) (dd:h'.DictOfH (tupleKind (ZY P w)) a us):ObjOk P w H' h' a (dcO tr):=by
 obtain ⟨o,es,ep,e1,e2,e3,e4,e5,e6⟩:=dd
 refine ⟨by simpa using z,hd,nd,o,es,ep,e1,e2,e3,?_⟩
 rw [e4]
 exact ZjL rel
theorem Zlb {Q:Unit→Shared→Prop} (hu:A.units+1<cLine) (I:Inv X pins σ H s) (e:H a=some (dcO tr)) (hkeys:∀ t∈tr,ZbC X.K H t.1 t.2.1) (hk:Zfh k tr) (ky:ZbC X.K H k y) (ry:RelV y u) (rv:RelV v r) (hl:tr.length<sizeLine)
  (q:∀ s',Inv X pins σ (upd H a (dcO (Zbn tr k y v))) s'→Q () s'):wpAny (model X.prog X.w) A (setItem (.ref a) u r) Q E s:=by
 have h:IsDc X.K H a tr:=⟨.inl e,hkeys⟩
 have hl':(Zbn tr k y v).length≤sizeLine:=by have:=Zhc tr k y v;omega
 cases k with
 | «at» b =>
  cases ky
  obtain ⟨z,hd,nd,us,rel,dd⟩:=ZgI I h hk
  have hz:us.length≤sizeLine:=by rw [← Paired.length rel];exact z
  refine wpAny_setItem_pairs (knd:=ZY X.prog X.w) (hsz:=hz) (Zc3 ry) dd fun h' dd' hs=>q _ ?_
  have he:∃ q,h'.get? a=some q:=let ⟨q,_,_,hq,_⟩:=dd';⟨q,hq⟩
  exact ZcF I (by rw [e];exact True.intro) hs he (ZjG hl' hd (ZbU nd) (rel.put rv) dd')
 | tup l =>
  obtain ⟨p,ep,sq⟩:=ky
  subst ep
  cases (show u=Value.ref p from ry)
  obtain ⟨z,hd,nd,us,rel,dd⟩:=ZeI I h hk
  have hz:us.length≤sizeLine:=by rw [← Paired.length rel];exact z
  refine wpAny_setItem_heap (hsz:=hz) (tupleKind_room_in1 hu) (Zdq I sq) dd fun h' dd' hs=>q _ ?_
  have he:∃ q,h'.get? a=some q:=let ⟨q,_,_,hq,_⟩:=dd';⟨q,hq⟩
  exact ZcF I (by rw [e];exact True.intro) hs he (ZhS hl' hd (ZbU nd) (rel.put rv) dd')
end
end L2
set_option Elab.async false
set_option linter.all false
set_option maxRecDepth 100000
namespace PySem
section
variable {prog:Program} {w:World} {K:Type} [DecidableEq K] {knd:HeapKind prog w K} {A:Around} {E:Value→Shared→Prop} {s:Shared}
theorem ZfT {d a:Addr} {xs:List (K×Addr×Value)} {k:K} {v:Value} {Q:Value→Shared→Prop} (hu:knd.room A) (hkey:knd.is s.heap k a) (hm:s.heap.DictOfH knd d xs) (hsz:xs.length≤sizeLine)
  (h1:∀ p,atKey xs k=some p→Q p.2 { s with toks:=s.toks+knd.draws k })
  (h2:atKey xs k=none→∀ h',h'.DictOfH knd d (storedH xs k a v)→Heap.SameBut d s.heap h'→Q v { s with heap:=h',toks:=s.toks+knd.draws k }) :
  wpAny (model prog w) A (dictSetDefault d (.ref a) v) Q E s:=by
 obtain ⟨o,es,ep,ho,hc,hd,he,his,hn⟩:=hm
 unfold dictSetDefault
 try with_reducible refine wpAny_holding ?_
 refine wpAny_bind (knd.pyHash hu hkey ?_)
 refine wpAny_bind (wpAny_dictFind_heap (s:={ s with toks:=s.toks+knd.draws k }) hu hkey ho hd he his hn ?_ ?_)
 ·intro hno
  have hnot:k∉xs.map (·.1):=not_mem_keys_of_get hno
  refine wpAny_bind (wpAny_rule (wpAny_bind (wpAny_updateDictKeys (hz:=by have e:=size_of_entries he;omega) (s:={ s with toks:=s.toks+knd.draws k }) ho hd (wpAny_pure (h2 (atKey_none_of_get hno) _ ⟨_,_,ep+1,Heap.get?_update_self _ ho (Obj.isFreed_of_dict (Obj.data_mapDictKeys hd _)),
   hc.mapDictKeys _,Obj.data_mapDictKeys hd _,?_,?_,?_⟩ (Heap.SameBut.update ..))))))
  ·rw [storedH_new (atKey_none_of_get hno)]
   simp [he,entryOfKey]
  ·rw [storedH_new (atKey_none_of_get hno)]
   intro x hx
   rcases List.mem_append.mp hx with hx | hx
   ·exact knd.keeps (his x hx) ho hd (Heap.SameBut.update ..)
   ·simp only [List.mem_singleton] at hx
    subst hx
    exact knd.keeps hkey ho hd (Heap.SameBut.update ..)
  ·rw [storedH_new (atKey_none_of_get hno)]
   rw [List.map_append,List.nodup_append]
   refine ⟨hn,by simp,?_⟩
   intro x hx y hy
   simp only [List.map_cons,List.map_nil,List.mem_singleton] at hy
   subst hy
   exact fun e=>hnot (e ▸ hx)
 ·intro j p hj
  refine wpAny_bind (wpAny_dictEntries (s:={ s with toks:=s.toks+knd.draws k }) ho hd ?_)
  rw [entry_at he j,hj]
  exact wpAny_bind (wpAny_rule (wpAny_pure (h1 p (atKey_of_get hn hj))))
theorem ZfN {k:K} {a:Addr} (d:Addr) (hd:(d==sysModules)=false) (dflt:Value) :
  MeetsIn prog w (Builtin.«dict.setdefault» ⟨[.ref d,.ref a,dflt],[]⟩) (fun A R s=>knd.room A.in1∧∃ xs,knd.is s.heap k a∧s.heap.DictOfH knd d xs∧xs.length≤sizeLine ∧
   (∀ p,atKey xs k=some p→R (.ok (.ret p.2)) { s with toks:=s.toks+knd.draws k }) ∧
   (atKey xs k=none→∀ h',h'.DictOfH knd d (storedH xs k a dflt)→Heap.SameBut d s.heap h'→R (.ok (.ret dflt)) { s with heap:=h',toks:=s.toks+knd.draws k })) :=
 .of_wp fun A R s ⟨hu,xs,hkey,hm,hz,h1,h2⟩=>by
  unfold Builtin.«dict.setdefault»
  refine wpAny_bind ?_
  unfold Builtin.Dict.keyAndDefault
  refine wpAny_bind (wpAny_notOrdered_dict hm.typeIs ?_)
  show wpAny _ _ (pure (d,Value.ref a,some dflt)) _ _ s
  refine wpAny_pure ?_
  show wpAny _ _ (if (d==sysModules)=true then _ else (dictSetDefault d (.ref a) dflt >>= _)) _ _ s
  rw [if_neg (by rw [hd];exact Bool.false_ne_true)]
  exact wpAny_bind (ZfT hu hkey hm hz (fun p hp=>wpAny_pure ⟨p.2,rfl,h1 p hp⟩) fun hn h' hm' hs'=>wpAny_pure ⟨dflt,rfl,h2 hn h' hm' hs'⟩)
end
end PySem
namespace L2
open PySem PySem.Spec PyProof.Rows
def ZnN (K:PySem.W.Frag):R2:=fun x y H Q=>∃ a tr k v,x=.ref a∧IsDc K H a tr∧Zfh k tr∧ZbC K H k y∧ZaM tr k=some v∧Q v H
def ZnQ (K:PySem.W.Frag) (neg:Bool):R2:=fun x y H Q=>∃ a tr k,y=.ref a∧IsDc K H a tr∧Zfh k tr∧ZbC K H k x∧Q (.bl (neg != (ZaM tr k).isSome)) H
def Zrr (K:PySem.W.Frag):Zln:=fun o i v H Q=>∃ a tr k,o=.ref a∧H a=some (dcO tr)∧(∀ t∈tr,ZbC K H t.1 t.2.1)∧Zfh k tr∧ZbC K H k i∧tr.length<sizeLine∧Q (upd H a (dcO (Zbn tr k i v)))
def ZsI (K:PySem.W.Frag):V→List V→Hp→VK→Prop:=fun x xs H Q=>∃ a tr k y z,x=.ref a∧xs=[y,z]∧H a=some (dcO tr)∧(∀ t∈tr,ZbC K H t.1 t.2.1)∧Zfh k tr∧ZbC K H k y∧tr.length<sizeLine ∧
 (∀ v,ZaM tr k=some v→Q v H)∧(ZaM tr k=none→Q z (upd H a (dcO (Zbn tr k y z))))
theorem IsDc.typeIs {X:Cx} {pins:List (Addr×Obj)} {σ:St} {H:Hp} {s:Shared} {a:Addr} {tr:List T3} (I:Inv X pins σ H s) (h:IsDc X.K H a tr):s.TypeIs (.ref a) "dict":=by
 obtain ⟨_,_,_,o,_,_,e,c,_⟩:=h.1.ok I.hok
 exact ⟨o,e,c.1⟩
section
variable {X:Cx}
theorem Zq6 (hu:X.A.units+64<cLine):IxR X (ZnN X.K):=by
 intro value slice pins s σ H x y v u Q I rx ry h hs
 obtain ⟨a,tr,k,z,rfl,hd,hk,ky,hv,q⟩:=h
 cases rx
 have hT:=hd.typeIs I
 unfold subscriptTail
 refine wpAny_bind ?_
 rw [getitemInPython_of_ne hT.not_modules]
 refine wpAny_bind (wpAny_specialOf hT PySem.F.slot_dict_getitem.lookup ?_)
 have fin:wpAny (model X.prog X.w) X.A (subscripted slice false (.ref a) u) (fun r s₃=>wpAny (model X.prog X.w) X.A (letTemporaryGo value (.ref a) r >>= fun _=>pure r) (EP X pins σ Q) X.xe s₃) X.xe s:=by
  rw [hs]
  exact wpAny_operating (Zlj (by omega) I hd hk ky ry hv fun w' s' I' rw'=>wpAny_bind (wpAny_letTemporaryGo (wpAny_pure ⟨z,H,I',rw',q⟩)))
 first
  | exact wpAny_pure (wpAny_bind fin)
  | exact wpAny_bind (wpAny_pure (wpAny_bind fin))
  | exact wpAny_bind fin
theorem Zoy (hu:X.A.units+64<cLine):OpR X (compareOp .In) (ZnQ X.K false):=by
 intro pins s σ H x y v u Q I rx ry h
 obtain ⟨a,tr,k,rfl,hd,hk,ky,q⟩:=h
 cases ry
 exact ZrG (by omega) I hd hk ky rx fun s' I'=>⟨.bl (ZaM tr k).isSome,H,I',rfl,by simpa using q⟩
theorem ZoC (hu:X.A.units+64<cLine):Zqf X (Zrr X.K):=by
 intro pins s σ H o i v ov iv u Q I ro ri rv h
 obtain ⟨a,tr,k,rfl,e,hks,hk,ky,hl,q⟩:=h
 cases ro
 exact Zlb (by omega) I e hks hk ky ri rv hl fun s' I'=>⟨_,I',q⟩
theorem ZiK (hu:X.A.units+64<cLine):MtR X "dict.setdefault" (ZsI X.K):=by
 intro pins s σ H x xs v us Q I rx rs h
 obtain ⟨a,tr,k,y,z,rfl,rfl,e,hks,hk,ky,hl,q1,q2⟩:=h
 cases rx
 obtain ⟨u1,u2,rfl,ry,rz⟩:=rs.two
 have hd:IsDc X.K H a tr:=⟨.inl e,hks⟩
 have hl':(Zbn tr k y z).length≤sizeLine:=by have:=Zhc tr k y z;omega
 cases k with
 | «at» b =>
  cases ky
  obtain ⟨zz,hs,nd,us,rel,dd⟩:=ZgI I hd hk
  have hz:us.length≤sizeLine:=by rw [← Paired.length rel];exact zz
  have h1:=rel.val b
  refine call_meetsIn PySem.F.slot_dict_setdefault dd.typeIs PySem.F.entry_dict_setdefault (PySem.F.args_dict_setdefault_3 _ _ _) (kt_meets_setdefault (ZY X.prog X.w) a (Zc3 ry) hs u2)
   ⟨us,dd,hz,fun v' hv'=>?_,fun hn h' dd' hs'=>?_⟩
  ·rw [hv'] at h1
   cases hv:ZaM tr (.at b) with
   | none=>rw [hv] at h1;exact h1.elim
   | some w=>rw [hv] at h1;exact ⟨w,H,I.tok _,h1,q1 w hv⟩
  ·rw [hn] at h1
   cases hv:ZaM tr (.at b) with
   | some w=>rw [hv] at h1;exact h1.elim
   | none =>
    have he:∃ q,h'.get? a=some q:=let ⟨q,_,_,hq,_⟩:=dd';⟨q,hq⟩
    exact ⟨z,_,ZcF I (by rw [e];exact True.intro) hs' he (ZjG hl' hs (ZbU nd) (rel.put rz) dd'),rz,q2 hv⟩
 | tup l =>
  obtain ⟨p,ep,sq⟩:=ky
  subst ep
  cases (show u1=Value.ref p from ry)
  obtain ⟨zz,hs,nd,us,rel,dd⟩:=ZeI I hd hk
  have hz:us.length≤sizeLine:=by rw [← Paired.length rel];exact zz
  have h1:=rel.val l
  refine call_meetsIn PySem.F.slot_dict_setdefault dd.typeIs PySem.F.entry_dict_setdefault (PySem.F.args_dict_setdefault_3 _ _ _) (ZfN (knd:=tupleKind (ZY X.prog X.w)) (k:=l) a hs u2)
   ⟨tupleKind_room_in1 (by omega),us,Zdq I sq,dd,hz,fun p' hp'=>?_,fun hn h' dd' hs'=>?_⟩
  ·rw [hp'] at h1
   cases hv:ZaM tr (.tup l) with
   | none=>rw [hv] at h1;exact h1.elim
   | some w=>rw [hv] at h1;exact ⟨w,H,I.tok _,h1,q1 w hv⟩
  ·rw [hn] at h1
   cases hv:ZaM tr (.tup l) with
   | some w=>rw [hv] at h1;exact h1.elim
   | none =>
    have he:∃ q,h'.get? a=some q:=let ⟨q,_,_,hq,_⟩:=dd';⟨q,hq⟩
    exact ⟨z,_,ZcF I (by rw [e];exact True.intro) hs' he (ZhS hl' hs (ZbU nd) (rel.put rz) dd'),rz,q2 hv⟩
theorem Inv.big (I:Inv X pins σ H s):sysModules<s.heap.objs.size:=by
 have h:mainGlobals<s.heap.objs.size:=(I.mod.glob.keeps I.bk).lt
 exact Nat.lt_trans (by decide) h
theorem pe_dnew {pos:Pos}:PE X (.Dict [] [] pos) (fun _ H Q=>∀ p,H p=none→Q (.ref p) (upd H p (dcO []))):=fun pins s σ H Q I h =>
 wpAny_Dict_empty ⟨.ref s.heap.objs.size,_,I.laid (a:=s.heap.objs.size) (o:=dcO []) (t':=s.toks) (fun _ _ q=>Heap.get?_push_of_some _ q) (Nat.le_refl _)
  ⟨Nat.zero_le _,beq_eq_false_iff_ne.mpr (Ne.symm (Nat.ne_of_lt I.big)),List.nodup_nil,_,#[],0,Heap.get?_push_size _ rfl,⟨rfl,rfl,rfl⟩,rfl,rfl,rfl⟩,rfl,h _ (I.hok.fresh (Nat.le_refl _))⟩
end
def okA:D→Option At
 | .non=>some .non
 | .int i=>some (.int i)
 | .str x=>some (.str x)
 | _=>none
def Zfq:List D→Option (List At)
 | []=>some []
 | d::r=>(okA d).bind fun a=>(Zfq r).map (a::·)
def okK:D→Option KT
 | .tup l=>(Zfq l).map KT.tup
 | d=>(okA d).map KT.at
def aD:At→D
 | .non=>.non
 | .int i=>.int i
 | .str x=>.str x
def kD:KT→D
 | .at a=>aD a
 | .tup l=>.tup (l.map aD)
theorem ZkU {d:D} {a:At} (h:okA d=some a):d=aD a:=by
 unfold okA at h
 split at h<;>cases h<;>rfl
theorem Zjc:∀ {l:List D} {as:List At},Zfq l=some as→l=as.map aD
 | [],_,h=>by cases h;rfl
 | d::r,as,h=>by
  unfold Zfq at h
  cases h1:okA d with
  | none=>rw [h1] at h;cases h
  | some a =>
   rw [h1] at h
   cases h2:Zfq r with
   | none=>rw [h2] at h;cases h
   | some bs=>rw [h2] at h;cases h;rw [List.map_cons,← ZkU h1,← Zjc h2]
theorem Zds {d:D} {k:KT} (h:okK d=some k):d=kD k:=by
 unfold okK at h
 split at h
 ·next l =>
  cases h1:Zfq l with
  | none=>rw [h1] at h;cases h
  | some as=>rw [h1] at h;cases h;rw [Zjc h1];rfl
 ·cases h1:okA d with
  | none=>rw [h1] at h;cases h
  | some a=>rw [h1] at h;cases h;rw [ZkU h1];rfl
theorem Zqp (a:At):okA (aD a)=some a:=by cases a<;>rfl
theorem ZjP:∀ (l:List At),Zfq (l.map aD)=some l
 | []=>rfl
 | a::l=>by rw [List.map_cons];unfold Zfq;rw [Zqp,ZjP l];rfl
@[simp] theorem ZlK (k:KT):okK (kD k)=some k:=by
  cases k with
  | «at» a=>cases a<;>rfl
  | tup l=>show (Zfq (l.map aD)).map KT.tup=_;rw [ZjP];rfl
@[simp] theorem Zs5:okK .non=some (.at .non):=rfl
@[simp] theorem Zs6 (i:Int):okK (.int i)=some (.at (.int i)):=rfl
@[simp] theorem Zs3 (x:Str):okK (.str x)=some (.at (.str x)):=rfl
theorem Zol (a:At):Znk (aD a)=a:=by cases a<;>rfl
theorem Zo3 (k:KT):Znq (kD k)=k:=by
 cases k with
 | «at» a=>cases a<;>rfl
 | tup l =>
  unfold kD Znq
  simp only [List.map_map,KT.tup.injEq]
  induction l with
  | nil=>rfl
  | cons a l ih=>rw [List.map_cons,ih];simp [Zol]
abbrev KDs:=List (KT×D)
def Zy:KDs→List D
 | []=>[]
 | p::r=>kD p.1::p.2::Zy r
def unf:List D→Option KDs
 | []=>some []
 | k::v::r=>(okK k).bind fun kt=>(unf r).map ((kt,v)::·)
 | _=>none
@[simp] theorem ZeL:∀ kvs:KDs,unf (Zy kvs)=some kvs
  | []=>rfl
  | p::r=>by unfold Zy unf;rw [ZlK,ZeL r];rfl
@[simp] theorem Zs2:unf []=some []:=rfl
theorem Zey:∀ {xs:List D} {kvs:KDs},unf xs=some kvs→xs=Zy kvs
 | [],_,h=>by cases h;rfl
 | [_],_,h=>by cases h
 | k::v::r,kvs,h=>by
  unfold unf at h
  cases h1:okK k with
  | none=>rw [h1] at h;cases h
  | some kt =>
   rw [h1] at h
   cases h2:unf r with
   | none=>rw [h2] at h;cases h
   | some q=>rw [h2] at h;cases h;unfold Zy;rw [← Zds h1,← Zey h2]
theorem Zhi:∀ kvs:KDs,Ze6 (Zy kvs)=kvs.map (·.1)
 | []=>rfl
 | p::r=>by unfold Zy Ze6;rw [Zo3,Zhi r];rfl
def ZP:KDs→KT→Option D
 | [],_=>none
 | t::r,k=>if t.1=k then some t.2 else ZP r k
def ZdW:KDs→KT→D→KDs
 | [],_,_=>[]
 | t::r,k,v=>(if t.1=k then (t.1,v) else t)::ZdW r k v
def Zao (kvs:KDs) (k:KT) (v:D):KDs:=if (ZP kvs k).isSome=true then ZdW kvs k v else kvs++[(k,v)]
def ZbJ:KT→Bool
 | .at _=>true
 | _=>false
def Zcw (k:KT) (kvs:KDs):Bool:=kvs.all fun p=>ZbJ p.1==ZbJ k
section
variable {K:PySem.W.Frag} {N:Fb} {H:Hp}
abbrev PD (K:PySem.W.Frag) (N:Fb) (H:Hp):KDs→List T3→Prop:=Paired fun p t=>p.1=t.1∧Den K N H (kD p.1) t.2.1∧Den K N H p.2 t.2.2
theorem ZlV {a:At} {v:V} (h:Den K N H (aD a) v):v=atV a:=by cases a<;>simpa only [aD,Den,atV] using h
theorem Zk5:∀ {l:List At} {vs:List V},DenL K N H (l.map aD) vs→vs=l.map atV
 | [],_,h=>by simpa only [List.map_nil,DenL] using h
 | a::l,vs,h=>by
  simp only [List.map_cons,DenL] at h
  obtain ⟨v,r,e,h1,h2⟩:=h
  rw [e,ZlV h1,Zk5 h2];rfl
theorem Zdp {k:KT} {v:V} (h:Den K N H (kD k) v):ZbC K H k v:=by
 cases k with
 | «at» a=>exact ZlV h
 | tup l =>
  simp only [kD,Den] at h
  obtain ⟨p,vs,e,sq,hl⟩:=h
  rw [Zk5 hl] at sq
  exact ⟨p,e,sq⟩
theorem Zd0 {k:KT} {v:V} (h:DenP K N H (kD k) v):Den K N H (kD k) v:=by
 cases k with
 | «at» a=>cases a<;>exact h
 | tup l=>exact h
theorem Zi0:∀ {kvs:KDs} {vs:List V},DenL K N H (Zy kvs) vs→∃ tr,vs=ZaT tr∧PD K N H kvs tr
 | [],vs,h=>⟨[],by simpa only [Zy,DenL,ZaT] using h,.nil⟩
 | p::r,vs,h=>by
  simp only [Zy,DenL] at h
  obtain ⟨v,t,e,h1,v',t',e',h2,h3⟩:=h
  obtain ⟨tr,e2,q⟩:=Zi0 h3
  exact ⟨(p.1,v,v')::tr,by rw [e,e',e2];rfl,.cons ⟨rfl,h1,h2⟩ q⟩
theorem PD.flat:∀ {kvs:KDs} {tr:List T3},PD K N H kvs tr→DenL K N H (Zy kvs) (ZaT tr)
 | _,_,.nil=>DenL.nil
 | _,_,.cons ⟨_,h1,h2⟩ t=>DenL.cons h1 (DenL.cons h2 (PD.flat t))
theorem PD.fst:∀ {kvs:KDs} {tr:List T3},PD K N H kvs tr→kvs.map (·.1)=tr.map (·.1)
 | _,_,.nil=>rfl
 | _,_,.cons ⟨h1,_,_⟩ t=>by rw [List.map_cons,List.map_cons,h1,PD.fst t]
theorem PD.keys:∀ {kvs:KDs} {tr:List T3},PD K N H kvs tr→∀ t∈tr,ZbC K H t.1 t.2.1
 | _,_,.nil,_,h=>nomatch h
 | _,_,.cons ⟨h1,h2,_⟩ t,x,hx=>by
  rcases List.mem_cons.mp hx with rfl | hx
  ·rw [← h1];exact Zdp h2
  ·exact PD.keys t x hx
def RelD (K:PySem.W.Frag) (N:Fb) (H:Hp):Option D→Option V→Prop
 | some d,some v=>Den K N H d v
 | none,none=>True
 | _,_=>False
theorem PD.val:∀ {kvs:KDs} {tr:List T3},PD K N H kvs tr→∀ k,RelD K N H (ZP kvs k) (ZaM tr k)
 | _,_,.nil,_=>True.intro
 | p::kvs,t::tr,.cons ⟨h1,_,h2⟩ r,k=>by
  have ih:=PD.val r k
  unfold ZP ZaM
  rw [h1]
  split
  ·exact h2
  ·exact ih
theorem RelD.isS:∀ {o:Option D} {u:Option V},RelD K N H o u→o.isSome=u.isSome
 | some _,some _,_=>rfl
 | none,none,_=>rfl
 | some _,none,h=>h.elim
 | none,some _,h=>h.elim
theorem PD.rep {k:KT} {d:D} {v:V} (hd:Den K N H d v):∀ {kvs:KDs} {tr:List T3},PD K N H kvs tr→PD K N H (ZdW kvs k d) (Zdd tr k v)
 | _,_,.nil=>.nil
 | p::kvs,t::tr,.cons ⟨h1,h2,h3⟩ r=>by
  have ih:=PD.rep (k:=k) hd r
  unfold ZdW Zdd
  rw [h1]
  refine .cons ?_ ih
  split
  ·exact ⟨rfl,h1 ▸ h2,hd⟩
  ·exact ⟨h1,h2,h3⟩
theorem PD.put {kvs:KDs} {tr:List T3} {k:KT} {d:D} {kv v:V} (h:PD K N H kvs tr) (hk:Den K N H (kD k) kv) (hd:Den K N H d v):PD K N H (Zao kvs k d) (Zbn tr k kv v):=by
 unfold Zao Zbn
 rw [(h.val k).isS]
 split
 ·exact h.rep hd
 ·exact Paired.snoc' ⟨rfl,hk,hd⟩ h
theorem PD.hom {k:KT}:∀ {kvs:KDs} {tr:List T3},PD K N H kvs tr→Zcw k kvs=true→Zfh k tr
 | _,_,.nil,_=>by cases k<;>exact fun _ h=>nomatch h
 | p::kvs,t::tr,.cons ⟨h1,_,_⟩ r,e=>by
  simp only [Zcw,List.all_cons,Bool.and_eq_true] at e
  have ih:=PD.hom (k:=k) r e.2
  have e1:=e.1
  rw [h1] at e1
  cases k with
  | «at» a =>
   intro x hx
   rcases List.mem_cons.mp hx with rfl | hx
   ·cases hx:x.1 with
    | «at» b=>exact ⟨b,rfl⟩
    | tup l=>rw [hx] at e1;cases e1
   ·exact ih x hx
  | tup l =>
   intro x hx
   rcases List.mem_cons.mp hx with rfl | hx
   ·cases hx:x.1 with
    | «at» b=>rw [hx] at e1;cases e1
    | tup l=>exact ⟨l,rfl⟩
   ·exact ih x hx
theorem ZlA {a:Addr} {kvs:KDs} {vs:List V} (h:Rd H a (.dct (Ze6 (Zy kvs)) vs)) (hd:DenL K N H (Zy kvs) vs):∃ tr,IsDc K H a tr∧PD K N H kvs tr:=by
 obtain ⟨tr,e,p⟩:=Zi0 hd
 subst e
 rw [Zhi,p.fst] at h
 exact ⟨tr,⟨h,p.keys⟩,p⟩
theorem ZeH {kvs:KDs} {tr:List T3} (p:PD K N H kvs tr):CO true (Zy kvs) (ZaT tr)=dcO tr:=by
 unfold CO dcO
 dsimp only
 rw [Zhi,p.fst]
end
def Zbs:D→D→Option D
 | .lst xs true,y=>(unf xs).bind fun kvs=>(okK y).bind fun k=>if Zcw k kvs then ZP kvs k else none
 | _,_=>none
@[simp] theorem Zdf (kvs:KDs) (y:D):Zbs (.lst (Zy kvs) true) y=(okK y).bind fun k=>if Zcw k kvs then ZP kvs k else none:=by simp [Zbs]
@[simp] theorem Zsm (y:D):Zbs (.lst [] true) y=(okK y).bind fun k=>none:=by simp [Zbs,ZP]
def Zd4 (neg:Bool):D→D→Option D
 | y,.lst xs true=>(unf xs).bind fun kvs=>(okK y).bind fun k=>if Zcw k kvs then some (.bl (neg != (ZP kvs k).isSome)) else none
 | _,_=>none
@[simp] theorem ZlS (neg:Bool) (kvs:KDs) (y:D):Zd4 neg y (.lst (Zy kvs) true)=(okK y).bind fun k=>if Zcw k kvs then some (.bl (neg != (ZP kvs k).isSome)) else none:=by simp [Zd4]
@[simp] theorem Zsy (neg:Bool) (y:D):Zd4 neg y (.lst [] true)=(okK y).bind fun k=>some (.bl neg):=by simp [Zd4,ZP,Zcw]
section
variable {X:Cx} {K:PySem.W.Frag} {M:Fb} {H0:Hp} {e a b:Expr} {f g:VE→Option D} {pos:Pos}
theorem Zpu:R2D K (ZnN K) Zbs:=by
 intro N H x y d1 d2 d Q nh h1 h2 e q
 unfold Zbs at e
 split at e
 ·next xs =>
  cases hu:unf xs with
  | none=>rw [hu] at e;cases e
  | some kvs =>
   rw [hu] at e
   cases hk:okK d2 with
   | none=>rw [hk] at e;cases e
   | some k =>
    rw [hk] at e
    have e:(if Zcw k kvs then ZP kvs k else none)=some d:=e
    split at e
    ·next hh =>
     rw [Zey hu] at h1
     obtain ⟨p,vs,ep,r,hd⟩:=h1
     obtain ⟨tr,dc,pd⟩:=ZlA r hd
     rw [Zds hk] at h2
     have hv:=pd.val k
     rw [e] at hv
     cases hw:ZaM tr k with
     | none=>rw [hw] at hv;exact hv.elim
     | some w=>rw [hw] at hv;exact ⟨p,tr,k,w,ep,dc,pd.hom hh,Zdp (Zd0 h2),hw,q w H (Same.refl H) hv⟩
    ·cases e
 ·cases e
theorem Zrx {neg:Bool}:R2D K (ZnQ K neg) (Zd4 neg):=by
 intro N H x y d1 d2 d Q nh h1 h2 e q
 unfold Zd4 at e
 split at e
 ·next xs =>
  cases hu:unf xs with
  | none=>rw [hu] at e;cases e
  | some kvs =>
   rw [hu] at e
   cases hk:okK d1 with
   | none=>rw [hk] at e;cases e
   | some k =>
    rw [hk] at e
    have e:(if Zcw k kvs then some (D.bl (neg != (ZP kvs k).isSome)) else none)=some d:=e
    split at e
    ·next hh =>
     cases e
     rw [Zey hu] at h2
     obtain ⟨p,vs,ep,r,hd⟩:=h2
     obtain ⟨tr,dc,pd⟩:=ZlA r hd
     rw [Zds hk] at h1
     refine ⟨p,tr,k,ep,dc,pd.hom hh,Zdp (Zd0 h1),?_⟩
     rw [← (pd.val k).isS]
     exact q _ H (Same.refl H) Zbx
    ·cases e
 ·cases e
theorem ZpW (hu:X.A.units+64<cLine) (ha:PE X a (tP X.K M H0 f)) (hb:PE X b (tP X.K M H0 g)) (hs:Zdm b):PE X (.Subscript a b pos) (tD X.K M H0 (Zd Zbs f g)):=ZnV (Zq6 hu) Zpu ha hb hs
theorem Zhe (hu:X.A.units+64<cLine) (ha:JE X a (tP X.K M H0 f)) (hb:JE X b (tP X.K M H0 g)) (hs:Zdm b):JE X (.Subscript a b pos) (tD X.K M H0 (Zd Zbs f g)):=⟨ZpW hu ha.h hb.h hs⟩
theorem Zoj (hu:X.A.units+64<cLine) (ha:PE X a (tP X.K M H0 f)) (hb:PE X b (tP X.K M H0 g)) (hm:behindInMarks .In b=false:=by with_unfolding_all rfl):PT X (.Compare a [.In] [b] pos) (tB' X.K M H0 fun ρ=>asB (Zd (Zd4 false) f g ρ)):=ZdX (Zoy hu) Zrx ha hb hm
theorem ZlN (hu:X.A.units+64<cLine) (ha:JE X a (tP X.K M H0 f)) (hb:JE X b (tP X.K M H0 g)) (hm:behindInMarks .In b=false:=by with_unfolding_all rfl):JT X (.Compare a [.In] [b] pos) (tB' X.K M H0 fun ρ=>asB (Zd (Zd4 false) f g ρ)):=⟨Zoj hu ha.h hb.h hm⟩
def ZnS:List D→Option D
 | [.lst xs true]=>(unf xs).bind fun kvs=>if kvs.all (fun p=>ZbJ p.1) then some (.int kvs.length) else none
 | _=>none
@[simp] theorem ZrY (kvs:KDs):ZnS [.lst (Zy kvs) true]=if kvs.all (fun p=>ZbJ p.1) then some (.int kvs.length) else none:=by simp [ZnS]
theorem ZpO {pos:Pos}:PE X (.Dict [] [] pos) (tFb true K M H0 fun _=>some []):=pe_dnew.mono fun σ H Q ⟨ρ,xs,R,e,q⟩ p hp=>by
 cases e
 exact Zge (xs:=[]) (vs:=[]) (fl:=true) (Same.refl H) hp DenL.nil q
theorem Zi4 {pos:Pos}:JE X (.Dict [] [] pos) (tFb true K M H0 fun _=>some []):=⟨ZpO⟩
def Zef (i:Nat) (ok ov:Option D) (ρ:VE):Res:=match rdG ρ i,ok,ov with
 | some xs,some y,some d=>match unf xs,okK y with
  | some kvs,some k=>if Zcw k kvs&&decide (kvs.length<sizeLine) then .next (ρ.set i (.own (Zy (Zao kvs k d)) true)) else .fail
  | _,_=>.fail
 | _,_,_=>.fail
theorem Zpa {i:Nat} {x:Str} {vpos tpos pos:Pos} {ei e:Expr} {fi f:VE→Option D} (hu:X.A.units+64<cLine) (hi:PE X ei (tP X.K M H0 fi)) (he:PE X e (tD X.K M H0 f)) (hN:X.N[i]?=some x:=by rfl)
  (hv:Vis X.env.scope x:=by first | exact Or.inl rfl | exact Or.inr (Or.inl rfl) | exact Or.inr (Or.inr rfl)) (hd:(x==("__debug__":Str))=false:=by decide) (hcd:(x==("__classdict__":Str))=false:=by decide)
  (ha:∀ v,assign (.Subscript (.Name x vpos) ei tpos) X.env v=(do
   let ov ← holding [v] (eval (.Name x vpos) X.env)
   let iv ← holding [v,ov] (eval ei X.env)
   standAt tpos
   holding [v,ov,iv] (setItem ov iv v)
   release [v,ov,iv] []):=by intro _;rfl)
  (hs:swapsWithSole [.Subscript (.Name x vpos) ei tpos] e pos.line X.env=pure false:=by rfl) (hw:swappedStores [.Subscript (.Name x vpos) ei tpos] e X.env=pure none:=by rfl)
  (h1:(assignEach [.Subscript (.Name x vpos) ei tpos] X.env).map (·.2)=[assign (.Subscript (.Name x vpos) ei tpos) X.env]:=by rfl) :
  PS X (.Assign [.Subscript (.Name x vpos) ei tpos] e pos) (tS X.K M H0 fun ρ=>Zef i (fi ρ) (f ρ) ρ):=(Zqg he (ZpV (Zcb hN hv hd hcd) hi (ZoC hu) ha) hs hw h1).mono fun D' σ H ⟨ρ,R,q⟩=>by
 try dsimp only at q
 unfold Zef at q
 split at q
 ·next xs y d hr hfi hf =>
  split at q
  ·next kvs k hun hk =>
   split at q
   ·next hh =>
    rw [Bool.and_eq_true,decide_eq_true_eq] at hh
    refine ⟨ρ,d,R,hf,fun v H1 s1 hv=>?_⟩
    have hi':=ZeO hr
    have R1:=R.st s1
    have ex:=Zey hun
    subst ex
    obtain ⟨a,vs,e1,z1,z2,z3,z4⟩:=R1.slot i _ hi'
    have ha:=join_some e1
    refine ⟨.ref a,ha,ρ,y,R1,hfi,fun w H2 s2 hw=>?_⟩
    have R2:=R1.st s2
    obtain ⟨tr,dc,pd⟩:=ZlA (K:=X.K) (.inl (s2 _ _ z3)) (z4.same s2)
    obtain ⟨tr',e',pd'⟩:=Zi0 (z4.same s2)
    subst e'
    rw [Zds hk] at hw
    have pp:=pd'.put (k:=k) (Zd0 hw) (hv.same s2)
    obtain ⟨R3,S3⟩:=R2.chg (fl2:=true) (ys:=Zy (Zao kvs k d)) (ws:=ZaT (Zbn tr' k w v)) hi' ha pp.flat
    rw [ZeH pp] at R3 S3
    refine ⟨a,tr',k,rfl,?_,pd'.keys,pd'.hom hh.1,Zdp (Zd0 hw),by rw [← Paired.length pd'];exact hh.2,q _ _ R3 ((Step.of_same (s1.trans s2)).trans S3)⟩
    rw [← ZeH pd']
    exact s2 _ _ z3
   ·exact False.elim q
  ·exact False.elim q
 ·exact False.elim q
theorem Zii {i:Nat} {x:Str} {vpos tpos pos:Pos} {ei e:Expr} {fi f:VE→Option D} (hu:X.A.units+64<cLine) (hi:JE X ei (tP X.K M H0 fi)) (he:JE X e (tD X.K M H0 f)) (hN:X.N[i]?=some x:=by rfl)
  (hv:Vis X.env.scope x:=by first | exact Or.inl rfl | exact Or.inr (Or.inl rfl) | exact Or.inr (Or.inr rfl)) (hd:(x==("__debug__":Str))=false:=by decide) (hcd:(x==("__classdict__":Str))=false:=by decide)
  (ha:∀ v,assign (.Subscript (.Name x vpos) ei tpos) X.env v=(do
   let ov ← holding [v] (eval (.Name x vpos) X.env)
   let iv ← holding [v,ov] (eval ei X.env)
   standAt tpos
   holding [v,ov,iv] (setItem ov iv v)
   release [v,ov,iv] []):=by intro _;rfl)
  (hs:swapsWithSole [.Subscript (.Name x vpos) ei tpos] e pos.line X.env=pure false:=by rfl) (hw:swappedStores [.Subscript (.Name x vpos) ei tpos] e X.env=pure none:=by rfl)
  (h1:(assignEach [.Subscript (.Name x vpos) ei tpos] X.env).map (·.2)=[assign (.Subscript (.Name x vpos) ei tpos) X.env]:=by rfl) :
  JS X (.Assign [.Subscript (.Name x vpos) ei tpos] e pos) (tS X.K M H0 fun ρ=>Zef i (fi ρ) (f ρ) ρ):=⟨Zpa hu hi.h he.h hN hv hd hcd ha hs hw h1⟩
end
end L2
set_option Elab.async false
set_option linter.all false
set_option maxRecDepth 100000
namespace L2
open PySem PySem.Spec PyProof.Rows
theorem Zjm (k:KT) (v:D) (k':KT):∀ kvs:KDs,ZP (ZdW kvs k v) k'=if k=k' then (ZP kvs k').map (fun _=>v) else ZP kvs k'
 | []=>by simp [ZdW,ZP]
 | t::r=>by
  have ih:=Zjm k v k' r
  unfold ZdW ZP
  by_cases h1:t.1=k
  ·subst h1
   rw [if_pos rfl]
   by_cases h2:t.1=k'
   ·subst h2;simp
   ·simp only [if_neg h2,ih]
  ·rw [if_neg h1]
   by_cases h2:t.1=k'
   ·subst h2
    rw [if_pos rfl,if_neg (fun z=>h1 z.symm),if_pos rfl]
   ·rw [if_neg h2,ih,if_neg h2]
theorem ZjA (k:KT):∀ (a b:KDs),ZP (a++b) k=match ZP a k with | some v=>some v | none=>ZP b k
 | [],b=>by simp [ZP]
 | t::r,b=>by
  have ih:=ZjA k r b
  rw [List.cons_append]
  have e1:ZP (t::(r++b)) k=if t.1=k then some t.2 else ZP (r++b) k:=rfl
  have e2:ZP (t::r) k=if t.1=k then some t.2 else ZP r k:=rfl
  rw [e1,e2]
  by_cases h:t.1=k
  ·rw [if_pos h,if_pos h]
  ·rw [if_neg h,if_neg h];exact ih
theorem ZcN (kvs:KDs) (k:KT) (v:D) (k':KT):ZP (Zao kvs k v) k'=if k=k' then some v else ZP kvs k':=by
 unfold Zao
 by_cases h:(ZP kvs k).isSome=true
 ·rw [if_pos h,Zjm]
  by_cases e:k=k'
  ·subst e
   rw [if_pos rfl,if_pos rfl]
   cases hv:ZP kvs k with
   | none=>rw [hv] at h;cases h
   | some w=>rfl
  ·rw [if_neg e,if_neg e]
 ·rw [if_neg h,ZjA]
  have hn:ZP kvs k=none:=by
   cases hv:ZP kvs k with
   | none=>rfl
   | some w=>rw [hv] at h;exact absurd rfl h
  by_cases e:k=k'
  ·subst e;rw [hn];simp [ZP]
  ·rw [if_neg e]
   cases ZP kvs k' with
   | none=>simp [ZP,e]
   | some w=>rfl
theorem Zje {k:KT} {v:D} {p:KT×D}:∀ {kvs:KDs},p∈ZdW kvs k v→p∈kvs∨p=(k,v)
 | [],h=>nomatch h
 | t::r,h=>by
  unfold ZdW at h
  rcases List.mem_cons.mp h with hp | h
  ·by_cases e:t.1=k
   ·rw [if_pos e,e] at hp;exact .inr hp
   ·rw [if_neg e] at hp;subst hp;exact .inl List.mem_cons_self
  ·rcases Zje h with h | h
   ·exact .inl (List.mem_cons_of_mem _ h)
   ·exact .inr h
theorem ZnI {k:KT} {v:D} {p:KT×D} {kvs:KDs} (h:p∈Zao kvs k v):p∈kvs∨p=(k,v):=by
 unfold Zao at h
 split at h
 ·exact Zje h
 ·rcases List.mem_append.mp h with h | h
  ·exact .inl h
  ·exact .inr (by simpa using h)
theorem Zjx (k:KT) (v:D):∀ kvs:KDs,(ZdW kvs k v).length=kvs.length
 | []=>rfl
 | t::r=>by simp [ZdW,Zjx k v r]
theorem ZdZ (kvs:KDs) (k:KT) (v:D):(Zao kvs k v).length≤kvs.length+1:=by
 unfold Zao
 split
 ·rw [Zjx];omega
 ·simp
theorem Zb4 {kvs:KDs} (a:At) (h:∀ p∈kvs,ZbJ p.1=true):Zcw (.at a) kvs=true:=by
 unfold Zcw
 rw [List.all_eq_true]
 intro p hp
 rw [h p hp];rfl
end L2
set_option Elab.async false
set_option linter.all false
set_option maxRecDepth 100000
namespace L2
open PySem PySem.Spec PyProof.Rows
def tX (K:PySem.W.Frag) (M:Fb) (H0:Hp) (f:VE→Option (D×VE)):TE:=fun σ H Q=>∃ ρ d ρ',Rel K M H0 ρ σ H∧f ρ=some (d,ρ') ∧
 ∀ v H',Rel K M H0 ρ' σ H'→Step M (Nf M ρ σ) (Nf M ρ' σ) H H'→Den K (Nf M ρ' σ) H' d v→Q v H'
def sdX (i:Nat) (fk fv:VE→Option D):VE→Option (D×VE):=fun ρ=>match rdG ρ i,fk ρ,fv ρ with
 | some xs,some y,some d=>match unf xs,okK y with
  | some kvs,some k=>if Zcw k kvs&&decide (kvs.length<sizeLine) then
    (match ZP kvs k with
    | some v=>some (v,ρ)
    | none=>some (d,ρ.set i (.own (Zy (Zao kvs k d)) true)))
   else none
  | _,_=>none
 | _,_,_=>none
section
variable {X:Cx} {K:PySem.W.Frag} {M:Fb} {H0:Hp} {e a b ek ev:Expr} {f g fk fv:VE→Option D} {fx:VE→Option (D×VE)} {pos:Pos}
theorem Zsi {i:Nat} {x:Str} {vpos apos cpos:Pos} (hu:X.A.units+64<cLine) (hk:PE X ek (tP X.K M H0 fk)) (hv':PE X ev (tD X.K M H0 fv)) (hN:X.N[i]?=some x:=by rfl) (hv:Vis X.env.scope x:=by first | exact Or.inl rfl | exact Or.inr (Or.inl rfl) | exact Or.inr (Or.inr rfl)) (hd:(x==("__debug__":Str))=false:=by decide) (hcd:(x==("__classdict__":Str))=false:=by decide)
  (hbase:attributeBase (.Name x vpos) "setdefault" X.env (eval (.Name x vpos) X.env)=eval (.Name x vpos) X.env:=by rfl)
  (hfew:((backTo cpos (starEach [ek,ev] X.env)).all (fun x=>!x.1)&&(backToKw cpos (keywordEach [] X.env)).all (fun x=>x.1.isSome)
   && decide ([ek,ev].length+([]:List Keyword).length+(if ([]:List Keyword).isEmpty then 0 else 1)<30))=true:=by rfl)
  (hline:(apos.endLine==cpos.line)=true:=by rfl) (hst:starEach [ek,ev] X.env=(false,eval ek X.env)::starEach [ev] X.env:=by exact Zad (fun _ _ z=>nomatch z)) (hst2:starEach [ev] X.env=(false,eval ev X.env)::starEach [] X.env:=by exact Zad (fun _ _ z=>nomatch z)) (hpl:(backTo cpos (starEach [ev] X.env)).any (·.1)=false:=by rfl) :
  PE X (.Call (.Attribute (.Name x vpos) "setdefault" apos) [ek,ev] [] cpos) (tX X.K M H0 (sdX i fk fv)) :=
 (Zld PySem.F.plainAttrs_dict PySem.F.slot_dict_setdefault PySem.F.type_dict_setdefault (ZiK hu) (Zcb hN hv hd hcd) (ZbQ hk (ZbQ hv' pa_nil hst2) hst) hbase hfew hline hst hpl).mono fun σ H Q ⟨ρ,d,ρ',R,ex,q⟩=>by
  unfold sdX at ex
  split at ex
  ·next xs y dv hr hfk hfv =>
   split at ex
   ·next kvs k hun hkk =>
    split at ex
    ·next hh =>
     rw [Bool.and_eq_true,decide_eq_true_eq] at hh
     have hi':=ZeO hr
     have exs:=Zey hun
     subst exs
     obtain ⟨a,vs,e1,z1,z2,z3,z4⟩:=R.slot i _ hi'
     have ha:=join_some e1
     have tv:tyV X.K "dict" (.ref a) H:=.inr (.inr (.inl ⟨rfl,.inr (.inr ⟨_,_,.inl z3⟩)⟩))
     refine ⟨.ref a,ha,tv,ρ,y,R,hfk,fun w H1 s1 hw=>⟨ρ,dv,R.st s1,hfv,fun v H2 s2 hv=>?_⟩⟩
     have s:=s1.trans s2
     have R2:=R.st s
     obtain ⟨tr,e',pd⟩:=Zi0 (z4.same s)
     subst e'
     rw [Zds hkk] at hw
     have hw2:=Zd0 (hw.same s2)
     have hval:=pd.val k
     refine ⟨a,tr,k,w,v,rfl,rfl,?_,pd.keys,pd.hom hh.1,Zdp hw2,by rw [← Paired.length pd];exact hh.2,fun u hu'=>?_,fun hn=>?_⟩
     ·rw [← ZeH pd];exact s _ _ z3
     ·rw [hu'] at hval
      cases hvl:ZP kvs k with
      | none=>rw [hvl] at hval;exact hval.elim
      | some d0 =>
       rw [hvl] at hval ex
       cases ex
       exact q u H2 R2 (Step.of_same s) hval
     ·rw [hn] at hval
      cases hvl:ZP kvs k with
      | some d0=>rw [hvl] at hval;exact hval.elim
      | none =>
       rw [hvl] at ex
       cases ex
       have pp:=pd.put (k:=k) hw2 hv
       obtain ⟨R3,S3⟩:=R2.chg (fl2:=true) (ys:=Zy (Zao kvs k d)) (ws:=ZaT (Zbn tr k w v)) hi' ha pp.flat
       rw [ZeH pp] at R3 S3
       exact q v _ R3 ((Step.of_same s).trans S3) (Den.step S3 d v hv)
    ·cases ex
   ·cases ex
  ·cases ex
theorem Zpn {i:Nat} {x:Str} {vpos apos cpos:Pos} (hu:X.A.units+64<cLine) (hk:JE X ek (tP X.K M H0 fk)) (hv':JE X ev (tD X.K M H0 fv)) (hN:X.N[i]?=some x:=by rfl) (hv:Vis X.env.scope x:=by first | exact Or.inl rfl | exact Or.inr (Or.inl rfl) | exact Or.inr (Or.inr rfl)) (hd:(x==("__debug__":Str))=false:=by decide) (hcd:(x==("__classdict__":Str))=false:=by decide)
  (hbase:attributeBase (.Name x vpos) "setdefault" X.env (eval (.Name x vpos) X.env)=eval (.Name x vpos) X.env:=by rfl)
  (hfew:((backTo cpos (starEach [ek,ev] X.env)).all (fun x=>!x.1)&&(backToKw cpos (keywordEach [] X.env)).all (fun x=>x.1.isSome)
   && decide ([ek,ev].length+([]:List Keyword).length+(if ([]:List Keyword).isEmpty then 0 else 1)<30))=true:=by rfl)
  (hline:(apos.endLine==cpos.line)=true:=by rfl) (hst:starEach [ek,ev] X.env=(false,eval ek X.env)::starEach [ev] X.env:=by exact Zad (fun _ _ z=>nomatch z)) (hst2:starEach [ev] X.env=(false,eval ev X.env)::starEach [] X.env:=by exact Zad (fun _ _ z=>nomatch z)) (hpl:(backTo cpos (starEach [ev] X.env)).any (·.1)=false:=by rfl) :
  JE X (.Call (.Attribute (.Name x vpos) "setdefault" apos) [ek,ev] [] cpos) (tX X.K M H0 (sdX i fk fv)):=⟨Zsi hu hk.h hv'.h hN hv hd hcd hbase hfew hline hst hst2 hpl⟩
def ZtR (o:Option (D×VE)):Res:=match o with
 | some (_,ρ')=>.next ρ'
 | none=>.fail
def Zjk (i:Nat) (o:Option (D×VE)):Res:=match o with
 | some (d,ρ')=>.next (ρ'.set i (.val d))
 | none=>.fail
theorem Zph {i:Nat} {x:Str} {pos':Pos} (hN:X.N.Nodup) (hi:X.N[i]?=some x) (hx:Loc X.env.scope x) (he:PE X e (tX K M H0 fx)) (hs:swapsWith e (some (.Name x pos')) pos.line X.env=pure false:=by rfl) (hf:X.fn x=true∨X.env.scope.names.lookup x=some .local:=by first | exact .inl rfl | exact .inr rfl | assumption) :
  PS X (.Assign [.Name x pos'] e pos) (tS K M H0 fun ρ=>Zjk i (fx ρ)):=(ZhE hN hi hx he hs hf).mono fun D' σ H ⟨ρ,R,q⟩=>by
 try dsimp only at q
 cases hf:fx ρ with
 | none=>rw [hf] at q;exact False.elim q
 | some p =>
  obtain ⟨d,ρ'⟩:=p
  rw [hf] at q
  refine ⟨ρ,d,ρ',R,hf,fun v H' R' S hv=>?_⟩
  obtain ⟨R1,S1⟩:=R'.setV (i:=i) (Same.refl H') hv
  exact q _ _ R1 (S.trans S1)
theorem Zl3 {i:Nat} {x:Str} {pos':Pos} (hN:X.N.Nodup) (hi:X.N[i]?=some x) (hx:Loc X.env.scope x) (he:JE X e (tX K M H0 fx)) (hs:swapsWith e (some (.Name x pos')) pos.line X.env=pure false:=by rfl) (hf:X.fn x=true∨X.env.scope.names.lookup x=some .local:=by first | exact .inl rfl | exact .inr rfl | assumption) :
  JS X (.Assign [.Name x pos'] e pos) (tS K M H0 fun ρ=>Zjk i (fx ρ)):=⟨Zph hN hi hx he.h hs hf⟩
def Zss:D→D→Option D
 | .bl i,.bl j=>some (.bl (decide (i=j)))
 | _,_=>none
@[simp] theorem Zth (i j:Bool):Zss (.bl i) (.bl j)=some (.bl (decide (i=j))):=rfl
def Zpo:V→List V→Hp→VK→Prop:=fun x vs H Q=>∃ l xs k y,x=.ref l∧vs=[.int (k:Nat),y]∧H l=some (.lst xs)∧xs.length<sizeLine∧k≤xs.length∧Q .non (upd H l (.lst (xs.take k++y::xs.drop k)))
theorem Zny (k:Nat) (h:k<16777217):¬ (!Builtin.List.listFitsIndex (k:Int))=true:=by
 have e1:Builtin.List.listFitsIndex (k:Int)=true:=by
  unfold Builtin.List.listFitsIndex
  rw [Bool.and_eq_true,decide_eq_true_eq,decide_eq_true_eq]
  constructor<;>omega
 rw [e1];decide
theorem Zmx:MtR X "list.insert" Zpo:=by
 intro pins s σ H x vs v us Q I rx rv h
 obtain ⟨l,xs,k,y,rfl,rfl,hH,hz,hk,q⟩:=h
 cases rx
 obtain ⟨u1,u2,rfl,r1,r2⟩:=rv.two
 obtain ⟨t,rfl⟩:=r1
 obtain ⟨z,its,n,r,hl,e⟩:=I.lstM hH
 have hsl:sizeLine=16777216:=sizeLine_eq
 have hsz:its.toArray.size≤sizeLine:=by rw [List.size_toArray];omega
 have h1:¬ ((k:Int)<0):=by omega
 have h2:min k its.length=k:=by omega
 have h3:(xs.take k++y::xs.drop k).length≤sizeLine:=by simp;omega
 have hc:=Zny k (by omega)
 have hms:=@AutoListH.list_insert_list_int_val_1 l its.toArray n (k:Int) t u2 hc hsz
 generalize hk':((k:Nat):Int)=kk at hms hc h1 ⊢
 refine call_meets F.slot_list_insert ⟨_,e,rfl⟩ F.entry_list_insert (F.args_list_insert_3 _ _ _) hms ⟨e,?_⟩
 subst hk'
 refine ⟨.non,_,I.lset (its':=its.take k++u2::its.drop k) hH e ?_ ((r.take k).append (.cons r2 (r.drop k))) ?_,rfl,q⟩
 ·simp only [if_neg h1,Int.toNat_natCast,List.size_toArray]
  rw [h2]
  apply Array.ext'
  simp
  exact List.take_of_length_le (by simp)
 ·exact h3
def ZhO (i:Nat) (oi ov:Option D) (ρ:VE):Res:=match rdO ρ i,oi,ov with
 | some xs,some (.int k),some d=>if 0≤k∧k≤xs.length∧xs.length<sizeLine then .next (ρ.set i (.own (xs.take k.toNat++d::xs.drop k.toNat))) else .fail
 | _,_,_=>.fail
theorem ZlT {i:Nat} {x:Str} {vpos apos cpos:Pos} (hk:PE X ek (tP X.K M H0 fk)) (hv':PE X ev (tD X.K M H0 fv)) (hN:X.N[i]?=some x:=by rfl) (hv:Vis X.env.scope x:=by first | exact Or.inl rfl | exact Or.inr (Or.inl rfl) | exact Or.inr (Or.inr rfl)) (hd:(x==("__debug__":Str))=false:=by decide) (hcd:(x==("__classdict__":Str))=false:=by decide)
  (hs:swapsWith (.Call (.Attribute (.Name x vpos) "insert" apos) [ek,ev] [] cpos) none pos.line X.env=pure false:=by rfl)
  (hbase:attributeBase (.Name x vpos) "insert" X.env (eval (.Name x vpos) X.env)=eval (.Name x vpos) X.env:=by rfl)
  (hfew:((backTo cpos (starEach [ek,ev] X.env)).all (fun x=>!x.1)&&(backToKw cpos (keywordEach [] X.env)).all (fun x=>x.1.isSome)
   && decide ([ek,ev].length+([]:List Keyword).length+(if ([]:List Keyword).isEmpty then 0 else 1)<30))=true:=by rfl)
  (hline:(apos.endLine==cpos.line)=true:=by rfl) (hst:starEach [ek,ev] X.env=(false,eval ek X.env)::starEach [ev] X.env:=by exact Zad (fun _ _ z=>nomatch z)) (hst2:starEach [ev] X.env=(false,eval ev X.env)::starEach [] X.env:=by exact Zad (fun _ _ z=>nomatch z)) (hpl:(backTo cpos (starEach [ev] X.env)).any (·.1)=false:=by rfl) :
  PS X (.Expr (.Call (.Attribute (.Name x vpos) "insert" apos) [ek,ev] [] cpos) pos) (tS X.K M H0 fun ρ=>ZhO i (fk ρ) (fv ρ) ρ) :=
 (Zk1 (Zld PySem.F.plainAttrs_list PySem.F.slot_list_insert PySem.F.type_list_insert Zmx (Zcb hN hv hd hcd) (ZbQ hk (ZbQ hv' pa_nil hst2) hst) hbase hfew hline hst hpl) hs).mono fun D' σ H ⟨ρ,R,q⟩=>by
  try dsimp only at q
  unfold ZhO at q
  split at q
  ·next xs k d hr hfk hfv =>
   split at q
   ·next hh =>
    have hi:=Zfp hr
    obtain ⟨a,vs,e1,z1,z2,z3,z4⟩:=R.slot i _ hi
    have ha:=join_some e1
    refine ⟨.ref a,ha,.inl ⟨rfl,vs,.inl (.inl z3)⟩,ρ,.int k,R,hfk,fun w H1 s1 hw=>⟨ρ,d,R.st s1,hfv,fun v H2 s2 hv=>?_⟩⟩
    have s:=s1.trans s2
    have R2:=R.st s
    have z4':=z4.same s
    obtain ⟨R3,S3⟩:=R2.chg (fl2:=false) (ys:=xs.take k.toNat++d::xs.drop k.toNat) (ws:=vs.take k.toNat++v::vs.drop k.toNat) hi ha ((z4'.take _).append (DenL.cons hv (z4'.drop _)))
    have hl:=z4.length
    refine ⟨a,vs,k.toNat,v,rfl,by rw [hw.int,Int.toNat_of_nonneg hh.1],s _ _ z3,by omega,by omega,q _ _ R3 ((Step.of_same s).trans S3)⟩
   ·exact False.elim q
  ·exact False.elim q
theorem Zkn {i:Nat} {x:Str} {vpos apos cpos:Pos} (hk:JE X ek (tP X.K M H0 fk)) (hv':JE X ev (tD X.K M H0 fv)) (hN:X.N[i]?=some x:=by rfl) (hv:Vis X.env.scope x:=by first | exact Or.inl rfl | exact Or.inr (Or.inl rfl) | exact Or.inr (Or.inr rfl)) (hd:(x==("__debug__":Str))=false:=by decide) (hcd:(x==("__classdict__":Str))=false:=by decide)
  (hs:swapsWith (.Call (.Attribute (.Name x vpos) "insert" apos) [ek,ev] [] cpos) none pos.line X.env=pure false:=by rfl)
  (hbase:attributeBase (.Name x vpos) "insert" X.env (eval (.Name x vpos) X.env)=eval (.Name x vpos) X.env:=by rfl)
  (hfew:((backTo cpos (starEach [ek,ev] X.env)).all (fun x=>!x.1)&&(backToKw cpos (keywordEach [] X.env)).all (fun x=>x.1.isSome)
   && decide ([ek,ev].length+([]:List Keyword).length+(if ([]:List Keyword).isEmpty then 0 else 1)<30))=true:=by rfl)
  (hline:(apos.endLine==cpos.line)=true:=by rfl) (hst:starEach [ek,ev] X.env=(false,eval ek X.env)::starEach [ev] X.env:=by exact Zad (fun _ _ z=>nomatch z)) (hst2:starEach [ev] X.env=(false,eval ev X.env)::starEach [] X.env:=by exact Zad (fun _ _ z=>nomatch z)) (hpl:(backTo cpos (starEach [ev] X.env)).any (·.1)=false:=by rfl) :
  JS X (.Expr (.Call (.Attribute (.Name x vpos) "insert" apos) [ek,ev] [] cpos) pos) (tS X.K M H0 fun ρ=>ZhO i (fk ρ) (fv ρ) ρ):=⟨ZlT hk.h hv'.h hN hv hd hcd hs hbase hfew hline hst hst2 hpl⟩
end
end L2
set_option Elab.async false
set_option linter.all false
set_option maxRecDepth 100000
namespace L2
open PySem PySem.Spec PyProof.Rows
section
variable {X:Cx} {K:PySem.W.Frag}
noncomputable def ZlQ (z:Str):List D→Option D
 | [.int i]=>gd (0≤i∧i<1000000) (some (.str (Txt.zfill z i)))
 | _=>none
@[simp] theorem Zsp (z:Str) (i:Int) (h0:0≤i) (h1:i<1000000):ZlQ z [.int i]=some (.str (Txt.zfill z i)):=by
  unfold ZlQ
  exact Zhz ⟨h0,h1⟩
@[simp] def ZrF (z:Str):List D→Option D
  | [.str y]=>some (.bl (Txt.startswith z y))
  | _=>none
end
end L2
set_option Elab.async false
set_option linter.all false
set_option maxRecDepth 100000
namespace L2
open PySem PySem.Spec PyProof.Rows
@[simp] def Zt0 (b:D→VE→Option VE) (o:Option D) (ρ:VE):Res:=match o with
  | some d=>(match b d ρ with
   | some ρ'=>.next ρ'
   | none=>.fail)
  | none=>.fail
section
variable {X:Cx} {K:PySem.W.Frag} {M:Fb} {H0:Hp} {e tg:Expr} {f:VE→Option D} {b:D→VE→Option VE} {pos:Pos}
end
end L2
set_option Elab.async false
set_option linter.all false
set_option maxRecDepth 100000
namespace L2
open PySem PySem.Spec PyProof.Rows PySem.W
section
variable (lt:Nat→Nat→Bool)
structure WO (n:Nat):Prop where
 asym:∀ a b,a<n→b<n→lt a b=true→lt b a=false
 neg:∀ a b c,a<n→b<n→c<n→lt a c=true→lt a b=true∨lt b c=true
def le' (a b:Nat):Prop:=lt b a=false
end
section
variable {lt:Nat→Nat→Bool} {n:Nat} (W:WO lt n)
include W
theorem WO.refl {a:Nat} (ha:a<n):le' lt a a:=by
 unfold le'
 cases h:lt a a with
 | false=>rfl
 | true=>have:=W.asym a a ha ha h;rw [h] at this;cases this
theorem WO.trans {a b c:Nat} (ha:a<n) (hb:b<n) (hc:c<n) (h1:le' lt a b) (h2:le' lt b c):le' lt a c:=by
 unfold le' at *
 cases h:lt c a with
 | false=>rfl
 | true =>
  rcases W.neg c b a hc hb ha h with z | z
  ·rw [z] at h2;cases h2
  ·rw [z] at h1;cases h1
theorem WO.of_lt {a b:Nat} (ha:a<n) (hb:b<n) (h:lt a b=true):le' lt a b:=W.asym a b ha hb h
end
abbrev pvA (p:Array Nat) (i:Nat):Nat:=p.getD i 0
def Zeo (lt:Nat→Nat→Bool) (p:Array Nat) (k:Nat):Prop:=∀ i j,i≤j→j<k→le' lt (pvA p i) (pvA p j)
def Zel (lt:Nat→Nat→Bool) (p:Array Nat) (k:Nat):Prop:=∀ i j,i≤j→j<k→le' lt (pvA p j) (pvA p i)
def Eqv (lt:Nat→Nat→Bool) (a b:Nat):Prop:=le' lt a b∧le' lt b a
def Bs (n:Nat) (p:Array Nat):Prop:=p.Perm (List.range n).toArray
theorem Bs.size {n:Nat} {p:Array Nat} (h:Bs n p):p.size=n:=by have:=h.size_eq;simpa using this
theorem Bs.lt {n:Nat} {p:Array Nat} (h:Bs n p) {i:Nat} (hi:i<n):pvA p i<n:=by
 have hs:=h.size
 have hi':i<p.size:=by omega
 have hm:p[i]∈p:=Array.getElem_mem hi'
 have:=(h.mem_iff (a:=p[i])).mp hm
 simp at this
 unfold pvA
 rw [Array.getD_eq_getD_getElem?,Array.getElem?_eq_getElem hi']
 exact this
theorem ZfW {p q:Array Nat} {i j:Nat} (h:p[i]?=q[j]?):pvA p i=pvA q j:=by
 unfold pvA
 rw [Array.getD_eq_getD_getElem?,Array.getD_eq_getD_getElem?,h]
theorem ZeA {p:Array Nat} {i j:Nat} (hj:j≤p.size) (k:Nat):pvA (kas_rev p i j) k=if i≤k∧k<j then pvA p (i+j-1-k) else pvA p k:=by
 have:=getElem?_mirror_all (xs:=p) (i:=i) (j:=j) hj k
 by_cases h:i≤k∧k<j
 ·rw [if_pos h] at this ⊢;exact ZfW this
 ·rw [if_neg h] at this ⊢;exact ZfW this
theorem ZkN {p:Array Nat} {k d:Nat} (hk:k<p.size) (hd:d≤k) (i:Nat):pvA (bubble p k d) i=if i=k-d then pvA p k else if k-d<i∧i≤k then pvA p (i-1) else pvA p i:=by
 have:=getElem?_bubble (xs:=p) (src:=k) hk d hd i
 by_cases h:i=k-d
 ·rw [if_pos h] at this ⊢;exact ZfW this
 ·rw [if_neg h] at this ⊢
  by_cases h2:k-d<i∧i≤k
  ·rw [if_pos h2] at this ⊢;exact ZfW this
  ·rw [if_neg h2] at this ⊢;exact ZfW this
theorem Bs.rev {n:Nat} {p:Array Nat} (h:Bs n p) (i j:Nat):Bs n (kas_rev p i j):=(mirror_perm p i j _).trans h
theorem Bs.bub {n:Nat} {p:Array Nat} (h:Bs n p) (k d:Nat):Bs n (bubble p k d):=(bubble_perm p k d).trans h
section
variable {lt:Nat→Nat→Bool} {n:Nat} (W:WO lt n) {cmp:Nat→Nat→(Bool→Shared→Prop)→Shared→Prop} {s:Shared} (hc:∀ i j C,i<n→j<n→C (lt i j) s→cmp i j C s)
include W hc
theorem Zi8 {p:Array Nat} (hp:Bs n p):∀ (f m:Nat) {Q:Nat→Shared→Prop},1≤m→m+f≤n→Zeo lt p m→(∀ m',m≤m'→m'≤m+f→Zeo lt p m'→(m'=m+f∨lt (pvA p m') (pvA p (m'-1))=true)→Q m' s)→KasT.kasWp cmp (kas_asc p f m) Q s
 | 0,m,Q,h1,h2,h3,q=>by
  rw [kas_asc,KasT.kasWp]
  exact q m (Nat.le_refl _) (by omega) h3 (.inl rfl)
 | f+1,m,Q,h1,h2,h3,q=>by
  rw [kas_asc,KasT.kasWp]
  refine hc _ _ _ (hp.lt (by omega)) (hp.lt (by omega)) ?_
  cases hb:lt (pvA p m) (pvA p (m-1)) with
  | true =>
   simp only [if_true,KasT.kasWp]
   exact q m (Nat.le_refl _) (by omega) h3 (.inr hb)
  | false =>
   simp only [Bool.false_eq_true,if_false]
   refine Zi8 hp f (m+1) (by omega) (by omega) (fun i j hij hj=>?_) fun m' a b c d=>q m' (by omega) (by omega) c (by rcases d with d | d;exact .inl (by omega);exact .inr d)
   rcases Nat.lt_or_ge j m with z | z
   ·exact h3 i j hij z
   ·have e:j=m:=by omega
    subst e
    rcases Nat.lt_or_ge i j with y | y
    ·exact W.trans (hp.lt (by omega)) (hp.lt (i:=j-1) (by omega)) (hp.lt (by omega)) (h3 i (j-1) (by omega) (by omega)) hb
    ·have e:i=j:=by omega
     subst e
     exact W.refl (hp.lt (by omega))
theorem ZhV {p:Array Nat} (hp:Bs n p) {i j:Nat} (hij:i<j) (hj:j≤n) (he:∀ k,i≤k→k<j→Eqv lt (pvA p k) (pvA p (j-1))) (k:Nat) (hk:k<n):Eqv lt (pvA (kas_rev p i j) k) (pvA p k):=by
 rw [ZeA (by rw [hp.size];exact hj)]
 by_cases h:i≤k∧k<j
 ·rw [if_pos h]
  have a:=he (i+j-1-k) (by omega) (by omega)
  have b:=he k h.1 h.2
  exact ⟨W.trans (hp.lt (by omega)) (hp.lt (by omega)) (hp.lt (by omega)) a.1 b.2,W.trans (hp.lt (by omega)) (hp.lt (by omega)) (hp.lt (by omega)) b.1 a.2⟩
 ·rw [if_neg h]
  exact ⟨W.refl (hp.lt hk),W.refl (hp.lt hk)⟩
theorem Zik {p q:Array Nat} (hp:Bs n p) (hq:Bs n q) {k:Nat} (hk:k≤n) (he:∀ i,i<n→Eqv lt (pvA q i) (pvA p i)) (h:Zel lt p k):Zel lt q k:=fun i j hij hj =>
 W.trans (hq.lt (by omega)) (hp.lt (i:=j) (by omega)) (hq.lt (by omega)) (he j (by omega)).1 (W.trans (hp.lt (by omega)) (hp.lt (i:=i) (by omega)) (hq.lt (by omega)) (h i j hij hj) (he i (by omega)).2)
theorem ZgQ:∀ (f:Nat) (p:Array Nat) (m q:Nat) {Q:Array Nat×Nat×Nat→Shared→Prop},Bs n p→1≤m→m+f≤n→q+1≤m→Zel lt p m→(∀ i,m-(q+1)≤i→i<m→Eqv lt (pvA p i) (pvA p (m-1))) →
  (∀ p' m' q',Bs n p'→m≤m'→m'≤m+f→q'+1≤m'→Zel lt p' m'→(∀ i,m'-(q'+1)≤i→i<m'→Eqv lt (pvA p' i) (pvA p' (m'-1)))→Q (p',m',q') s)→KasT.kasWp cmp (kas_desc f p m q) Q s
 | 0,p,m,q,Q,hp,h1,h2,h3,h4,h5,hq=>by
  rw [kas_desc,KasT.kasWp]
  exact hq p m q hp (Nat.le_refl _) (by omega) h3 h4 h5
 | f+1,p,m,q,Q,hp,h1,h2,h3,h4,h5,hq=>by
  rw [kas_desc,KasT.kasWp]
  refine hc _ _ _ (hp.lt (by omega)) (hp.lt (by omega)) ?_
  have step:∀ (p':Array Nat),Bs n p'→Zel lt p' m→le' lt (pvA p' m) (pvA p' (m-1))→Zel lt p' (m+1):=fun p' hp' h hb i j hij hj=>by
   rcases Nat.lt_or_ge j m with z | z
   ·exact h i j hij z
   ·have e:j=m:=by omega
    subst e
    rcases Nat.lt_or_ge i j with y | y
    ·exact W.trans (hp'.lt (by omega)) (hp'.lt (i:=j-1) (by omega)) (hp'.lt (by omega)) hb (h i (j-1) (by omega) (by omega))
    ·have e:i=j:=by omega
     subst e
     exact W.refl (hp'.lt (by omega))
  cases hb:lt (pvA p m) (pvA p (m-1)) with
  | true =>
   have hle:=W.of_lt (hp.lt (by omega)) (hp.lt (by omega)) hb
   simp only [if_true]
   have one:∀ (p':Array Nat),Bs n p'→∀ i,m+1-(0+1)≤i→i<m+1→Eqv lt (pvA p' i) (pvA p' (m+1-1)):=fun p' hp' i a b=>by
    have e:i=m:=by omega
    subst e
    exact ⟨W.refl (hp'.lt (by omega)),W.refl (hp'.lt (by omega))⟩
   by_cases h0:q > 0
   ·simp only [h0,if_true]
    have hp':=hp.rev (m-(q+1)) m
    have hev:=ZhV W hc hp (i:=m-(q+1)) (j:=m) (by omega) (by omega) h5
    have hni:=Zik W hc hp hp' (k:=m) (by omega) (fun i hi=>hev i hi) h4
    have em:pvA (kas_rev p (m-(q+1)) m) m=pvA p m:=by rw [ZeA (by rw [hp.size];omega),if_neg (by omega)]
    have hle':le' lt (pvA (kas_rev p (m-(q+1)) m) m) (pvA (kas_rev p (m-(q+1)) m) (m-1)):=by
     rw [em]
     exact W.trans (hp.lt (by omega)) (hp.lt (by omega)) (hp'.lt (by omega)) hle (hev (m-1) (by omega)).2
    exact ZgQ f _ (m+1) 0 hp' (by omega) (by omega) (by omega) (step _ hp' hni hle') (one _ hp') fun p2 m2 q2 a b c d e g=>hq p2 m2 q2 a (by omega) (by omega) d e g
   ·simp only [h0,if_false]
    exact ZgQ f _ (m+1) 0 hp (by omega) (by omega) (by omega) (step _ hp h4 hle) (one _ hp) fun p2 m2 q2 a b c d e g=>hq p2 m2 q2 a (by omega) (by omega) d e g
  | false =>
   simp only [Bool.false_eq_true,if_false,KasT.kasWp]
   refine hc _ _ _ (hp.lt (by omega)) (hp.lt (by omega)) ?_
   cases hd:lt (pvA p (m-1)) (pvA p m) with
   | true =>
    simp only [if_true,KasT.kasWp]
    exact hq p m q hp (Nat.le_refl _) (by omega) h3 h4 h5
   | false =>
    simp only [Bool.false_eq_true,if_false]
    refine ZgQ f _ (m+1) (q+1) hp (by omega) (by omega) (by omega) (step _ hp h4 hd) (fun i a b=>?_) fun p2 m2 q2 a b c d e g=>hq p2 m2 q2 a (by omega) (by omega) d e g
    show Eqv lt (pvA p i) (pvA p m)
    rcases Nat.lt_or_ge i m with z | z
    ·have:=h5 i (by omega) z
     exact ⟨W.trans (hp.lt (by omega)) (hp.lt (i:=m-1) (by omega)) (hp.lt (by omega)) this.1 hb,W.trans (hp.lt (by omega)) (hp.lt (i:=m-1) (by omega)) (hp.lt (by omega)) hd this.2⟩
    ·have e:i=m:=by omega
     subst e
     exact ⟨W.refl (hp.lt (by omega)),W.refl (hp.lt (by omega))⟩
theorem Zja {p:Array Nat} {m nr:Nat} {Q:Nat×Array Nat→Shared→Prop} (hp:Bs n p) (h1:1≤m) (h2:m≤nr) (h3:nr≤n) (h4:Zel lt p m)
  (q:∀ m' p',Bs n p'→1≤m'→m'≤nr→Zeo lt p' m'→Q (m',p') s):KasT.kasWp cmp (kas_tail3 m nr p) Q s:=by
 unfold kas_tail3
 rw [KasT.kasWp_bind]
 have hp':=hp.rev 0 m
 refine Zi8 W hc hp' (nr-m) m h1 (by omega) (fun i j hij hj=>?_) fun m' a b c _=>?_
 ·rw [ZeA (by rw [hp.size];omega),ZeA (by rw [hp.size];omega),if_pos (by omega),if_pos (by omega)]
  exact h4 (0+m-1-j) (0+m-1-i) (by omega) (by omega)
 ·rw [KasT.kasWp]
  exact q m' _ hp' (by omega) (by omega) c
theorem Zkc {p:Array Nat} {m nr:Nat} {Q:Nat×Array Nat→Shared→Prop} (hp:Bs n p) (h2:m+1≤nr) (h3:nr≤n) (h4:Zel lt p (m+1))
  (q:∀ m' p',Bs n p'→1≤m'→m'≤nr→Zeo lt p' m'→Q (m',p') s):KasT.kasWp cmp (kas_descPart m nr p) Q s:=by
 unfold kas_descPart
 rw [KasT.kasWp_bind]
 refine ZgQ W hc (nr-(m+1)) p (m+1) 0 hp (by omega) (by omega) (by omega) h4 (fun i a b=>?_) fun p' m' q' a b c d e g=>?_
 ·have e:i=m:=by omega
  subst e
  exact ⟨W.refl (hp.lt (by omega)),W.refl (hp.lt (by omega))⟩
 ·by_cases h0:q' > 0
  ·simp only [h0,if_true]
   exact Zja W hc (a.rev _ _) (by omega) (by omega) h3 (Zik W hc a (a.rev _ _) (by omega) (fun i hi=>ZhV W hc a (by omega) (by omega) g i hi) e) q
  ·simp only [h0,if_false]
   exact Zja W hc a (by omega) (by omega) h3 e q
theorem Zni {p:Array Nat} {Q:Nat×Array Nat→Shared→Prop} (hp:Bs n p) (h1:1≤n) (q:∀ m' p',Bs n p'→1≤m'→m'≤n→Zeo lt p' m'→Q (m',p') s):KasT.kasWp cmp (kas_count n p) Q s:=by
 unfold kas_count
 rw [KasT.kasWp_bind]
 refine Zi8 W hc hp (n-1) 1 (by omega) (by omega) (fun i j hij hj=>?_) fun m a b c d=>?_
 ·have e:i=0:=by omega
  have e2:j=0:=by omega
  subst e e2
  exact W.refl (hp.lt (by omega))
 ·by_cases hm:m=n
  ·subst hm
   simp only [beq_self_eq_true,if_true,KasT.kasWp]
   exact q m p hp a (by omega) c
  ·have hb:(m==n)=false:=by simpa using hm
   have hlt:lt (pvA p m) (pvA p (m-1))=true:=by
    rcases d with d | d
    ·exact absurd (by omega) hm
    ·exact d
   simp only [hb,Bool.false_eq_true,if_false]
   have desc:∀ (p':Array Nat),Bs n p'→(∀ i,i<m→Eqv lt (pvA p' i) (pvA p' (m-1)))→lt (pvA p' m) (pvA p' (m-1))=true→KasT.kasWp cmp (kas_descPart m n p') Q s:=fun p' hp' he hl =>
    Zkc W hc hp' (by omega) (by omega) (fun i j hij hj=>by
     rcases Nat.lt_or_ge j m with z | z
     ·exact W.trans (hp'.lt (by omega)) (hp'.lt (i:=m-1) (by omega)) (hp'.lt (by omega)) (he j z).1 (he i (by omega)).2
     ·have e:j=m:=by omega
      subst e
      rcases Nat.lt_or_ge i j with y | y
      ·exact W.trans (hp'.lt (by omega)) (hp'.lt (i:=j-1) (by omega)) (hp'.lt (by omega)) (W.of_lt (hp'.lt (by omega)) (hp'.lt (by omega)) hl) (he i y).2
      ·have e:i=j:=by omega
       subst e
       exact W.refl (hp'.lt (by omega))) q
   by_cases h1m:m > 1
   ·simp only [h1m,if_true,KasT.kasWp]
    refine hc _ _ _ (hp.lt (by omega)) (hp.lt (by omega)) ?_
    cases hx:lt (pvA p 0) (pvA p (m-1)) with
    | true =>
     simp only [if_true,KasT.kasWp]
     exact q m p hp a (by omega) c
    | false =>
     simp only [Bool.false_eq_true,if_false]
     have hp':=hp.rev 0 m
     have he:∀ i,i<m→Eqv lt (pvA p i) (pvA p (m-1)):=fun i hi=>⟨c i (m-1) (by omega) (by omega),W.trans (hp.lt (by omega)) (hp.lt (i:=0) (by omega)) (hp.lt (by omega)) hx (c 0 i (by omega) hi)⟩
     have hev:=fun k hk=>ZhV W hc hp (i:=0) (j:=m) (by omega) (by omega) (fun k _ hk=>he k hk) k hk
     have em:pvA (kas_rev p 0 m) m=pvA p m:=by rw [ZeA (by rw [hp.size];omega),if_neg (by omega)]
     refine desc _ hp' (fun i hi=>?_) ?_
     ·have x1:=hev i (by omega)
      have x2:=hev (m-1) (by omega)
      have x3:=he i hi
      exact ⟨W.trans (hp'.lt (by omega)) (hp.lt (i:=i) (by omega)) (hp'.lt (by omega)) x1.1 (W.trans (hp.lt (by omega)) (hp.lt (i:=m-1) (by omega)) (hp'.lt (by omega)) x3.1 x2.2),
       W.trans (hp'.lt (by omega)) (hp.lt (i:=m-1) (by omega)) (hp'.lt (by omega)) x2.1 (W.trans (hp.lt (by omega)) (hp.lt (i:=i) (by omega)) (hp'.lt (by omega)) x3.2 x1.2)⟩
     ·rw [em]
      have x2:=hev (m-1) (by omega)
      rcases W.neg (pvA p m) (pvA (kas_rev p 0 m) (m-1)) (pvA p (m-1)) (hp.lt (by omega)) (hp'.lt (by omega)) (hp.lt (by omega)) hlt with z | z
      ·exact z
      ·have:=x2.2;unfold le' at this;rw [z] at this;cases this
   ·have e:m=1:=by omega
    subst e
    simp only [h1m,if_false]
    refine desc p hp (fun i hi=>?_) hlt
    have e:i=0:=by omega
    subst e
    exact ⟨W.refl (hp.lt (by omega)),W.refl (hp.lt (by omega))⟩
theorem Zhp {p:Array Nat} (hp:Bs n p) {k:Nat} (hk:k<n) (hs:Zeo lt p k):∀ (f l r:Nat) {Q:Nat→Shared→Prop},l≤r→r≤k→r≤l+f→(∀ i,i<l→le' lt (pvA p i) (pvA p k))→(∀ i,r≤i→i<k→lt (pvA p k) (pvA p i)=true) →
  (∀ l',l'≤k→(∀ i,i<l'→le' lt (pvA p i) (pvA p k))→(∀ i,l'≤i→i<k→lt (pvA p k) (pvA p i)=true)→Q l' s)→KasT.kasWp cmp (kas_place p k f l r) Q s
 | 0,l,r,Q,h1,h2,h3,h4,h5,q=>by
  rw [kas_place,KasT.kasWp]
  have e:l=r:=by omega
  subst e
  exact q l h2 h4 h5
 | f+1,l,r,Q,h1,h2,h3,h4,h5,q=>by
  rw [kas_place]
  by_cases hlr:l≥r
  ·have e:l=r:=by omega
   subst e
   rw [if_pos hlr,KasT.kasWp]
   exact q l h2 h4 h5
  ·rw [if_neg hlr,KasT.kasWp]
   refine hc _ _ _ (hp.lt hk) (hp.lt (by omega)) ?_
   cases hb:lt (pvA p k) (pvA p ((l+r) / 2)) with
   | true =>
    simp only [if_true]
    refine Zhp hp hk hs f l ((l+r) / 2) (by omega) (by omega) (by omega) h4 (fun i a b=>?_) q
    have hle:=hs ((l+r) / 2) i a b
    rcases W.neg (pvA p k) (pvA p i) (pvA p ((l+r) / 2)) (hp.lt hk) (hp.lt (by omega)) (hp.lt (by omega)) hb with z | z
    ·exact z
    ·unfold le' at hle;rw [z] at hle;cases hle
   | false =>
    simp only [Bool.false_eq_true,if_false]
    refine Zhp hp hk hs f ((l+r) / 2+1) r (by omega) h2 (by omega) (fun i a=>?_) h5 q
    exact W.trans (hp.lt (by omega)) (hp.lt (i:=(l+r) / 2) (by omega)) (hp.lt hk) (hs i ((l+r) / 2) (by omega) (by omega)) hb
theorem Zmj:∀ (f:Nat) (p:Array Nat) (k:Nat) {Q:Array Nat→Shared→Prop},Bs n p→k+f=n→Zeo lt p k→(∀ p',Bs n p'→Zeo lt p' n→Q p' s)→KasT.kasWp cmp (kas_bin f p k) Q s
 | 0,p,k,Q,hp,h1,h2,q=>by
  rw [kas_bin,KasT.kasWp]
  have e:k=n:=by omega
  subst e
  exact q p hp h2
 | f+1,p,k,Q,hp,h1,h2,q=>by
  rw [kas_bin,KasT.kasWp_bind]
  refine Zhp W hc hp (k:=k) (by omega) h2 k 0 k (by omega) (Nat.le_refl _) (by omega) (fun i z=>by omega) (fun i a b=>by omega) fun l a b c=>?_
  refine Zmj f _ (k+1) (hp.bub _ _) (by omega) (fun i j hij hj=>?_) q
  have hkp:k<p.size:=by rw [hp.size];omega
  have hkl:k-(k-l)=l:=by omega
  rw [ZkN hkp (by omega),ZkN hkp (by omega),hkl]
  by_cases hi:i=l
  ·rw [if_pos hi]
   by_cases hj':j=l
   ·rw [if_pos hj'];exact W.refl (hp.lt (by omega))
   ·rw [if_neg hj',if_pos (by omega)]
    exact W.of_lt (hp.lt (by omega)) (hp.lt (by omega)) (c (j-1) (by omega) (by omega))
  ·rw [if_neg hi]
   by_cases hi2:l<i∧i≤k
   ·rw [if_pos hi2,if_neg (by omega),if_pos (by omega)]
    exact h2 (i-1) (j-1) (by omega) (by omega)
   ·rw [if_neg hi2]
    by_cases hj':j=l
    ·rw [if_pos hj'];exact b i (by omega)
    ·rw [if_neg hj']
     by_cases hj2:l<j∧j≤k
     ·rw [if_pos hj2];exact h2 i (j-1) (by omega) (by omega)
     ·rw [if_neg hj2];exact h2 i j hij (by omega)
theorem Zpl {Q:Array Nat→Shared→Prop} (h1:1≤n) (q:∀ p',Bs n p'→Zeo lt p' n→Q p' s):KasT.kasWp cmp (kas_sort n) Q s:=by
 unfold kas_sort
 rw [KasT.kasWp_bind]
 refine Zni W hc (p:=(List.range n).toArray) (Array.Perm.refl _) h1 fun m p' a b c d=>?_
 by_cases hm:m<n
 ·simp only [hm,if_true]
  have e:max m 1=m:=by omega
  rw [e]
  exact Zmj W hc (n-m) p' m a (by omega) d q
 ·have e:m=n:=by omega
  subst e
  simp only [Nat.lt_irrefl,if_false,KasT.kasWp]
  exact q p' a d
end
end L2
set_option Elab.async false
set_option linter.all false
set_option maxRecDepth 100000
namespace L2
open PySem PySem.Spec PyProof.Rows PySem.W
section
variable {X:Cx} {pins:List (Addr×Obj)} {σ:St} {H:Hp} {s:Shared} {N:Fb}
theorem ZrX (I:Inv X pins σ H s) {prog:Program} {w:World} (A:Around) (hu:A.units+40<cLine) (b fin:Bool) {Q:Bool→Shared→Prop}:∀ (xs ys:List D) (vs1 vs2:List V) (us1 us2:List Value) (i:Nat) (r:Bool),ZdS (ltN 5) xs ys=some r →
  DenL X.K N H xs vs1→DenL X.K N H ys vs2→Vals vs1 us1→Vals vs2 us2→fin=decide (xs.length<ys.length) →
  (b=false∨i≠0∨((∀ x,xs.head?=some x→∃ n,x=.int n)∧∀ y,ys.head?=some y→∃ n,y=.int n))→Q r s→KatLex prog w A b fin Q (us1.zip us2) i s:=by
 intro xs
 induction xs with
 | nil =>
  intro ys vs1 vs2 us1 us2 i r h d1 d2 r1 r2 hf hb q
  simp only [DenL] at d1;subst d1;cases r1
  rw [List.zip_nil_left]
  refine kat_nil ?_
  cases ys with
  | nil=>simp only [ZdS] at h;cases h;rw [hf];exact q
  | cons y ys=>simp only [ZdS] at h;cases h;rw [hf];simpa using q
 | cons x xs ih =>
  intro ys vs1 vs2 us1 us2 i r h d1 d2 r1 r2 hf hb q
  simp only [DenL] at d1;obtain ⟨w1,t1,e1,dw1,dt1⟩:=d1;subst e1
  cases r1 with
  | cons rw1 rt1 =>
   cases ys with
   | nil =>
    simp only [DenL] at d2;subst d2;cases r2
    rw [List.zip_nil_right]
    simp only [ZdS] at h;cases h
    refine kat_nil ?_
    rw [hf];simpa using q
   | cons y ys =>
    simp only [DenL] at d2;obtain ⟨w2,t2,e2,dw2,dt2⟩:=d2;subst e2
    cases r2 with
    | cons rw2 rt2 =>
     rw [List.zip_cons_cons]
     simp only [ZdS] at h
     split at h
     ·next ho =>
      rw [Bool.and_eq_true] at ho
      have he:=(ZdY I Z1 A x y _ _ _ _ (by unfold Z1;omega) ho.1 ho.2 dw1.p dw2.p rw1 rw2).2.1
      refine kat_cons ?_
      split at h
      ·next e =>
       rw [e] at he
       refine he prog w _ _ ?_
       show KatGo prog w A b fin Q _ _ _ i true s
       unfold KatGo
       rw [if_pos rfl]
       exact ih ys _ _ _ _ (i+1) r h dt1 dt2 rt1 rt2 (by rw [hf];simp) (.inr (.inl (by omega))) q
      ·next e =>
       rw [Bool.not_eq_true] at e
       rw [e] at he
       refine he prog w _ _ ?_
       refine kat_no ?_
       by_cases hm:(b&&i==0)=true
       ·rw [hm]
        have hm':b=true∧i=0:=by simpa using hm
        rcases hb with z | z | ⟨z1,z2⟩
        ·rw [hm'.1] at z;cases z
        ·exact absurd hm'.2 z
        ·obtain ⟨n1,rfl⟩:=z1 x rfl
         obtain ⟨n2,rfl⟩:=z2 y rfl
         have g1:=dw1.p.int
         have g2:=dw2.p.int
         subst g1 g2
         obtain ⟨k1,rfl⟩:=rw1
         obtain ⟨k2,rfl⟩:=rw2
         simp only [ltN] at h
         cases h
         exact oneLt_int q
       ·rw [Bool.not_eq_true] at hm
        rw [hm]
        refine kat_one _ _ ?_
        exact Zmg I 5 A x y _ _ _ _ r (by unfold Z1;omega) h dw1.p dw2.p rw1 rw2 prog w _ (PySem.W.BoolBack Q) q
     ·cases h
def KMode (b:Bool) (k:D):Prop:=match b with
 | true=>∃ i r,k=.tup (.int i::r)
 | false=>∃ f r,k=.tup (.tup f::r)
theorem KMode.tup {b:Bool} {k:D} (h:KMode b k):∃ f r,k=.tup (f::r):=by
 cases b with
 | true=>obtain ⟨i,r,e⟩:=h;exact ⟨_,_,e⟩
 | false=>obtain ⟨i,r,e⟩:=h;exact ⟨_,_,e⟩
theorem ZpA (I:Inv X pins σ H s) {prog:Program} {w:World} (A:Around) (hu:A.units+40<cLine) (b r:Bool) {k1 k2:D} {v1 v2:V} {u1 u2:Value} {Q:Bool→Shared→Prop} {E:Value→Shared→Prop} (h:ltN 6 k1 k2=some r) (m1:KMode b k1) (m2:KMode b k2)
  (d1:Den X.K N H k1 v1) (d2:Den X.K N H k2 v2) (r1:RelV v1 u1) (r2:RelV v2 u2) (q:Q r s):wpAny (model prog w) A (keyLt' (tuples' b) u1 u2) Q E s:=by
 obtain ⟨f1,g1,e1⟩:=m1.tup
 obtain ⟨f2,g2,e2⟩:=m2.tup
 subst e1 e2
 simp only [Den] at d1 d2
 obtain ⟨a1,vs1,e1,q1,dl1⟩:=d1
 obtain ⟨a2,vs2,e2,q2,dl2⟩:=d2
 subst e1 e2
 cases r1
 cases r2
 obtain ⟨its1,rv1,p1,_⟩:=I.tuple q1
 obtain ⟨its2,rv2,p2,_⟩:=I.tuple q2
 obtain ⟨o1,ho1,_,n1,hd1⟩:=p1
 obtain ⟨o2,ho2,_,n2,hd2⟩:=p2
 refine kat_lt ho1 hd1 ho2 hd2 ?_
 have l1:=dl1.length
 have l2:=dl2.length
 have l3:=rv1.length
 have l4:=rv2.length
 have:=ZrX I (prog:=prog) (w:=w) (N:=N) A hu b (decide (its1.toArray.size<its2.toArray.size)) (Q:=Q) (f1::g1) (f2::g2) vs1 vs2 its1 its2 0 r h dl1 dl2 rv1 rv2 (by rw [List.size_toArray,List.size_toArray,← l3,← l4,← l1,← l2]) (by
  cases b with
  | false=>exact .inl rfl
  | true =>
   obtain ⟨i1,_,e1⟩:=m1
   obtain ⟨i2,_,e2⟩:=m2
   cases e1
   cases e2
   exact .inr (.inr ⟨fun x hx=>by cases hx;exact ⟨_,rfl⟩,fun x hx=>by cases hx;exact ⟨_,rfl⟩⟩)) q
 simpa using this
theorem Znh (I:Inv X pins σ H s) {M:Model} (b:Bool):∀ (ks:List D) (kvs:List V) (us:List Value),DenL X.K N H ks kvs→Vals kvs us→(∀ k∈ks,KMode b k) →
  ∃ fs,KatTups s.heap us fs∧fs.length=us.length∧∀ v∈fs,Looks M s.heap (typeOf v) (.type (if b then "int" else "tuple")):=by
 intro ks
 induction ks with
 | nil =>
  intro kvs us d r _
  simp only [DenL] at d;subst d;cases r
  exact ⟨[],KatTups.nil,rfl,fun _ h=>nomatch h⟩
 | cons k ks ih =>
  intro kvs us d r hm
  simp only [DenL] at d;obtain ⟨v,t,e,dv,dt⟩:=d;subst e
  cases r with
  | cons rv rt =>
   obtain ⟨fs,h1,h2,h3⟩:=ih t _ dt rt fun k hk=>hm k (List.mem_cons_of_mem _ hk)
   have m:=hm k List.mem_cons_self
   obtain ⟨f,g,e⟩:=m.tup
   subst e
   simp only [Den] at dv
   obtain ⟨a,vs,e,q,dl⟩:=dv
   subst e
   cases rv
   obtain ⟨its,rv1,⟨o,ho,hc,n,hd⟩,_⟩:=I.tuple q
   obtain ⟨w,vs',e,dw,_⟩:=dl
   subst e
   cases rv1 with
   | cons rw1 rt1 =>
    rename_i u us'
    refine ⟨u::fs,KatTups.cons ho hc hd (by simp) h1,by simp [h2],fun v hv=>?_⟩
    rcases List.mem_cons.mp hv with e | hv
    ·subst e
     intro A Q E s' hk hq
     cases b with
     | true =>
      obtain ⟨i,_,e⟩:=m
      cases e
      have g:=dw.p.int
      subst g
      obtain ⟨t,rfl⟩:=rw1
      exact wpAny_typeOf (T:="int") rfl hq
     | false =>
      obtain ⟨i,_,e⟩:=m
      cases e
      simp only [Den] at dw
      obtain ⟨a2,vs2,e,q2,_⟩:=dw
      subst e
      cases rw1
      obtain ⟨_,_,⟨o2,ho2,hc2,_⟩,_⟩:=I.tuple q2
      exact wpAny_typeOf (T:="tuple") ⟨o2,hk _ _ ho2,hc2⟩ hq
    ·exact h3 v hv
structure Off (X:Cx) (pins:List (Addr×Obj)) (a:Addr):Prop where
 nL:a≠X.env.locals
 s0:X.s₀.heap.objs.size≤a
 cl:∀ x c,X.env.cells.lookup x=some c→c≠a
 pn:∀ p∈X.pn++pins,p.1≠a
 nf:a∉X.fs
theorem Inv.off (I:Inv X pins σ H s) {a:Addr} (h:s.heap.objs.size≤a):Off X pins a where
 nL:=fun e=>by have h2:=I.lt;rw [← e] at h2;exact absurd (Nat.lt_of_lt_of_le h2 h) (Nat.lt_irrefl _)
 s0:=Nat.le_trans I.sz h
 cl:=fun x c e z=>by
  obtain ⟨v,o,ho,_⟩:=I.cell x c e
  have h2:=Heap.lt_size ho
  rw [z] at h2
  exact absurd (Nat.lt_of_lt_of_le h2 h) (Nat.lt_irrefl _)
 pn:=fun p hp z=>by
  have h2:=Heap.lt_size (I.pin p hp).1
  rw [z] at h2
  exact absurd (Nat.lt_of_lt_of_le h2 h) (Nat.lt_irrefl _)
 nf:=I.nofs h
theorem Inv.pin1 {a:Addr} {o:Obj} (I:Inv X pins σ H s) (hH:H a=none) (f:Off X pins a) (e:s.heap.get? a=some o) (hc:∀ v,o.data≠.cell v):Inv X (pins++[(a,o)]) σ H s :=
 I.pins_of fun p hp=>by
  rcases List.mem_append.mp hp with hp | hp
  ·exact I.pin p (List.mem_append_right _ hp)
  ·simp only [List.mem_singleton] at hp;subst hp;exact ⟨e,hH,f.nL,f.nf,hc⟩
theorem Inv.catch {a:Addr} {its:List Value} {n:Nat} {vs:List V} (I:Inv X pins σ H s) (hH:H a=none) (f:Off X pins a) (e:s.heap.get? a=some { cls:=.type "list",data:=.seq its.toArray n }) (hv:Vals vs its) (hz:vs.length≤sizeLine):Inv X pins σ (upd H a (.lst vs)) s:=by
 have ne:∀ b u,H b=some u→b≠a:=fun b u q z=>by rw [z,hH] at q;cases q
 have:=I.step (h':=s.heap) (g':=s.gens) (d':=s.drawn) (t':=s.toks) (ch:=[a]) (H':=upd H a (.lst vs)) (fun b hb=>by
   have e:b=a:=by simpa using hb
   subst e
   exact ⟨.inr f.s0,f.nL,f.cl,f.pn⟩) (fun b o _ _ _ q _=>q) (fun b o _ _ _ q _=>⟨o.slots,q⟩) (fun b o hb _ n=>by rw [ZG (fun z=>hb (by simp [z]))];exact n) (fun b o _ q=>⟨o,q⟩)
  (fun b xs q=>by rw [ZG (ne _ _ q)];exact q) (fun b o u q=>by rw [ZG (ne _ _ q)];exact q) (fun b ps q=>⟨#[],by rw [ZG (ne _ _ q),q];simp⟩) (fun m hm=>hm) (fun b u q=>by
   by_cases hb:b=a
   ·subst hb
    rw [ZaJ] at q
    cases q
    exact ⟨hz,its,n,hv,e⟩
   ·rw [ZG hb] at q
    exact (I.hok b u q).stay (fun c v _ r=>r) (fun c r=>by rw [ZG (ne _ _ r)];exact r) fun c xs r=>by rw [ZG (ne _ _ r)];exact r) I.bare
 exact this
end
end L2
set_option Elab.async false
set_option linter.all false
set_option maxRecDepth 100000
namespace L2
open PySem PySem.Spec PyProof.Rows PySem.W
def Za7 (F:List Sl→Option Rv) (x:D):D:=((F [.val x]).map rvD).getD .non
def ltF (F:List Sl→Option Rv) (x y:D):Bool:=match ltN 6 (Za7 F x) (Za7 F y) with
 | some true=>true
 | _=>false
theorem ZjC {F:List Sl→Option Rv} {x y:D} {r:Bool} (h:ltN 6 (Za7 F x) (Za7 F y)=some r):ltF F x y=r:=by
 unfold ltF;rw [h];cases r<;>rfl
structure SortOk (F:List Sl→Option Rv) (xs:List D):Prop where
 few:xs.length<64
 tells:∀ x∈xs,∃ r,F [.val x]=some r
 mode:∃ b,∀ x∈xs,KMode b (Za7 F x)
 cmp:∀ x∈xs,∀ y∈xs,∃ r,ltN 6 (Za7 F x) (Za7 F y)=some r
 asym:∀ x∈xs,∀ y∈xs,ltF F x y=true→ltF F y x=false
 neg:∀ x∈xs,∀ y∈xs,∀ z∈xs,ltF F x z=true→ltF F x y=true∨ltF F y z=true
 anti:∀ x∈xs,∀ y∈xs,ltF F x y=false→ltF F y x=false→x=y
def ZeP (lt:D→D→Bool) (x:D):List D→List D
 | []=>[x]
 | y::r=>if lt x y then x::y::r else y::ZeP lt x r
def ZcH (lt:D→D→Bool):List D→List D
 | []=>[]
 | x::r=>ZeP lt x (ZcH lt r)
theorem Zgr (lt:D→D→Bool) (x:D):∀ l,(ZeP lt x l).Perm (x::l)
 | []=>.refl _
 | y::r=>by
  unfold ZeP
  split
  ·exact .refl _
  ·exact ((Zgr lt x r).cons y).trans (.swap x y r)
theorem Zed (lt:D→D→Bool):∀ l,(ZcH lt l).Perm l
 | []=>.refl _
 | x::r=>(Zgr lt x _).trans ((Zed lt r).cons x)
theorem ZiJ {F:List Sl→Option Rv} {xs:List D} (h:SortOk F xs) {x:D} (hx:x∈xs):∀ l:List D,(∀ y∈l,y∈xs)→l.Pairwise (fun a b=>ltF F b a=false)→(ZeP (ltF F) x l).Pairwise fun a b=>ltF F b a=false
 | [],_,_=>by simp [ZeP]
 | y::r,hm,hp=>by
  obtain ⟨h1,h2⟩:=List.pairwise_cons.mp hp
  have hy:=hm y List.mem_cons_self
  unfold ZeP
  split
  ·next hl =>
   refine List.pairwise_cons.mpr ⟨fun z hz=>?_,hp⟩
   rcases List.mem_cons.mp hz with e | hz
   ·subst e;exact h.asym x hx z hy hl
   ·cases hc:ltF F z x with
    | false=>rfl
    | true =>
     rcases h.neg z (hm z (List.mem_cons_of_mem _ hz)) y hy x hx hc with q | q
     ·rw [h1 z hz] at q;cases q
     ·rw [h.asym x hx y hy hl] at q;cases q
  ·next hl =>
   rw [Bool.not_eq_true] at hl
   refine List.pairwise_cons.mpr ⟨fun z hz=>?_,ZiJ h hx r (fun z hz=>hm z (List.mem_cons_of_mem _ hz)) h2⟩
   rcases List.mem_cons.mp ((Zgr (ltF F) x r).subset hz) with e | hz
   ·subst e;exact hl
   ·exact h1 z hz
theorem Ziy {F:List Sl→Option Rv} {xs:List D} (h:SortOk F xs):∀ l:List D,(∀ y∈l,y∈xs)→(ZcH (ltF F) l).Pairwise fun a b=>ltF F b a=false
 | [],_=>.nil
 | x::r,hm=>ZiJ h (hm x List.mem_cons_self) _ (fun y hy=>hm y (List.mem_cons_of_mem _ ((Zed _ r).subset hy))) (Ziy h r fun y hy=>hm y (List.mem_cons_of_mem _ hy))
noncomputable def ZhJ (F:List Sl→Option Rv) (xs:List D):Option (List D):=gd (SortOk F xs) (some (ZcH (ltF F) xs))
theorem SortOk.same {F:List Sl→Option Rv} {xs ys:List D} (h:SortOk F xs) (hp:ys.Perm xs) (hs:ys.Pairwise fun a b=>ltF F b a=false):ys=ZcH (ltF F) xs :=
 List.Perm.eq_of_pairwise (le:=fun a b=>ltF F b a=false) (fun a b ha hb h1 h2=>h.anti a (hp.subset ha) b ((Zed _ xs).subset hb) h2 h1) hs (Ziy h xs fun _ hy=>hy) (hp.trans (Zed _ xs).symm)
theorem ZmS {F:List Sl→Option Rv} {xs:List D} (h:SortOk F xs):ZhJ F xs=some (ZcH (ltF F) xs):=Zhz h
theorem ZnA {F:List Sl→Option Rv} {xs ys:List D} (h:ZhJ F xs=some ys):SortOk F xs∧ys=ZcH (ltF F) xs:=by
 unfold ZhJ gd at h
 split at h
 ·next hh=>cases h;exact ⟨hh,rfl⟩
 ·cases h
section
variable {X:Cx} {pins:List (Addr×Obj)} {σ:St} {H:Hp} {s:Shared} {N:Fb}
theorem Zj2 {K:PySem.W.Frag} {ds:List D} {vs:List V} (h:DenL K N H ds vs):∀ (js:List Nat),(∀ j∈js,j<ds.length)→DenL K N H (js.map fun j=>ds.getD j .non) (js.map fun j=>vs.getD j .non)
 | [],_=>DenL.nil
 | j::js,hj=>by
  have hl:=hj j List.mem_cons_self
  obtain ⟨v,e,d⟩:=h.get (List.getElem?_eq_getElem hl)
  refine DenL.cons ?_ (Zj2 h js fun k hk=>hj k (List.mem_cons_of_mem _ hk))
  have e1:ds.getD j .non=ds[j]:=by simp [List.getD,hl]
  have e2:vs.getD j .non=v:=by simp [List.getD,e]
  show Den K N H (ds.getD j .non) (vs.getD j .non)
  rw [e1,e2];exact d
theorem Zeb {vs:List V} {us:List Value} (h:Vals vs us):∀ (js:List Nat),Vals (js.map fun j=>vs.getD j .non) (js.map fun j=>us.getD j .none)
 | []=>.nil
 | j::js=>by
  refine .cons ?_ (Zeb h js)
  induction h generalizing j with
  | nil=>simp;rfl
  | cons a _ ih =>
   cases j with
   | zero=>simpa using a
   | succ j=>simpa using ih j
theorem Znl (I:Inv X pins σ H s) {prog:Program} {w:World} (A:Around) (hu:A.units+40<cLine) {E:Value→Shared→Prop} {F:List Sl→Option Rv} {ds:List D} (h:SortOk F ds) {kvs:List V} {us items:List Value}
  (d:DenL X.K N H (ds.map (Za7 F)) kvs) (r:Vals kvs us) (hi:items.length=ds.length) {a:Addr} {e1:Nat} {kS:Value} {P:PySem.Fin→Shared→Prop}
  (q:∀ (p:List Nat) (st:SortSt),p.Perm (List.range ds.length)→(p.map fun j=>ds.getD j .non)=ZcH (ltF F) ds→Array.map (fun x=>x.2) (arrOf st)=(p.map fun j=>items.getD j .none).toArray→failedOf st=none→wpAny (model prog w) A (ksk_tail a false e1 kS st) P E s) :
  wpAny (model prog w) A (ksk_end a false items.toArray e1 kS us.toArray) P E s:=by
 unfold ksk_end
 simp only [Bool.false_eq_true,if_false]
 have l1:=d.length
 have l2:=r.length
 rw [List.length_map] at l1
 by_cases h2:items.toArray.size<2
 ·rw [if_pos h2]
  simp only [h2,if_true]
  have hz:us.length=items.length:=by omega
  rw [List.size_toArray] at h2
  refine wpAny_bind (wpAny_pure ?_)
  refine wpAny_bind ?_
  show wpAny _ _ (pure ((),SortSt.mk' general' (us.toArray.zip items.toArray) #[] 7 none)) _ _ _
  refine wpAny_pure ?_
  refine q (List.range ds.length) (SortSt.mk' general' (us.toArray.zip items.toArray) #[] 7 none) (.refl _) ?_ ?_ rfl
  ·have e:(List.range ds.length).map (fun j=>ds.getD j .non)=ds:=by
    apply List.ext_getElem?
    intro i
    by_cases hi:i<ds.length
    ·simp [hi]
    ·simp [hi]
   rw [e]
   refine h.same (.refl _) ?_
   match ds,hi with
   | [],_=>exact .nil
   | [a],_=>exact List.pairwise_singleton _ _
   | a::b::c,hi=>simp at hi;omega
  ·show Array.map (fun x=>x.2) (us.toArray.zip items.toArray)=_
   have e:(List.range ds.length).map (fun j=>items.getD j .none)=items:=by
    rw [← hi]
    apply List.ext_getElem?
    intro i
    by_cases hi:i<items.length
    ·simp [hi]
    ·simp [hi]
   rw [e]
   rw [List.zip_toArray,List.map_toArray]
   congr 1
   exact List.map_snd_zip (by omega)
 ·rw [if_neg h2]
  simp only [h2,if_false]
  rw [List.size_toArray] at h2
  obtain ⟨b,hb⟩:=h.mode
  obtain ⟨fs,k1,k2,k3⟩:=Znh I (M:=model prog w) b (ds.map (Za7 F)) kvs us d r fun k hk=>by
   obtain ⟨x,hx,rfl⟩:=List.mem_map.mp hk
   exact hb x hx
  refine wpAny_bind (kat_kind k1 (by omega) k3 (by cases b<;>rfl) ?_)
  have em:(Value.type (if b=true then "int" else "tuple") != Value.type "tuple")=b:=by cases b<;>rfl
  rw [em]
  have hz:us.length=items.length:=by omega
  have hsz:(us.toArray.zip items.toArray).size=ds.length:=by simp;omega
  have hr:=kas_range (us.toArray.zip items.toArray)
  rw [hsz] at hr
  have hst:SortSt.mk' (tuples' b) (us.toArray.zip items.toArray) #[] 7 none=kas_st (tuples' b) (us.toArray.zip items.toArray) (List.range ds.length).toArray:=by
   unfold kas_st;rw [hr]
  refine wpAny_bind ?_
  rw [hst]
  have W:WO (fun i j=>ltF F (ds.getD i .non) (ds.getD j .non)) ds.length:=by
   have mem:∀ i,i<ds.length→ds.getD i .non∈ds:=fun i hi=>by
    have e1:ds.getD i .non=ds[i]:=by simp [List.getD,hi]
    rw [e1];exact List.getElem_mem hi
   exact ⟨fun a b ha hb hl=>h.asym _ (mem a ha) _ (mem b hb) hl,fun a b c ha hb hc hl=>h.neg _ (mem a ha) _ (mem b hb) _ (mem c hc) hl⟩
  have hc:∀ i j (C:Bool→Shared→Prop),i<ds.length→j<ds.length→C (ltF F (ds.getD i .non) (ds.getD j .non)) s→kas_cmp prog w A (tuples' b) (us.toArray.zip items.toArray) i j C s:=fun i j C hi' hj' hq=>by
   unfold kas_cmp
   rw [kat_item hz,kat_item hz]
   have mem:∀ i,i<ds.length→ds.getD i .non∈ds:=fun i hi=>by
    have e1:ds.getD i .non=ds[i]:=by simp [List.getD,hi]
    rw [e1];exact List.getElem_mem hi
   obtain ⟨rr,hrr⟩:=h.cmp _ (mem i hi') _ (mem j hj')
   rw [ZjC hrr] at hq
   have den:∀ i,i<ds.length→∃ v,Den X.K N H (Za7 F (ds.getD i .non)) v∧RelV v (us.getD i .none):=fun i hi=>by
    have e1:ds.getD i .non=ds[i]:=by simp [List.getD,hi]
    obtain ⟨v,ev,dv⟩:=d.get (i:=i) (d:=Za7 F ds[i]) (by simp [hi])
    refine ⟨v,by rw [e1];exact dv,?_⟩
    have:=Zeb r [i]
    cases this with
    | cons a _ =>
     have e2:kvs.getD i .non=v:=by simp [List.getD,ev]
     rw [← e2]
     exact a
   obtain ⟨v1,dv1,rv1⟩:=den i hi'
   obtain ⟨v2,dv2,rv2⟩:=den j hj'
   exact ZpA I A hu b rr hrr (hb _ (mem i hi')) (hb _ (mem j hj')) dv1 dv2 rv1 rv2 hq
  refine kas_runs (Q:=fun _ st s'=>wpAny (model prog w) A (ksk_tail a false e1 kS st) P E s') (G:=fun p s'=>s'=s∧Bs ds.length p∧Zeo (fun i j=>ltF F (ds.getD i .non) (ds.getD j .non)) p ds.length) (by omega) h.few (fun p st s' hp ha hf hg=>?_) (Zpl W hc (by omega) fun p a b=>⟨rfl,a,b⟩)
  obtain ⟨rfl,hB,hS⟩:=hg
  have hperm:p.toList.Perm (List.range ds.length):=by
   have:=hB.toList
   simpa using this
  refine q p.toList st hperm ?_ (kat_snds hz ha) hf
  refine h.same ?_ ?_
  ·have e:(List.range ds.length).map (fun j=>ds.getD j .non)=ds:=by
    apply List.ext_getElem?
    intro i
    by_cases hi:i<ds.length
    ·simp [hi]
    ·simp [hi]
   have:=hperm.map fun j=>ds.getD j .non
   rw [e] at this
   exact this
  ·rw [List.pairwise_map]
   rw [List.pairwise_iff_getElem]
   intro i j hi hj hij
   have hsz':=hB.size
   have:=hS i j (by omega) (by simp at hj;omega)
   unfold le' pvA at this
   simp at hi hj
   simpa [Array.getD,hi,hj] using this
end
end L2
set_option Elab.async false
set_option linter.all false
set_option maxRecDepth 100000
namespace L2
open PySem PySem.Spec PyProof.Rows PySem.W
section
variable {X:Cx} {pins:List (Addr×Obj)} {σ:St} {H:Hp} {s:Shared} {N:Fb}
abbrev lob (its:List Value) (n:Nat):Obj:={ cls:=.type "list",data:=.seq its.toArray n }
theorem Inv.rawset {a:Addr} {its its':List Value} {n:Nat} {f:Array Value→Array Value} (I:Inv X pins σ H s) (hH:H a=none) (o:Off X pins a) (e:s.heap.get? a=some (lob its n)) (hf:f its.toArray=its'.toArray) :
  ∃ n',(s.heap.update a (Obj.mapSeq f)).get? a=some (lob its' n')∧Inv X pins σ H { s with heap:=s.heap.update a (Obj.mapSeq f) }:=by
 have q:=PySem.IsL.update e f
 rw [hf] at q
 exact ⟨_,q,I.turned (t':=s.toks) (fun b u hb hu=>(Heap.get?_update_other s.heap (Obj.mapSeq f) (Ne.symm hb)).trans hu) hH o.nL (.inr o.s0) o.cl o.pn⟩
theorem Zho (its:List Value) (n:Nat) (v:Option Value):(lob its n).data≠.cell v:=nofun
theorem Off.more {a b:Addr} {o:Obj} (f:Off X pins a) (h:b≠a):Off X (pins++[(b,o)]) a :=
 ⟨f.nL,f.s0,f.cl,fun p hp=>by
  rw [← List.append_assoc] at hp
  rcases List.mem_append.mp hp with hp | hp
  ·exact f.pn p hp
  ·simp only [List.mem_singleton] at hp;subst hp;exact h,f.nf⟩
theorem Inv.pinGet {a:Addr} {o:Obj} (I:Inv X pins σ H s) (h:(a,o)∈pins):s.heap.get? a=some o∧H a=none:=⟨(I.pin _ (List.mem_append_right _ h)).1,(I.pin _ (List.mem_append_right _ h)).2.1⟩
theorem ZnF {prog:Program} {w:World} (A:Around) {D kS:Addr} {e1 e2:Nat} {us out:List Value} {vs:List V} {E:Value→Shared→Prop} {P:PySem.Fin→Shared→Prop} {st:SortSt} (I:Inv X (pins++[(D,lob [] e1)]++[(kS,lob us e2)]) σ H s)
  (fD:Off X pins D) (fK:Off X pins kS) (ne:D≠kS) (hus:us.length≤sizeLine) (hst:Array.map (fun x=>x.2) (arrOf st)=out.toArray) (hf:failedOf st=none) (hv:Vals vs out) (hz:vs.length≤sizeLine)
  (q:∀ s',Inv X pins σ (upd H D (.lst vs)) s'→P (.done (.ret .none)) s'):wpAny (model prog w) A (ksk_tail D false e1 (.ref kS) st) P E s:=by
 obtain ⟨gk,hk⟩:=I.pinGet (a:=kS) (List.mem_append_right _ List.mem_cons_self)
 obtain ⟨gd',hd⟩:=I.pinGet (a:=D) (List.mem_append_left _ (List.mem_append_right _ List.mem_cons_self))
 have I1:Inv X (pins++[(D,lob [] e1)]) σ H s:=I.unpinned
 obtain ⟨n2,g2,I2⟩:=I1.rawset (f:=fun _=>#[]) (its':=[]) hk (fK.more ne) gk rfl
 unfold ksk_tail
 refine wpAny_bind (listUpdate_at gk rfl ?_ (by simpa using hus) (by simp))
 refine wpAny_bind (wpAny_letGo ?_)
 obtain ⟨gd2,_⟩:=I2.pinGet (a:=D) (List.mem_append_right _ List.mem_cons_self)
 refine wpAny_bind (seqEpoch_at gd2 rfl ?_)
 have I3:Inv X pins σ H _:=I2.unpinned
 have hol:out.length≤sizeLine:=by rw [← hv.length];exact hz
 obtain ⟨n3,g3,I4⟩:=I3.rawset (f:=fun _=>out.toArray) (its':=out) hd fD gd2 rfl
 simp only [Bool.false_eq_true,if_false,hst]
 refine wpAny_bind (listUpdate_at gd2 rfl ?_ (by simp) (by simp;omega))
 have hb:(e1 != e1)=false:=by simp
 rw [hf]
 simp only [hb,Bool.false_eq_true,if_false]
 exact wpAny_pure (q _ (I4.catch hd fD g3 hv hz))
variable {k:Nat} {fn:Addr} {fd:FuncData} {ps:List Str} {F:List Sl→Option Rv}
theorem Zop (Fo:FnOk X.prog X.w X.K X.mg X.base CX0 k fn fd ps (spD X.K F)) (hb:Binds X.K fd ps []) (I:Inv X pins σ H s) (A:Around) (hr:Room k A) (e0:Env0 X.prog X.w X.K X.mg X.base A X.stack s H) (nh:∀ a,N a→H a≠none) {x:D} {v:V} {u:Value} (d:Den X.K N H x v) (rv:RelV v u) {r:Rv} (hF:F [.val x]=some r)
  {E:Value→Shared→Prop} {Q:Value→Shared→Prop} (q:∀ u' s' v' H',Inv X pins σ H' s'→Same H H'→Den X.K N H' (Za7 F x) v'→RelV v' u'→Q u' s'):wpAny (model X.prog X.w) A (call (.ref fn) [u]) Q E s:=by
 have hsp:spD X.K F [v] H (fun v' H'=>Same H H'∧Den X.K N H' (Za7 F x) v') E0:=by
  refine ⟨N,[.val x],r,nh,?_,hF,fun v' H' hs ho=>⟨hs,?_⟩⟩
  ·exact ⟨v,[],rfl,d,rfl⟩
  ·have e:Za7 F x=rvD r:=by unfold Za7;rw [hF];rfl
   rw [e]
   cases r with
   | val y=>exact ho
   | own ys fl =>
    obtain ⟨a,ws,e1,z1,z2,z3⟩:=ho
    simp only [rvD,Den]
    exact ⟨a,ws,e1,.of (fun z=>nh a z z1) z2,z3.nw fun b hb=>.inl (.inl hb)⟩
 have hl:([u]:List Value).length=ps.length:=by
  have:=Fo.len _ _ _ _ hsp
  simpa using this
 refine wpAny_call (codeAny_mono (Fo.run A X.stack s H ⟨[u],[]⟩ [u] [v] _ E0 hr e0 (by simpa using hb s [u] I.kIn (by simpa using hl)) (.cons rv .nil) hsp) fun r s' hq=>?_)
 cases r with
 | error e=>exact False.elim hq
 | ok fl =>
  cases fl with
  | ret u' =>
   obtain ⟨v',H',I',rv',hs,hd⟩:=I.after hq
   exact q u' s' v' H' I' hs hd rv'
  | next=>exact False.elim hq
  | brk=>exact False.elim hq
  | cont=>exact False.elim hq
theorem Same.none {H H':Hp} (h:Same H H') {a:Addr} (e:H' a=none):H a=none:=by
 cases q:H a with
 | none=>rfl
 | some o=>rw [h a o q] at e;cases e
theorem ZmJ (Fo:FnOk X.prog X.w X.K X.mg X.base CX0 k fn fd ps (spD X.K F)) (hb:Binds X.K fd ps []) (A:Around) (hr:Room k A) (hu:A.units+40<cLine) (hA:∀ s H,Env0 X.prog X.w X.K X.mg X.base X.A X.stack s H→Env0 X.prog X.w X.K X.mg X.base A X.stack s H)
  {da kS:Addr} {e1 e0:Nat} (I:Inv X (pins++[(da,lob [] e1)]++[(kS,lob [] e0)]) σ H s) (nh:∀ a,N a→H a≠none) {items:List Value} {xs:List V} {ds:List D} (fD:Off X pins da) (fK:Off X pins kS) (ne:da≠kS) (rv:Vals xs items) (dn:DenL X.K N H ds xs) (ok:SortOk F ds)
  {E:Value→Shared→Prop} {P:PySem.Fin→Shared→Prop} (q:∀ s' H' vs,Inv X pins σ (upd H' da (.lst vs)) s'→Same H H'→H' da=none→DenL X.K N H' (ZcH (ltF F) ds) vs→P (.done (.ret .none)) s') :
  wpAny (model X.prog X.w) A (ksk_rest da (.ref fn) false items.toArray e1 (.ref kS)) P E s:=by
 have l1:=dn.length
 have l2:=rv.length
 have few:=ok.few
 have hsl:sizeLine=16777216:=sizeLine_eq
 unfold ksk_rest
 refine wpAny_bind (wpAny_rule ?_)
 refine wpAny_bind (wpAny_forIn_array' _ (fun ZE _ s'=>∃ (done:List Value) (H':Hp) (us:List Value) (kvs:List V) (e2:Nat),items=done++ZE∧us.length=done.length∧Inv X (pins++[(da,lob [] e1)]++[(kS,lob us e2)]) σ H' s'∧Same H H'∧Vals kvs us∧DenL X.K N H' ((ds.take done.length).map (Za7 F)) kvs) _ ?_ ?_ items.toArray PUnit.unit ?_)
 ·rintro u ZE b s1 ⟨done,H1,us,kvs,e2,hi,hl,I1,sm,rk,dk⟩
  have hdl:done.length<ds.length:=by
   have:=congrArg List.length hi
   simp at this
   omega
  have hx:ds[done.length]?=some ds[done.length]:=List.getElem?_eq_getElem hdl
  generalize ds[done.length]=x at hx
  obtain ⟨v,hv,dv⟩:=dn.get hx
  have ru:RelV v u:=by
   have:=Zeb rv [done.length]
   cases this with
   | cons a _ =>
    have e1:xs.getD done.length .non=v:=by simp [List.getD,hv]
    have e2:items.getD done.length .none=u:=by rw [hi];simp [List.getD]
    rw [← e1,← e2];exact a
  obtain ⟨r,hF⟩:=ok.tells x (List.mem_of_getElem? hx)
  refine wpAny_bind (wpAny_attempt ?_)
  refine Zop (N:=N) Fo hb I1 A hr (hA _ _ I1.env0) (fun a ha z=>nh a ha (sm.none z)) (dv.same sm) ru hF fun u' s2 v' H2 I2 sm2 dv2 rv2=>?_
  obtain ⟨gk,hk⟩:=I2.pinGet (a:=kS) (List.mem_append_right _ List.mem_cons_self)
  have I3:Inv X (pins++[(da,lob [] e1)]) σ H2 s2:=I2.unpinned
  obtain ⟨n3,g3,I4⟩:=I3.rawset (f:=fun x=>x.push u') (its':=us++[u']) hk (fK.more ne) gk (by simp)
  refine wpAny_bind (listUpdate_at gk rfl ?_ (by simp;omega) (by simp;omega))
  refine wpAny_pure ?_
  refine ⟨done++[u],H2,us++[u'],kvs++[v'],n3,by rw [hi];simp,by simp [hl],I4.pin1 hk (fK.more ne) g3 (Zho _ _),sm.trans sm2,rk.append (.cons rv2 .nil),?_⟩
  have e:(ds.take (done++[u]).length).map (Za7 F)=(ds.take done.length).map (Za7 F)++[Za7 F x]:=by
   rw [List.length_append,List.length_singleton,List.take_succ,hx]
   simp
  rw [e]
  exact (dk.same sm2).append (DenL.cons dv2 DenL.nil)
 ·rintro b s1 ⟨done,H1,us,kvs,e2,hi,hl,I1,sm,rk,dk⟩
  rw [List.append_nil] at hi
  subst hi
  obtain ⟨gk,hk⟩:=I1.pinGet (a:=kS) (List.mem_append_right _ List.mem_cons_self)
  obtain ⟨gd',hd⟩:=I1.pinGet (a:=da) (List.mem_append_left _ (List.mem_append_right _ List.mem_cons_self))
  refine wpAny_bind (listItems_at gk rfl ?_)
  have ht:ds.take items.length=ds:=List.take_of_length_le (by omega)
  rw [ht] at dk
  refine Znl (N:=N) I1 A hu ok dk rk (by omega) fun p st hp hs ha hf=>?_
  have hpl:p.length=ds.length:=by have:=hp.length_eq;simpa using this
  refine ZnF A I1 fD fK ne (by omega) ha hf (Zeb rv p) (by rw [List.length_map];omega) fun s' J=>?_
  refine q s' H1 _ J sm hd ?_
  rw [← hs]
  exact Zj2 (dn.same sm) p fun j hj=>by have:=hp.subset hj;simpa using this
 ·exact ⟨[],H,[],[],e0,by simp,rfl,I,Same.refl H,.nil,DenL.nil⟩
theorem Zm8 (Fo:FnOk X.prog X.w X.K X.mg X.base CX0 k fn fd ps (spD X.K F)) (hb:Binds X.K fd ps []) (A:Around) (hr:Room k A) (hu:A.units+40<cLine) (hA:∀ s H,Env0 X.prog X.w X.K X.mg X.base X.A X.stack s H→Env0 X.prog X.w X.K X.mg X.base A X.stack s H)
  (I:Inv X pins σ H s) (nh:∀ a,N a→H a≠none) {da:Addr} {items:List Value} {n0:Nat} {xs:List V} {ds:List D} (g:s.heap.get? da=some (lob items n0)) (hD:H da=none) (fD:Off X pins da) (rv:Vals xs items) (dn:DenL X.K N H ds xs) (ok:SortOk F ds)
  {E:Value→Shared→Prop} {P:PySem.Fin→Shared→Prop} (q:∀ s' H' vs,Inv X pins σ (upd H' da (.lst vs)) s'→Same H H'→H' da=none→DenL X.K N H' (ZcH (ltF F) ds) vs→P (.done (.ret .none)) s') :
  wpAny (model X.prog X.w) A (ksk_tree da (.ref fn) false) P E s:=by
 have l1:=dn.length
 have l2:=rv.length
 have few:=ok.few
 have hsl:sizeLine=16777216:=sizeLine_eq
 unfold ksk_tree
 refine wpAny_bind (listItems_at g rfl ?_)
 obtain ⟨n1,g1,I1⟩:=I.rawset (f:=fun _=>#[]) (its':=[]) hD fD g rfl
 refine wpAny_bind (listUpdate_at g rfl ?_ (by simp;omega) (by simp))
 refine wpAny_bind (seqEpoch_at g1 rfl ?_)
 refine wpAny_bind (wpAny_newTuple ?_ (by simp;omega))
 generalize hs1:({ heap:=s.heap.update da (Obj.mapSeq fun x=>#[]),gens:=s.gens,drawn:=s.drawn,toks:=s.toks,os:=s.os }:Shared)=s1 at *
 have g1':s1.heap.get? da=some (lob [] n1):=by rw [← hs1];exact g1
 have I2:=I1.kept (t':=s1.toks) (fun b u e=>Heap.get?_push_of_some { cls:=.type "tuple",data:=.seq items.toArray } e)
 have g2:=Heap.get?_push_of_some { cls:=.type "tuple",data:=.seq items.toArray } g1'
 generalize hs2:({ heap:=s1.heap.push { cls:=.type "tuple",data:=.seq items.toArray },gens:=s1.gens,drawn:=s1.drawn,toks:=s1.toks,os:=s1.os }:Shared)=s2 at *
 have g2':s2.heap.get? da=some (lob [] n1):=by rw [← hs2];exact g2
 refine wpAny_bind (wpAny_newList ?_ (by simp))
 have I3:=I2.kept (t':=s2.toks) (fun b u e=>Heap.get?_push_of_some (lob [] 0) e)
 have g3:=Heap.get?_push_of_some (lob [] 0) g2'
 have gk:=Heap.get?_push_size s2.heap (o:=lob [] 0) rfl
 have fK:=I2.off (Nat.le_refl s2.heap.objs.size)
 have hK:H s2.heap.objs.size=none:=I2.fresh
 have ne:da≠s2.heap.objs.size:=Nat.ne_of_lt (Heap.lt_size g2')
 refine wpAny_holding ?_
 exact ZmJ (N:=N) Fo hb A hr hu hA ((I3.pin1 hD fD g3 (Zho _ _)).pin1 hK (fK.more ne) gk (Zho _ _)) nh fD fK ne rv dn ok q
theorem Zlt (Fo:FnOk X.prog X.w X.K X.mg X.base CX0 k fn fd ps (spD X.K F)) (hb:Binds X.K fd ps []) (hr:Room (k+2) X.A)
  (I:Inv X pins σ H s) (nh:∀ a,N a→H a≠none) {a:Addr} {xs:List V} {ds:List D} (hs:SqL X.K H a xs) (dn:DenL X.K N H ds xs) (ok:SortOk F ds) {Q:VK}
  (q:∀ da vs H',Same H H'→H da=none→H' da=some (.lst vs)→DenL X.K (fun b=>N b∨b=da) H' (ZcH (ltF F) ds) vs→Q (.ref da) H') :
  wpAny (model X.prog X.w) X.A (call (.builtin "sorted") [.ref a] [("key",.ref fn)]) (EP X pins σ Q) X.xe s:=by
 have l1:=dn.length
 have few:=ok.few
 have hsl:sizeLine=16777216:=sizeLine_eq
 obtain ⟨its,rv,⟨o,n,ho,hc,hdd,hd⟩,hz⟩:=I.list hs
 have l2:=rv.length
 refine wpAny_call (codeAny_call_builtin plain_sorted entry_sorted ?_)
 have hck:checkBuiltinCall "sorted" ⟨[.ref a],[("key",.ref fn)]⟩=pure ():=by rfl
 rw [hck]
 refine wpAny_pure ?_
 unfold PySem.Builtin.sorted
 have hcc:checkCount "sorted" 1 1 1=pure ():=rfl
 show wpAny _ _ (do checkCount "sorted" 1 1 1;let y ← collect (.ref a);let l ← newList y;let _ ← holding [l] (call (.builtin "list.sort") [l] [("key",.ref fn)]);ret l) _ _ _
 rw [hcc]
 refine wpAny_bind (wpAny_pure ?_)
 refine wpAny_bind (wpAny_collect_seq a (T:="list") (.inl rfl) ho hc hd (fun h1 k1=>?_) (by simp;omega))
 have I1:=I.kept (t':=s.toks) k1
 refine wpAny_bind (wpAny_newList ?_ (by simp;omega))
 generalize hs1:({ heap:=h1,gens:=s.gens,drawn:=s.drawn,toks:=s.toks,os:=s.os }:Shared)=s1 at *
 have I2:=I1.kept (t':=s1.toks) (fun b u e=>Heap.get?_push_of_some (lob its 0) e)
 have g:=Heap.get?_push_size s1.heap (o:=lob its 0) rfl
 have fD:=I1.off (Nat.le_refl s1.heap.objs.size)
 have hD:H s1.heap.objs.size=none:=I1.fresh
 refine wpAny_bind (wpAny_holding ?_)
 refine wpAny_call (codeAny_call_builtin PySem.F.slot_list_sort.plain PySem.F.entry_list_sort ?_)
 refine PySem.F.slot_list_sort.check _ _ _ _ _ _ _ _ ⟨_,g,rfl⟩ rfl ?_
 rw [ksk_t1]
 refine Zm8 (N:=N) Fo hb X.A.in1.in1 hr.in1.in1 ?_ (fun s H e=>e.in1.in1) I2 nh g hD fD rv dn ok fun s' H' vs J sm hn dv=>?_
 ·have:=hr.un;show X.A.units+1+1+40<_;omega
 ·refine wpAny_pure ?_
  refine ⟨.ref _,_,J,rfl,q _ vs _ (fun b u e=>?_) hD ZaJ ?_⟩
  ·rw [ZG (fun z=>by rw [z,hD] at e;cases e)];exact sm b u e
  ·exact DenL.step (M:=fun _=>False) ⟨fun b u e z=>by
    rw [ZG (fun z=>by rw [z,hn] at e;cases e)];exact e,fun b hb=>by
    rcases hb with hb | hb
    ·exact .inl hb
    ·subst hb;exact .inr hn⟩ _ _ dv
end
end L2
set_option Elab.async false
set_option linter.all false
set_option maxRecDepth 100000
namespace L2
open PySem PySem.Spec PyProof.Rows PySem.W
section
variable {X:Cx} {M:Fb} {H0:Hp} {k:Nat} {fn:Addr} {fd:FuncData} {ps:List Str} {F:List Sl→Option Rv} {e:Expr} {f:VE→Option D} {x y:Str} {p p2 kpos pos:Pos}
noncomputable def Zgf (F:List Sl→Option Rv) (f:VE→Option D):VE→Option (List D):=fun ρ=>match f ρ with
 | some (.lst xs)=>ZhJ F xs
 | _=>none
theorem Znv (Fo:FnOk X.prog X.w X.K X.mg X.base CX0 k fn fd ps (spD X.K F)) (hr:Room (k+2) X.A) (hg:Gl X x) (hm:X.mg x=none) (hv:bootBuiltins x=some (.builtin "sorted")) (hgf:Gl X y) (hmf:X.mg y=some (.ref fn)) (hb:Binds X.K fd ps []) (he:PE X e (tP X.K M H0 f))
  (hn:x≠"__name__":=by decide) (hdb:(x==("__debug__":Str))=false:=by decide) (hdb2:(y==("__debug__":Str))=false:=by decide) (hs:starEach [e] X.env=(false,eval e X.env)::starEach [] X.env:=by exact Zad (fun _ _ z=>nomatch z)) :
  PE X (.Call (.Name x p) [e] [⟨some "key",.Name y p2,kpos⟩] pos) (tF X.K M H0 (Zgf F f)):=by
 intro pins s σ H Q I h
 obtain ⟨ρ,ys,R,ev,q⟩:=h
 refine wpAny_Call_Name_kw (ZdT I hg hm hv ?_ hn hdb)
 unfold Zgf at ev
 split at ev
 ·next xs hf =>
  obtain ⟨ok,rfl⟩:=ZnA ev
  have ha:=(ZbQ he (pa_nil (X:=X)) hs) pos pins s σ H (fun vs H1=>∃ v,vs=[v]∧Same H H1∧DenP X.K (Nf M ρ σ) H1 (.lst xs) v) I ⟨ρ,.lst xs,R,hf,fun v H1 s1 d1=>⟨v,rfl,s1,d1⟩⟩
  have hkw:=Zof (nm:=some "key") (kpos:=kpos) (Zoq (v:=.ref fn) (pos:=p2) hgf hmf rfl hdb2) (Zp1 (X:=X))
  rw [hs] at ha ⊢
  refine callWith_builtin_kwB rfl rfl ?_
  unfold evalArgs
  refine wpAny_bind (thn ha fun us s1 hh=>?_)
  obtain ⟨vs,H1,I1,r1,v,rfl,sm,d1⟩:=hh
  refine wpAny_bind (wpAny_pure ?_)
  refine wpAny_holding ?_
  refine wpAny_bind (thn (hkw pos pins s1 σ H1 (fun zs H2=>zs=[.ref fn]∧H2=H1) I1 ⟨rfl,rfl⟩) fun ks s2 hh=>?_)
  obtain ⟨zs,H2,I2,r2,rfl,rfl⟩:=hh
  refine wpAny_bind (wpAny_pure ?_)
  refine wpAny_pure ?_
  obtain ⟨u,rfl,ru⟩:=ZgN r1
  obtain ⟨u2,rfl,ru2⟩:=ZgN r2
  cases ru2
  obtain ⟨a,ws,rfl,sq,dl⟩:=d1
  cases ru
  have R1:=R.st sm
  exact Zlt (N:=Nf M ρ σ) Fo hb hr I2 R1.nh sq dl ok fun da vs H' s' hn' hd' dv=>q da vs H' (sm.trans s') (sm.none hn') hd' dv
 ·cases ev
theorem Zlz (Fo:FnOk X.prog X.w X.K X.mg X.base CX0 k fn fd ps (spD X.K F)) (hr:Room (k+2) X.A) (hg:Gl X x) (hm:X.mg x=none) (hv:bootBuiltins x=some (.builtin "sorted")) (hgf:Gl X y) (hmf:X.mg y=some (.ref fn)) (hb:Binds X.K fd ps []) (he:JE X e (tP X.K M H0 f))
  (hn:x≠"__name__":=by decide) (hdb:(x==("__debug__":Str))=false:=by decide) (hdb2:(y==("__debug__":Str))=false:=by decide) (hs:starEach [e] X.env=(false,eval e X.env)::starEach [] X.env:=by exact Zad (fun _ _ z=>nomatch z)) :
  JE X (.Call (.Name x p) [e] [⟨some "key",.Name y p2,kpos⟩] pos) (tF X.K M H0 (Zgf F f)):=⟨Znv Fo hr hg hm hv hgf hmf hb he.h hn hdb hdb2 hs⟩
end
end L2
set_option Elab.async false
set_option linter.all false
set_option maxRecDepth 100000
namespace L2
open PySem PySem.Spec PyProof.Rows
section
variable {X:Cx} {K:PySem.W.Frag} {M:Fb} {H0:Hp} {pos:Pos} {tg elt iter:Expr} {ifs:List Expr} {scope:Scope} {ws:List Nat} {f:VE→Option (List D)} {b:D→VE→Option VE} {t:VE→Option Bool} {e:VE→Option D} {k:Nat} {oix:List Nat}
@[simp] theorem Zrs (xs:List D):Zi2 (.lst xs)=some xs:=rfl
end
end L2
set_option Elab.async false
set_option linter.all false
set_option maxRecDepth 100000
namespace L2
open PySem PySem.Spec PyProof.Rows PySem.W
theorem ZlU:typeLookup (.type "list") ("keys":Str)=pure none:=am_miss_of_fast (by kernel_rfl)
theorem ZoA {prog:Program} {w:World} {A:Around} {E:Value→Shared→Prop} {s:Shared} {a:Addr} {its:Array Value} {Q:Option Value→Shared→Prop} (p:PlainL s.heap a its) (hA:A.handled=none)
  (q:∀ h' tk,(∀ b o,s.heap.get? b=some o→h'.get? b=some o)→Q none { s with heap:=h',toks:=tk }):wpAny (model prog w) A (getAttr? (.ref a) "keys") Q E s:=by
 obtain ⟨o,n,e,hc,hd,hs⟩:=p
 obtain ⟨c,dc,dt,sl⟩:=o
 dsimp only at hc hd hs
 subst hc hd hs
 obtain ⟨hp,g,d,tk,os⟩:=s
 have ty:∀ t,(⟨hp,g,d,t,os⟩:Shared).TypeIs (.ref a) "list":=fun _=>⟨_,e,rfl⟩
 have l1:=sub_AttributeError
 have l2:=F.slot_list_getattribute.lookup
 have l3:=F.slot_list_getattribute.bind (.ref a)
 have l4:=am_list_getattr_none
 unfold getAttr? getAttrBy? getAttrBy
 repeat (any_goals (first
  | assumption
  | exact ty _
  | ((with_reducible show wpAny _ _ (call (Value.builtin "list.__getattribute__") _ _) _ _ _)
     refine call_meets F.slot_list_getattribute (ty _) am_entry_list_getattribute (F.args_list_getattribute_2 _ _) (meets_getattribute_miss_list a its n sl "keys" _ ZlU (by decide +kernel) (by decide +kernel)) ⟨e,hA,fun h1 t1 x1 new=>?_⟩)
  | wp_step))
 obtain ⟨x2,x3,ex⟩:=new.there
 show wpAny _ _ (getattributeRaised _ _ _ _ _ _ _) _ _ _
 unfold getattributeRaised
 repeat (any_goals (first | assumption | wp_step))
 exact q h1 _ new.keeps
theorem Zes:entryFor table "dict.update.loop"=some Builtin.«dict.update.loop»:=entryFor_of_tree (by kernel_rfl)
theorem ZbS:plainId "dict.update.loop"=true:=by decide +kernel
section
variable {X:Cx} {pins:List (Addr×Obj)} {σ:St} {H:Hp} {s:Shared} {A:Around} {E:Value→Shared→Prop} {tr:List T3} {a:Addr} {k:KT} {y v:V} {u r:Value}
theorem Zly {Q:Unit→Shared→Prop} (hu:A.units+1<cLine) (I:Inv X pins σ H s) (e:H a=some (dcO tr)) (hkeys:∀ t∈tr,ZbC X.K H t.1 t.2.1) (hk:Zfh k tr) (ky:ZbC X.K H k y) (ry:RelV y u) (rv:RelV v r) (hl:tr.length<sizeLine)
  (q:∀ h' t',Inv X pins σ (upd H a (dcO (Zbn tr k y v))) { s with heap:=h',toks:=t' }→Heap.SameBut a s.heap h'→Q () { s with heap:=h',toks:=t' }):wpAny (model X.prog X.w) A.in1 (dictSet a u r) Q E s:=by
 have h:IsDc X.K H a tr:=⟨.inl e,hkeys⟩
 have hl':(Zbn tr k y v).length≤sizeLine:=by have:=Zhc tr k y v;omega
 cases k with
 | «at» b =>
  cases ky
  obtain ⟨z,hd,nd,us,rel,dd⟩:=ZgI I h hk
  have hz:us.length≤sizeLine:=by rw [← Paired.length rel];exact z
  refine wpAny_dictSet_pairs (knd:=ZY X.prog X.w) (hsz:=hz) (Zc3 ry) dd fun h' dd' hs=>q _ _ ?_ hs
  have he:∃ q,h'.get? a=some q:=let ⟨q,_,_,hq,_⟩:=dd';⟨q,hq⟩
  exact ZcF I (by rw [e];exact True.intro) hs he (ZjG hl' hd (ZbU nd) (rel.put rv) dd')
 | tup l =>
  obtain ⟨p,ep,sq⟩:=ky
  subst ep
  cases (show u=Value.ref p from ry)
  obtain ⟨z,hd,nd,us,rel,dd⟩:=ZeI I h hk
  have hz:us.length≤sizeLine:=by rw [← Paired.length rel];exact z
  refine wpAny_dictSet_heap (hsz:=hz) (tupleKind_room_in1 hu) (Zdq I sq) dd fun h' dd' hs=>q _ _ ?_ hs
  have he:∃ q,h'.get? a=some q:=let ⟨q,_,_,hq,_⟩:=dd';⟨q,hq⟩
  exact ZcF I (by rw [e];exact True.intro) hs he (ZhS hl' hd (ZbU nd) (rel.put rv) dd')
end
theorem Zil {K:PySem.W.Frag} {H H':Hp} {k:KT} {v:V} (h:ZbC K H k v) (s:Same H H'):ZbC K H' k v:=by
 cases k with
 | «at» a=>exact h
 | tup l=>obtain ⟨p,e,sq⟩:=h;exact ⟨p,e,sq.same s⟩
def Zb0:KDs→List D→Option KDs
 | kvs,[]=>some kvs
 | kvs,.tup [y,d]::r=>match okK y with
  | some k=>if Zcw k kvs&&decide (kvs.length<sizeLine) then Zb0 (Zao kvs k d) r else none
  | none=>none
 | _,_=>none
theorem Znc {M:Model} {A:Around} {E:Value→Shared→Prop} {s:Shared} {p:Addr} {its:Array Value} {Q:List Value→Shared→Prop} (h:IsTup s.heap p its) (q:Q its.toList s):wpAny M A (Builtin.Dict.pairItems (.ref p)) Q E s:=by
 obtain ⟨o,e,hc,n,hd⟩:=h
 unfold Builtin.Dict.pairItems
 refine wpAny_bind (wpAny_typeOf (T:="tuple") ⟨o,e,hc⟩ ?_)
 rw [if_pos (by decide)]
 unfold seqItems?
 refine wpAny_bind (wpAny_bind (wpAny_load e ?_))
 rw [hd]
 exact wpAny_pure (wpAny_pure q)
section
variable {X:Cx} {pins:List (Addr×Obj)} {σ:St} {H:Hp} {A:Around} {a it l:Addr} {N:Fb} {us:List Value} {R:Result→Shared→Prop}
theorem Zht (hu:A.units+1<cLine) (hA:A.in1.handled=none) (hH:H a=none) (fp:ZcI X pins H it) (hia:it≠a) (hil:l≠it) (hla:l≠a):∀ (ds:List D) (vs:List V) (ws:List Value) (i:Nat) (s:Shared) (kvs:KDs) (tr:List T3) (kvs':KDs),
  us.drop i=ws→Vals vs ws→DenL X.K N H ds vs→PD X.K N H kvs tr→Inv X pins σ (upd H a (dcO tr)) s→s.heap.IsListIter it l i→s.heap.IsList l us.toArray→Zb0 kvs ds=some kvs' →
  (∀ s' tr',Inv X pins σ (upd H a (dcO tr')) s'→PD X.K N H kvs' tr'→R (.ok (.ret .none)) s') →
  codeAny (model X.prog X.w) A (.builtin "dict.update.loop" ⟨[.ref a,.ref it,rawInt (i:Int),.none],[]⟩) R s
 | [],vs,ws,i,s,kvs,tr,kvs',hd,hv,dn,pd,I,hit,hl,hf,q=>by
  cases dn
  cases hv
  cases hf
  refine codeAny_builtin Zes ?_
  rw [Around.under_plainId ZbS _]
  show wpAny _ A.in1 (pyNext (.ref it) >>= _) _ _ s
  have hno:us.toArray[i]?=none:=by
   have:=List.drop_eq_nil_iff.mp hd
   simp [this]
  refine wpAny_bind (wpAny_pyNext_list_end hA hit hl hno fun h' ke=>?_)
  have I':=I.turned (t':=s.toks) (fun b o hb e=>ke b o hb e) (by rw [ZG hia];exact fp.1) fp.2.1 fp.2.2.2.1 fp.2.2.2.2.1 fp.2.2.2.2.2
  exact wpAny_bind (wpAny_pure (wpAny_pure (q _ tr I' pd)))
 | d::ds,vs,ws,i,s,kvs,tr,kvs',hd,hv,dn,pd,I,hit,hl,hf,q=>by
  simp only [DenL] at dn
  obtain ⟨v,vs',rfl,d1,dn'⟩:=dn
  cases hv with
  | @cons _ u _ ws' rv hv' =>
  unfold Zb0 at hf
  split at hf
  ·cases ‹_::_=[]›
  ·next y dd r e1 =>
   cases e1
   cases hk:okK y with
   | none=>rw [hk] at hf;cases hf
   | some k =>
    rw [hk] at hf
    dsimp only at hf
    split at hf
    ·next hc =>
     rw [Bool.and_eq_true,decide_eq_true_eq] at hc
     have ey:=Zds hk
     subst ey
     simp only [Den] at d1
     obtain ⟨p,vs2,rfl,sq,dl⟩:=d1
     simp only [DenL] at dl
     obtain ⟨kv,r2,rfl,dk,vv,r3,rfl,dv,rfl⟩:=dl
     cases rv
     have hat:us.toArray[i]?=some (.ref p):=by
      have h0:(us.drop i)[0]?=some (Value.ref p):=by rw [hd];rfl
      rw [List.getElem?_drop] at h0
      simpa using h0
     have hd':us.drop (i+1)=ws':=by
      rw [← List.tail_drop,hd];rfl
     refine codeAny_builtin Zes ?_
     rw [Around.under_plainId ZbS _]
     show wpAny _ A.in1 (pyNext (.ref it) >>= _) _ _ s
     refine wpAny_bind (wpAny_pyNext_list_item hit hl hat fun h' hit' sb=>?_)
     have I':=I.turned (t':=s.toks) (fun b o hb e=>(sb.2 b hb).trans e) (by rw [ZG hia];exact fp.1) fp.2.1 fp.2.2.2.1 fp.2.2.2.2.1 fp.2.2.2.2.2
     have sm:Same H (upd H a (dcO tr)):=ZaG hH
     obtain ⟨its,rv2,ht,_⟩:=I'.tuple (sq.same sm)
     obtain ⟨u1,u2,rfl,r1,r2⟩:=vals2 rv2
     have hl':h'.IsList l us.toArray:=hl.at fun o e=>(sb.2 l hil).trans e
     refine wpAny_bind (wpAny_holding ?_)
     refine wpAny_bind (wpAny_tryCatch (Znc ht ?_))
     dsimp only
     refine wpAny_holding ?_
     refine Zly hu I' ZaJ (fun t ht=>Zil (pd.keys t ht) sm) (pd.hom hc.1) (Zil (Zdp dk) sm) r1 r2 (by have:=Paired.length pd;omega) fun h2 t2 I2 sb2=>?_
     rw [Zom] at I2
     refine wpAny_pure ⟨plainId_quiet ZbS _,?_⟩
     have e2:rawInt ((i:Int)+1)=rawInt ((i+1:Nat):Int):=by simp
     rw [e2]
     refine Zht hu hA hH fp hia hil hla ds vs' ws' (i+1) _ (Zao _ k dd) (Zbn tr k kv vv) kvs' hd' hv' dn' (pd.put dk dv) I2 ?_ ?_ hf q
     ·obtain ⟨o,e,hh⟩:=hit'
      exact ⟨o,(sb2.2 it hia).trans e,hh⟩
     ·exact hl'.at fun o e=>(sb2.2 l hla).trans e
    ·cases hf
  ·cases hf
theorem Zlk (hc:X.calm=true) (hu:X.A.units+64<cLine) {s:Shared} {E:Value→Shared→Prop} {Q:VK} (I:Inv X pins σ H s) {ds:List D} {vs:List V} {kvs:KDs} (sq:SqL X.K H l vs) (dn:DenL X.K N H ds vs) (hf:Zb0 [] ds=some kvs)
  (q:∀ tr p,H p=none→PD X.K N H kvs tr→Q (.ref p) (upd H p (dcO tr))):wpAny (model X.prog X.w) X.A (call (.type "dict") [.ref l]) (EP X pins σ Q) E s:=by
 obtain ⟨us,rv,pl,hz⟩:=I.list sq
 have hlt:l<s.heap.objs.size:=by obtain ⟨o,n,e,_⟩:=pl;exact Heap.lt_size e
 have hA:X.A.handled=none:=I.ok.hd hc
 refine callType_codes (Q₁:=fun x s1=>x=.ref s.heap.objs.size∧s1={ s with heap:=s.heap.push { cls:=.type "dict",data:=.dict #[] } }) F.kt_called_dict (F.kt_typeCall_dict_1 (.ref l)) F.entry_dict_init (kt_code_dict_new (.ref l) ⟨rfl,rfl⟩) ?_
 rintro x s1 ⟨rfl,rfl⟩
 have hfr:H s.heap.objs.size=none:=I.hok.fresh (Nat.le_refl _)
 have I1:Inv X pins σ (upd H s.heap.objs.size (dcO [])) { s with heap:=s.heap.push { cls:=.type "dict",data:=.dict #[] } } :=
  I.laid (a:=s.heap.objs.size) (o:=dcO []) (t':=s.toks) (fun _ _ z=>Heap.get?_push_of_some _ z) (Nat.le_refl _) ⟨Nat.zero_le _,beq_eq_false_iff_ne.mpr (Ne.symm (Nat.ne_of_lt I.big)),List.nodup_nil,_,#[],0,Heap.get?_push_size _ rfl,⟨rfl,rfl,rfl⟩,rfl,rfl,rfl⟩
 have pl1:PlainL (s.heap.push { cls:=.type "dict",data:=.dict #[] }) l us.toArray:=by
  obtain ⟨o,n,e,hh⟩:=pl
  exact ⟨o,n,Heap.get?_push_of_some _ e,hh⟩
 have ty1:Shared.TypeIs { s with heap:=s.heap.push { cls:=.type "dict",data:=.dict #[] } } (.ref s.heap.objs.size) "dict":=⟨_,Heap.get?_push_size _ rfl,rfl⟩
 refine ⟨ty1,F.args_dict_init_2 _ _,?_⟩
 unfold Builtin.«dict.__init__» Builtin.Dict.selfAndRest
 refine wpAny_bind (wpAny_bind (wpAny_notOrdered_dict ty1 ?_))
 show wpAny _ _ (pure (s.heap.objs.size,[Value.ref l])) _ _ _
 refine wpAny_pure ?_
 show wpAny _ _ (Builtin.Dict.updateFrom "dict.__init__" s.heap.objs.size (.ref l) [] .none) _ _ _
 unfold Builtin.Dict.updateFrom
 refine wpAny_bind (wpAny_typeOf (T:="list") (by obtain ⟨o,n,e,hh,_⟩:=pl1;exact ⟨o,e,hh⟩) ?_)
 rw [if_pos (by decide)]
 refine wpAny_bind (ZoA pl1 hA fun h2 t2 k2=>?_)
 rw [if_pos (show (none:Option Value).isNone=true from rfl)]
 have I2:=I1.kept (h':=h2) (t':=t2) k2
 have pl2:PlainL h2 l us.toArray:=by
  obtain ⟨o,n,e,hh⟩:=pl1
  exact ⟨o,n,k2 _ _ e,hh⟩
 refine wpAny_bind (wpAny_rule ?_)
 refine wpAny_bind (wpAny_pyIter_list pl2.isList ?_)
 have I3:=I2.kept (h':=h2.push { cls:=.type "list_iterator",data:=.fields #[.ref l,.int 0 0] }) (t':=t2) fun b o e=>Heap.get?_push_of_some _ e
 have hsz:s.heap.objs.size<h2.objs.size:=Heap.lt_size (k2 _ _ (Heap.get?_push_size _ rfl))
 have fp:ZcI X pins H h2.objs.size:=I2.fpOk (Nat.le_refl _) (by
  have:=I2.hok.fresh (a:=h2.objs.size) (Nat.le_refl _)
  rw [ZG (Nat.ne_of_gt hsz)] at this
  exact this)
 refine wpAny_pure ⟨plainId_quiet ZbS _,?_⟩
 refine Zht (A:=X.A.in1) (N:=N) (us:=us) (by show X.A.units+1+1<cLine;omega) hA hfr fp (Nat.ne_of_gt hsz) (Nat.ne_of_lt (Nat.lt_trans hlt hsz)) (Nat.ne_of_lt hlt) ds vs us 0 _ [] [] kvs rfl rv dn .nil I3 ⟨_,Heap.get?_push_size _ rfl,rfl,rfl⟩ ?_ hf fun s' tr' I' pd=>?_
 ·exact pl2.isList.push _
 ·exact ⟨rfl,.ref s.heap.objs.size,_,I',rfl,q tr' _ hfr pd⟩
end
theorem ZlL:bootBuiltins "dict"=some (.type "dict"):=by kernel_rfl
def Zft (f:VE→Option D):VE→Option (List D):=fun ρ=>match f ρ with
 | some (.lst xs)=>(Zb0 [] xs).map Zy
 | _=>none
section
variable {X:Cx} {M:Fb} {H0:Hp} {e:Expr} {f:VE→Option D} {p pos:Pos}
theorem Zr5 (hc:X.calm=true) (hu:X.A.units+64<cLine) (hg:Gl X "dict") (hm:X.mg "dict"=none) (he:PE X e (tP X.K M H0 f)) (hs:starEach [e] X.env=(false,eval e X.env)::starEach [] X.env:=by exact Zad (fun _ _ z=>nomatch z)) :
  PE X (.Call (.Name "dict" p) [e] [] pos) (tFb true X.K M H0 (Zft f)):=by
 intro pins s σ H Q I h
 obtain ⟨ρ,ys,R,ev,q⟩:=h
 unfold Zft at ev
 split at ev
 ·next xs hf =>
  cases hp:Zb0 [] xs with
  | none=>rw [hp] at ev;cases ev
  | some kvs =>
   rw [hp] at ev
   cases ev
   have ha:=(ZbQ he (pa_nil (X:=X)) hs) pos pins s σ H (fun vs H1=>∃ v,vs=[v]∧Same H H1∧DenP X.K (Nf M ρ σ) H1 (.lst xs) v) I ⟨ρ,.lst xs,R,hf,fun v H1 s1 d1=>⟨v,rfl,s1,d1⟩⟩
   refine Call_ (ZdT I hg hm ZlL (PyProof.Rows.callWith_type1 (thn ha fun us s1 hh=>?_) (by rw [hs]) rfl))
   obtain ⟨vs,H1,I1,r1,v,rfl,sm,d1⟩:=hh
   obtain ⟨u,rfl,ru⟩:=ZgN r1
   obtain ⟨a,ws,rfl,sq,dl⟩:=d1
   cases ru
   refine Zlk hc hu I1 sq dl hp fun tr b hb pd=>?_
   have:=Zge (K:=X.K) (M:=M) (ρ:=ρ) (σ:=σ) (fl:=true) (Q:=Q) (xs:=Zy kvs) (vs:=ZaT tr) (p:=b) sm hb pd.flat q
   rw [ZeH pd] at this
   exact this
 ·cases ev
theorem ZkE (hc:X.calm=true) (hu:X.A.units+64<cLine) (hg:Gl X "dict") (hm:X.mg "dict"=none) (he:JE X e (tP X.K M H0 f)) (hs:starEach [e] X.env=(false,eval e X.env)::starEach [] X.env:=by exact Zad (fun _ _ z=>nomatch z)) :
  JE X (.Call (.Name "dict" p) [e] [] pos) (tFb true X.K M H0 (Zft f)):=⟨Zr5 hc hu hg hm he.h hs⟩
theorem ZrS {K:PySem.W.Frag} (i:Nat) {x:Str} {vpos:Pos} (hN:X.N[i]?=some x:=by rfl) (hv:Vis X.env.scope x:=by first | exact Or.inl rfl | exact Or.inr (Or.inl rfl) | exact Or.inr (Or.inr rfl)) (hd:(x==("__debug__":Str))=false:=by decide) (hcd:(x==("__classdict__":Str))=false:=by decide) :
  PS X (.Return (some (.Name x vpos)) pos) (tS K M H0 fun ρ=>ZjO (rdG ρ i)):=Zn3 hN hv hd hcd
theorem Zo6 {K:PySem.W.Frag} (i:Nat) {x:Str} {vpos:Pos} (hN:X.N[i]?=some x:=by rfl) (hv:Vis X.env.scope x:=by first | exact Or.inl rfl | exact Or.inr (Or.inl rfl) | exact Or.inr (Or.inr rfl)) (hd:(x==("__debug__":Str))=false:=by decide) (hcd:(x==("__classdict__":Str))=false:=by decide) :
  JS X (.Return (some (.Name x vpos)) pos) (tS K M H0 fun ρ=>ZjO (rdG ρ i)):=⟨ZrS i hN hv hd hcd⟩
end
end L2
set_option Elab.async false
set_option linter.all false
set_option maxRecDepth 100000
namespace L2
open PySem PySem.Spec PyProof.Rows
def ZgM (i j:Int):Prop:=0<j∧j<2^100
instance (i j:Int):Decidable (ZgM i j):=by unfold ZgM;exact inferInstance
section
variable {X:Cx} {K:PySem.W.Frag} {M:Fb} {H0:Hp} {a b:Expr} {f g:VE→Option D} {pos:Pos}
theorem ZmQ:OpR X (binaryOp .FloorDiv) (rI ZgM fun i j=>.int (i / j)):=opI fun i j _ _ _ _ _ hc q=>by
 have h1:(0:Int)<j:=hc.1
 have h2:j<2^100:=hc.2
 have h3:j.natAbs.log2<9000:=by
  have h4:j.natAbs<2^100:=by omega
  exact Nat.lt_trans ((Nat.log2_lt (by omega)).mpr h4) (by decide)
 exact floordiv_int (by omega) (by rw [Int.fdiv_eq_ediv_of_nonneg i (by omega)];exact q) (.inl (PyProof.noPylong_of_log2 h3))
@[simp] def Zd7:D→D→Option D:=i2 fun i j=>if ZgM i j then some (.int (i / j)) else none
theorem Zdh (ha:JE X a (tP K M H0 f)) (hb:JE X b (tP K M H0 g)):JE X (.BinOp a .FloorDiv b pos) (tD K M H0 (Zd Zd7 f g)):=⟨ZeQ ZmQ (ZjW _) ha.h hb.h⟩
end
end L2
set_option Elab.async false
set_option linter.all false
set_option maxRecDepth 100000
namespace L2
open PySem PySem.Spec PyProof.Rows
@[simp] theorem Ztk (a b:Int):eqD (.int a) (.int b)=decide (a=b):=by simp only [eqD];by_cases h:a=b<;>simp [h]
@[simp] theorem ZtJ (a b:Str):eqD (.str a) (.str b)=decide (a=b):=by simp only [eqD];by_cases h:a=b<;>simp [h]
@[simp] theorem ZtD (a b:Bool):eqD (.bl a) (.bl b)=decide (a=b):=by simp only [eqD];by_cases h:a=b<;>simp [h]
@[simp] theorem ZtH:eqD .non .non=true:=by simp only [eqD]
@[simp] theorem Zte (a:Bool) (b:Int):eqD (.bl a) (.int b)=decide ((if a then 1 else 0)=b):=by simp only [eqD];by_cases h:(if a then 1 else 0)=b<;>simp [h]
@[simp] theorem Ztl (a:Int) (b:Bool):eqD (.int a) (.bl b)=decide (a=(if b then 1 else 0)):=by simp only [eqD];by_cases h:a=(if b then 1 else 0)<;>simp [h]
@[simp] theorem Zto (a:Int) (b:Str):eqD (.int a) (.str b)=false:=by simp only [eqD]
@[simp] theorem Ztd (a:Str) (b:Int):eqD (.str a) (.int b)=false:=by simp only [eqD]
@[simp] theorem ZtI (a:Bool) (b:Str):eqD (.bl a) (.str b)=false:=by simp only [eqD]
@[simp] theorem Zta (a:Str) (b:Bool):eqD (.str a) (.bl b)=false:=by simp only [eqD]
@[simp] theorem ZtL (b:Int):eqD .non (.int b)=false:=by simp only [eqD]
@[simp] theorem Ztr (b:Str):eqD .non (.str b)=false:=by simp only [eqD]
@[simp] theorem Ztj (b:Bool):eqD .non (.bl b)=false:=by simp only [eqD]
@[simp] theorem Ztu (b:Int):eqD (.int b) .non=false:=by simp only [eqD]
@[simp] theorem Ztf (b:Str):eqD (.str b) .non=false:=by simp only [eqD]
@[simp] theorem ZtB (b:Bool):eqD (.bl b) .non=false:=by simp only [eqD]
@[simp] theorem ZtE (a b:List D):eqD (.tup a) (.tup b)=Zaj a b:=by simp only [eqD]
@[simp] theorem Ztq (a b:List D):eqD (.lst a) (.lst b)=Zaj a b:=by simp only [eqD]
@[simp] theorem ZtG (a b:List D):eqD (.tup a) (.lst b)=false:=by simp only [eqD]
@[simp] theorem Ztx (a b:List D):eqD (.lst a) (.tup b)=false:=by simp only [eqD]
@[simp] theorem Ztp (a:List D) (b:Int):eqD (.tup a) (.int b)=false:=by simp only [eqD]
@[simp] theorem Zts (a:List D) (b:Str):eqD (.tup a) (.str b)=false:=by simp only [eqD]
@[simp] theorem ZtC (a:List D):eqD (.tup a) .non=false:=by simp only [eqD]
@[simp] theorem Ztz (a:List D) (b:Bool):eqD (.tup a) (.bl b)=false:=by simp only [eqD]
@[simp] theorem Ztn (a:List D) (b:Int):eqD (.int b) (.tup a)=false:=by simp only [eqD]
@[simp] theorem Ztw (a:List D) (b:Str):eqD (.str b) (.tup a)=false:=by simp only [eqD]
@[simp] theorem Ztb (a:List D):eqD .non (.tup a)=false:=by simp only [eqD]
@[simp] theorem ZtF (a:List D) (b:Bool):eqD (.bl b) (.tup a)=false:=by simp only [eqD]
@[simp] theorem Zti (a:List D) (b:Int):eqD (.lst a) (.int b)=false:=by simp only [eqD]
@[simp] theorem ZtA (a:List D) (b:Str):eqD (.lst a) (.str b)=false:=by simp only [eqD]
@[simp] theorem Ztv (a:List D):eqD (.lst a) .non=false:=by simp only [eqD]
@[simp] theorem Ztm (a:List D) (b:Bool):eqD (.lst a) (.bl b)=false:=by simp only [eqD]
@[simp] theorem Ztt (a:List D) (b:Int):eqD (.int b) (.lst a)=false:=by simp only [eqD]
@[simp] theorem ZtK (a:List D) (b:Str):eqD (.str b) (.lst a)=false:=by simp only [eqD]
@[simp] theorem Ztg (a:List D):eqD .non (.lst a)=false:=by simp only [eqD]
@[simp] theorem Zs8 (a:List D) (b:Bool):eqD (.bl b) (.lst a)=false:=by simp only [eqD]
@[simp] theorem ZsK:Zaj [] []=true:=by simp only [Zaj]
@[simp] theorem Zsn (a b:D) (as bs:List D):Zaj (a::as) (b::bs)=(eqD a b&&Zaj as bs):=by simp only [Zaj]
@[simp] theorem Zs7 (b:D) (bs:List D):Zaj [] (b::bs)=false:=by simp only [Zaj]
@[simp] theorem Zs9 (b:D) (bs:List D):Zaj (b::bs) []=false:=by simp only [Zaj]
@[simp] theorem Zml:∀ (a b:List Int),Zaj (a.map D.int) (b.map D.int)=decide (a=b)
  | [],[]=>by simp
  | [],_::_=>by simp
  | _::_,[]=>by simp
  | x::a,y::b=>by simp [Zml a b]
@[simp] theorem ZsD (n:Nat) (a:List Int):(a.map D.int).all (okD n)=true:=by
  rw [List.all_eq_true]
  intro x hx
  obtain ⟨i,_,rfl⟩:=List.mem_map.mp hx
  cases n<;>rfl
@[simp] theorem Zs1 (t n:String):ZhX t n=(t==n||(t=="bool"&&n=="int")):=rfl
@[simp] theorem ZrO:Zbk=["NoneType","bool","int","str","tuple","list"]:=rfl
@[simp] theorem Zet:Z1=12:=rfl
@[simp] theorem Zsv:tysOf.tysL []=some []:=rfl
@[simp] theorem Zso (n:String) (r:List D):tysOf.tysL (.ty n::r)=(tysOf.tysL r).map (n::·):=rfl
@[simp] theorem Zs4 (ns:List Int):Zgv (ns.map D.int)=some ns:=ZiF ns
@[simp] theorem Zpi:∀ (ns:List Bool),Zjq (ns.map D.bl)=some ns
  | []=>rfl
  | n::ns=>by simp only [List.map_cons,Zjq,Zpi ns];rfl
theorem Zan {α:Type} {b:D→VE→Option VE} {e:VE→Option D} {ρ:VE} (G F:α→D):∀ (xs:List α),(∀ x∈xs,∃ ρ1,b (G x) ρ=some ρ1∧e ρ1=some (F x))→ZaV b (fun _=>some true) e ρ (xs.map G)=some (xs.map F)
 | [],_=>rfl
 | x::xs,h=>by
  obtain ⟨ρ1,h1,h2⟩:=h x List.mem_cons_self
  simp only [List.map_cons,ZaV,h1,h2,Zc,Option.bind,Zan G F xs fun y hy=>h y (List.mem_cons_of_mem _ hy)]
@[simp] theorem ZN {α:Type} (l:List α) (h:l.length≤1000000):Zr (some l)=some l:=by
  have:l.length≤sizeLine:=Nat.le_trans h (by decide)
  simp [this]
theorem ZmH {α β:Type} (f:α→β) (xs:List α) (lo hi:Option Int):ZcA (xs.map f) lo hi=(ZcA xs lo hi).map f:=by
 unfold ZcA
 rw [List.length_map,List.map_take,List.map_drop]
theorem ZtM {α:Type} (xs:List α) (k:Int) (h:0≤k):ZcA xs none (some k)=xs.take k.toNat:=by
 have e:HT.sIx xs.length 0 none=0:=rfl
 have e2:HT.sIx xs.length xs.length (some k)=min k.toNat xs.length:=by simp only [HT.sIx];split<;>omega
 unfold ZcA
 rw [e,e2,List.drop_zero,Nat.sub_zero]
 rcases Nat.le_total k.toNat xs.length with h1 | h1
 ·rw [Nat.min_eq_left h1]
 ·rw [Nat.min_eq_right h1,List.take_length,List.take_of_length_le h1]
theorem Zi1 {α:Type} (xs:List α) (k:Int) (h:0≤k):ZcA xs (some k) none=xs.drop k.toNat:=by
 have e:HT.sIx xs.length xs.length none=xs.length:=rfl
 have e2:HT.sIx xs.length 0 (some k)=min k.toNat xs.length:=by simp only [HT.sIx];split<;>omega
 unfold ZcA
 rw [e,e2]
 rcases Nat.le_total k.toNat xs.length with h1 | h1
 ·rw [Nat.min_eq_left h1,List.take_of_length_le (by rw [List.length_drop];exact Nat.le_refl _)]
 ·rw [Nat.min_eq_right h1,List.drop_length,List.drop_of_length_le h1,List.take_nil]
@[simp] theorem Zsx (ns:List Int):ZnU [.lst (ns.map D.int)]=if ns.length<64 then some ((ZpE ns).map D.int) else none:=by simp [ZnU]
theorem ZmX (j:Int) (h0:0≤j) (h:j<1000000000):Zbd [.int j]=some ((List.range j.toNat).map fun (k:Nat)=>D.int (k:Int)):=by
 have e:Zck 0 j.toNat=(List.range j.toNat).map fun (k:Nat)=>D.int (k:Int):=by simp [Zck]
 simp only [Zbd]
 rw [Zhz ⟨by omega,by omega⟩,e]
theorem ZaH (n:Nat) (h:n<1000000000):Zbd [.int (n:Int)]=some ((List.range n).map fun (k:Nat)=>D.int (k:Int)):=by
 rw [ZmX _ (by omega) (by omega),Int.toNat_natCast]
theorem ZnJ (xs ys:List D) (h:xs.length+ys.length≤1000000):ZW (.tup xs) (.tup ys)=some (.tup (xs++ys)):=by
 simp only [ZW]
 rw [if_pos (Nat.le_trans h (by decide))]
theorem ZnE (x y:Str) (h:x.length+y.length≤1000000):ZW (.str x) (.str y)=some (.str (x++y)):=by
 simp only [ZW]
 rw [if_pos (Nat.le_trans h (by decide))]
theorem Zmw {n:Nat} {i:Int} (h0:0≤i) (h1:i<n):ixN n i=some i.toNat:=by unfold ixN;rw [if_pos h0,if_pos h1]
theorem Zqd {α:Type} {xs:List α} {i:Int} (h0:0≤i) (h1:i<xs.length):∃ x,atI xs i=some x∧x∈xs:=by
 have h:i.toNat<xs.length:=by omega
 refine ⟨xs[i.toNat],?_,List.getElem_mem _⟩
 unfold atI
 rw [Zmw h0 h1]
 exact List.getElem?_eq_getElem h
theorem Zpj {z:Str} {i:Int} (hz:z.length≤1000000) (h0:0≤i) (h1:i<z.length):∃ c,ixD (.str z) (.int i)=some (.str ⟨#[c]⟩)∧c∈z.cps.toList:=by
 have hl:z.cps.toList.length=z.length:=by simp [Str.length]
 obtain ⟨c,e,hc⟩:=Zqd (xs:=z.cps.toList) h0 (by rw [hl];exact h1)
 refine ⟨c,?_,hc⟩
 simp only [ixD]
 rw [if_pos (Nat.le_trans hz (by decide)),e]
 rfl
@[simp] theorem Zap (d:D):rvD (.val d)=d:=rfl
@[simp] theorem Za3 (xs:List D) (b:Bool):rvD (.own xs b)=.lst xs b:=rfl
end L2
set_option Elab.async false
set_option linter.all false
set_option maxRecDepth 100000
set_option maxHeartbeats 4000000
namespace K24
open PySem PySem.Spec PyProof.Rows L2
noncomputable def ZeT:VE→Res:=(fun ρ=>Zf (Zv (blO (Zbm (asB ((Zu isD (fun ρ=>Zc (rdA ρ 0) (Zc (Zi (some (.ty "int"))) (some [])))) ρ)) (asB (blO (ZaX (asB ((Zu isD (fun ρ=>Zc (rdA ρ 0) (Zc (Zi (some (.ty "bool"))) (some [])))) ρ)))))))) (fun ρ=>.next ρ))
noncomputable def F_is_whole:List Sl→Option Rv:=fnP 1 1 ZeT
noncomputable def Zeh:VE→Res:=(fun ρ=>Zf (Zv (Zm5 (asB ((Zd ltO (fun ρ=>rdP ρ 1) (Zu Z6 (fun ρ=>Zc (rdA ρ 0) (some [])))) ρ)) ((Zd ixD (fun ρ=>rdP ρ 0) (fun ρ=>rdP ρ 1)) ρ) (some .non))) (fun ρ=>.next ρ))
noncomputable def F_line_at:List Sl→Option Rv:=fnP 2 2 Zeh
noncomputable def Zcd:VE→Res:=(fun ρ=>Zf (Zt (asB ((Zd ltO (fun ρ=>rdP ρ 1) (Zu Z6 (fun ρ=>Zc (rdA ρ 0) (some [])))) ρ)) (Zf (Zv ((Zd ixD (fun ρ=>rdP ρ 0) (fun ρ=>rdP ρ 1)) ρ)) (fun ρ=>.next ρ)) (.next ρ)) (fun ρ=>Zf (Zv (some (.int (0)))) (fun ρ=>.next ρ)))
noncomputable def F_law_cell_at:List Sl→Option Rv:=fnP 2 2 Zcd
noncomputable def ZcS:VE→Res:=(fun ρ=>Zf (Zq 4 ((Zd Zd7 (fun ρ=>rdP ρ 4) (Zd Zhm (fun _=>some (.int (10))) (fun _=>some (.int (24))))) ρ) ρ) (fun ρ=>.next ρ))
noncomputable def Za8:VE→Res:=(fun ρ=>Zf (Zt (asB ((Zd gtD (fun ρ=>rdP ρ 4) (fun _=>some (.int (0)))) ρ)) (Zf (Zam 3 ((Zd Zai (fun ρ=>rdP ρ 2) (Zd Zhm (fun _=>some (.int (10))) (fun _=>some (.int (24))))) ρ) ρ) (fun ρ=>Zf (Zq 2 ((Zd Zd7 (fun ρ=>rdP ρ 2) (Zd Zhm (fun _=>some (.int (10))) (fun _=>some (.int (24))))) ρ) ρ) (fun ρ=>.next ρ))) (Zf (Zq 6 ((Zd Zai (Zd ZaY (Zd ZW (Zd ZW (Zd ZW (Zd Zai (fun ρ=>rdP ρ 2) (fun _=>some (.int (2147483629)))) (Zd ZaY (fun _=>some (.int (7919))) (fun ρ=>rdP ρ 5))) (Zd ZaY (fun ρ=>rdP ρ 5) (fun ρ=>rdP ρ 5))) (fun _=>some (.int (1)))) (fun _=>some (.int (48271)))) (fun _=>some (.int (2147483647)))) ρ) ρ) (fun ρ=>Zf (Zq 7 ((Zd Zai (Zd ZaY (Zd ZW (fun ρ=>rdP ρ 6) (Zd ZaY (fun _=>some (.int (31))) (fun ρ=>rdP ρ 5))) (fun _=>some (.int (69621)))) (fun _=>some (.int (998244353)))) ρ) ρ) (fun ρ=>Zf (Zam 3 ((Zd ZW (Zd ZaY (fun ρ=>rdP ρ 6) (fun ρ=>rdP ρ 7)) (Zd Zd7 (fun ρ=>rdP ρ 6) (fun _=>some (.int (7))))) ρ) ρ) (fun ρ=>.next ρ))))) (fun ρ=>.next ρ))
noncomputable def Zg1:VE→Res:=(fun ρ=>Zq 2 ((Zd Zd7 (fun ρ=>rdP ρ 0) (fun _=>some (.int (2)))) ρ) ρ)
noncomputable def ZgY:VE→Res:=(fun ρ=>Zae 3 (Zr ((some []).bind Zp)) ρ)
noncomputable def ZgZ:VE→Res:=(fun ρ=>Zq 4 (rdV ρ 2) ρ)
noncomputable def ZgW:VE→Res:=(ZT (fun ρ=>((Zc (Zi (rdV ρ 1)) (some [])).bind Zp).bind Zbd) (Zo 5) ZcS)
noncomputable def Zg3:VE→Res:=(ZT (fun ρ=>((Zc (Zi (rdV ρ 1)) (some [])).bind Zp).bind Zbd) (Zo 5) Za8)
noncomputable def Zg0:VE→Res:=(fun ρ=>Zaw (rdO ρ 3))
noncomputable def Zkj:VE→Res:=fun ρ=>.next ρ
noncomputable def Zg4:VE→Res:=fun ρ=>Zf (Zg0 ρ) Zkj
noncomputable def Zg7:VE→Res:=fun ρ=>Zf (Zg3 ρ) Zg4
noncomputable def Zg6:VE→Res:=fun ρ=>Zf (ZgW ρ) Zg7
noncomputable def Zg9:VE→Res:=fun ρ=>Zf (ZgZ ρ) Zg6
noncomputable def ZgX:VE→Res:=fun ρ=>Zf (ZgY ρ) Zg9
noncomputable def Zem:VE→Res:=fun ρ=>Zf (Zg1 ρ) ZgX
noncomputable def Ziz:VE→Res:=Zem
noncomputable def F_law_row:List Sl→Option Rv:=fnP 2 8 Ziz
noncomputable def Zcf:VE→Res:=(fun ρ=>Zf (Zq 3 ((Zd ZW (fun ρ=>rdP ρ 3) (Zd ixD (fun ρ=>rdP ρ 1) (Zd Zai (fun ρ=>rdP ρ 2) (fun _=>some (.int (36)))))) ρ) ρ) (fun ρ=>Zf (Zq 2 ((Zd ZcX (fun ρ=>rdP ρ 2) (fun _=>some (.int (36)))) ρ) ρ) (fun ρ=>.next ρ)))
noncomputable def Zc6:VE→Res:=(fun ρ=>Zt (asB ((Zd eqO (Zd Zai (fun ρ=>rdP ρ 0) (fun _=>some (.int (2)))) (fun _=>some (.int (0)))) ρ)) (Zf (Zv ((Zd ZaY (Zd ZcX (fun ρ=>rdP ρ 0) (fun _=>some (.int (4)))) (Zd ZhR (fun _=>some (.int (1))) (Zd ZaY (fun _=>some (.int (2))) (Zd Zai (Zd ZcX (fun ρ=>rdP ρ 0) (fun _=>some (.int (2)))) (fun _=>some (.int (2))))))) ρ)) (fun ρ=>.next ρ)) (.next ρ))
noncomputable def ZfJ:VE→Res:=(fun ρ=>Zq 1 (some (.str "0123456789abcdefghijklmnopqrstuvwxyz")) ρ)
noncomputable def Zfw:VE→Res:=(fun ρ=>Zq 2 ((Zd ZcX (fun ρ=>rdP ρ 0) (fun _=>some (.int (24)))) ρ) ρ)
noncomputable def ZfB:VE→Res:=(fun ρ=>Zq 3 ((Zd ixD (fun ρ=>rdP ρ 1) (Zd ZW (fun _=>some (.int (10))) (Zd Zai (fun ρ=>rdP ρ 2) (fun _=>some (.int (26)))))) ρ) ρ)
noncomputable def Zfx:VE→Res:=(fun ρ=>Zq 2 ((Zd ZcX (fun ρ=>rdP ρ 2) (fun _=>some (.int (26)))) ρ) ρ)
noncomputable def ZfH:VE→Res:=(ZT (fun ρ=>((Zc (Zi ((Zd Zai (Zd ZcX (fun ρ=>rdP ρ 0) (fun _=>some (.int (2)))) (fun _=>some (.int (12)))) ρ)) (some [])).bind Zp).bind Zbd) (Zo 4) Zcf)
noncomputable def Zfv:VE→Res:=(fun ρ=>Zv (rdV ρ 3))
noncomputable def ZiP:VE→Res:=fun ρ=>.next ρ
noncomputable def ZfA:VE→Res:=fun ρ=>Zf (Zfv ρ) ZiP
noncomputable def Zfz:VE→Res:=fun ρ=>Zf (ZfH ρ) ZfA
noncomputable def ZfM:VE→Res:=fun ρ=>Zf (Zfx ρ) Zfz
noncomputable def ZfK:VE→Res:=fun ρ=>Zf (ZfB ρ) ZfM
noncomputable def ZfF:VE→Res:=fun ρ=>Zf (Zfw ρ) ZfK
noncomputable def ZfC:VE→Res:=fun ρ=>Zf (ZfJ ρ) ZfF
noncomputable def Zbw:VE→Res:=fun ρ=>Zf (Zc6 ρ) ZfC
noncomputable def Zg8:VE→Res:=Zbw
noncomputable def F_law_thing:List Sl→Option Rv:=fnP 1 5 Zg8
noncomputable def Za0:VE→Res:=(fun ρ=>Zf (Zt (asB ((Zd (inD true) (Zd ixD (fun ρ=>rdP ρ 2) (fun ρ=>Zen (some (.int (1))))) (fun ρ=>rdP ρ 1)) ρ)) (Zf (Zam 1 ((Zd ixD (fun ρ=>rdP ρ 2) (fun ρ=>Zen (some (.int (1))))) ρ) ρ) (fun ρ=>.next ρ)) (.next ρ)) (fun ρ=>.next ρ))
noncomputable def ZcV:VE→Res:=(fun ρ=>Zf (Zae 1 (Zr ((some []).bind Zp)) ρ) (fun ρ=>Zf ((ZT (fun ρ=>(rdQ ρ 0).bind ZA) (Zo 2) Za0) ρ) (fun ρ=>Zf (Zaw (rdO ρ 1)) (fun ρ=>.next ρ))))
noncomputable def F_law_lasts:List Sl→Option Rv:=fnP 1 3 ZcV
noncomputable def ZeZ:VE→Res:=(fun ρ=>Zf (Zt (asB ((Zd eqO (fun ρ=>rdP ρ 1) (Zu Z6 (fun ρ=>Zc (rdA ρ 0) (some [])))) ρ)) (Zf (Zv (some .non)) (fun ρ=>.next ρ)) (.next ρ)) (fun ρ=>Zf (Zv ((Zd ixD (fun ρ=>rdP ρ 0) (fun ρ=>rdP ρ 1)) ρ)) (fun ρ=>.next ρ)))
noncomputable def F_law_at:List Sl→Option Rv:=fnP 2 2 ZeZ
noncomputable def Zax:VE→Res:=(fun ρ=>Zf (Zt (Zat ((Zu isD (fun ρ=>Zc (rdA ρ 4) (Zc (Zi (some (.ty "list"))) (some [])))) ρ)) (Zf (Zam 1 ((Zr ((Zc (Zi (rdV ρ 2)) (Zc (Zi (rdV ρ 3)) (Zc (Zi (Zw ((ZB Zj7 (fun ρ=>Zc (rdA ρ 4) (some []))) ρ))) (some [])))).bind Zp)).map D.tup) ρ) (fun ρ=>.next ρ)) (Zf (Zam 1 ((Zr ((Zc (Zi (rdV ρ 2)) (Zc (Zi (rdV ρ 3)) (Zc (Zi (rdV ρ 4)) (some [])))).bind Zp)).map D.tup) ρ) (fun ρ=>.next ρ))) (fun ρ=>.next ρ))
noncomputable def Zcv:VE→Res:=(fun ρ=>Zf (Zae 1 (Zr ((some []).bind Zp)) ρ) (fun ρ=>Zf ((ZT (fun ρ=>(rdQ ρ 0).bind ZA) (Zb8 3 (Z0 (Zo 2) (Z0 (Zo 3) (Z0 (Zo 4) Zcn)))) Zax) ρ) (fun ρ=>Zf (Zaw (rdO ρ 1)) (fun ρ=>.next ρ))))
noncomputable def F_law_copied:List Sl→Option Rv:=fnP 1 5 Zcv
noncomputable def ZcB:VE→Res:=(fun ρ=>Zf (Zt (orB (Zat ((Zu isD (fun ρ=>Zc (rdA ρ 2) (Zc (Zi (some (.ty "bool"))) (some [])))) ρ)) (ZaX (Zat ((Zu isD (fun ρ=>Zc (rdA ρ 2) (Zc (Zi ((Zr ((Zc (Zi (some (.ty "int"))) (Zc (Zi (some (.ty "str"))) (some []))).bind Zp)).map D.tup)) (some [])))) ρ)))) (Zf (Zv (some (.bl false))) (fun ρ=>.next ρ)) (.next ρ)) (fun ρ=>.next ρ))
noncomputable def Zd6:VE→Res:=(fun ρ=>Zt (asB ((Zd eqO (fun ρ=>rdP ρ 1) (fun ρ=>Zw (Zr ((some []).bind Zp)))) ρ)) (Zf (Zv (blO (Zda (rdP ρ 0)))) (fun ρ=>.next ρ)) (.next ρ))
noncomputable def Zgu:VE→Res:=(fun ρ=>Zt (orB (ZaX (Zat ((Zu isD (fun ρ=>Zc (rdA ρ 0) (Zc (Zi (some (.ty "tuple"))) (some [])))) ρ))) (asB ((Zd neO (Zu Z6 (fun ρ=>Zc (rdA ρ 0) (some []))) (fun _=>some (.int (3)))) ρ))) (Zf (Zv (some (.bl false))) (fun ρ=>.next ρ)) (.next ρ))
noncomputable def Zf6:VE→Res:=(fun ρ=>Zt (orB (ZaX (Zat ((Zu isD (fun ρ=>Zc (Zi ((Zd ixD (fun ρ=>rdP ρ 0) (fun _=>some (.int (0)))) ρ)) (Zc (Zi (some (.ty "int"))) (some [])))) ρ))) (Zat ((Zu isD (fun ρ=>Zc (Zi ((Zd ixD (fun ρ=>rdP ρ 0) (fun _=>some (.int (0)))) ρ)) (Zc (Zi (some (.ty "bool"))) (some [])))) ρ))) (Zf (Zv (some (.bl false))) (fun ρ=>.next ρ)) (.next ρ))
noncomputable def Zf1:VE→Res:=(ZT (fun ρ=>((sl3 (fun ρ=>rdP ρ 0) (fun ρ=>asI (some (.int (1)))) (fun _=>some none) slD) ρ).bind ZA) (Zo 2) ZcB)
noncomputable def Zgk:VE→Res:=(fun ρ=>Zv ((Zd (inD false) (fun ρ=>rdP ρ 0) (fun ρ=>rdP ρ 1)) ρ))
noncomputable def Zi3:VE→Res:=fun ρ=>.next ρ
noncomputable def ZfU:VE→Res:=fun ρ=>Zf (Zgk ρ) Zi3
noncomputable def ZgJ:VE→Res:=fun ρ=>Zf (Zf1 ρ) ZfU
noncomputable def Zgz:VE→Res:=fun ρ=>Zf (Zf6 ρ) ZgJ
noncomputable def Zga:VE→Res:=fun ρ=>Zf (Zgu ρ) Zgz
noncomputable def ZbK:VE→Res:=fun ρ=>Zf (Zd6 ρ) Zga
noncomputable def ZhD:VE→Res:=ZbK
noncomputable def F_law_good:List Sl→Option Rv:=fnP 2 3 ZhD
noncomputable def ZdE:VE→Res:=(fun ρ=>Zf (Zt (Zda (rdP ρ 0)) (Zf (Zv ((Zr ((Zc (Zi (some (.int (0)))) (Zc (Zi (some (.int (0)))) (some []))).bind Zp)).map D.tup)) (fun ρ=>.next ρ)) (.next ρ)) (fun ρ=>Zf (Zt (Zat ((Zk F_is_whole (fun ρ=>Zc (rdA ρ 0) (some []))) ρ)) (Zf (Zv ((Zr ((Zc (Zi (some (.int (1)))) (Zc (Zi (rdV ρ 0)) (some []))).bind Zp)).map D.tup)) (fun ρ=>.next ρ)) (.next ρ)) (fun ρ=>Zf (Zv ((Zr ((Zc (Zi (some (.int (2)))) (Zc (Zi (rdV ρ 0)) (some []))).bind Zp)).map D.tup)) (fun ρ=>.next ρ))))
noncomputable def F_value_rank:List Sl→Option Rv:=fnP 1 1 ZdE
noncomputable def ZdO:VE→Option D:=(fun ρ=>(Zr ((Zc (Zi ((Zd ixD (fun ρ=>rdP ρ 0) (fun _=>some (.int (0)))) ρ)) (Zc (Zi ((Zr ((Zc (Zi (some (.str "out"))) (Zc (Zi (some .non)) (some []))).bind Zp)).map D.tup)) (some []))).bind Zp)).map D.tup)
noncomputable def Zbi:VE→Res:=(fun ρ=>Zf (Zt (asB ((Zd (inD false) (Zd ixD (fun ρ=>rdP ρ 4) (fun _=>some (.int (0)))) (fun ρ=>rdP ρ 2)) ρ)) (Zf (Zef 3 ((Zd ixD (fun ρ=>rdP ρ 4) (fun _=>some (.int (0)))) ρ) ((Zr ((Zc (Zi (some (.str "in"))) (Zc (Zi ((Zk F_line_at (fun ρ=>Zc (rdA ρ 4) (Zc (rdA ρ 1) (some [])))) ρ)) (some []))).bind Zp)).map D.tup) ρ) (fun ρ=>.next ρ)) (.next ρ)) (fun ρ=>.next ρ))
noncomputable def Zdi:VE→Res:=(fun ρ=>Zf (ZbF 3 ((Zft (fun ρ=>Zw ((ZX 1 [] (fun ρ=>(rdQ ρ 0).bind ZA) (Zo 0) (fun _=>some true) ZdO) ρ))) ρ) ρ) (fun ρ=>Zf ((ZT (fun ρ=>(rdQ ρ 0).bind ZA) (Zo 4) Zbi) ρ) (fun ρ=>Zf (ZjO (rdG ρ 3)) (fun ρ=>.next ρ))))
noncomputable def F_asked_of:List Sl→Option Rv:=fnP 3 5 Zdi
noncomputable def ZaK:VE→Res:=(fun ρ=>Zf (Zt (asB ((Zd (inD true) (Zk F_law_thing (fun ρ=>Zc (Zi ((Zd ZW (fun ρ=>rdP ρ 0) (Zd ZaY (fun _=>some (.int (2))) (fun ρ=>rdP ρ 2))) ρ)) (some []))) (fun ρ=>rdP ρ 1)) ρ)) (Zf (Zv ((Zk F_law_thing (fun ρ=>Zc (Zi ((Zd ZW (fun ρ=>rdP ρ 0) (Zd ZaY (fun _=>some (.int (2))) (fun ρ=>rdP ρ 2))) ρ)) (some []))) ρ)) (fun ρ=>.next ρ)) (.next ρ)) (fun ρ=>.next ρ))
noncomputable def ZcY:VE→Res:=(fun ρ=>Zf ((ZT (fun ρ=>((Zc (Zi ((Zd ZW (Zd ZaY (fun _=>some (.int (2))) (Zu Z6 (fun ρ=>Zc (rdA ρ 1) (some [])))) (fun _=>some (.int (3)))) ρ)) (some [])).bind Zp).bind Zbd) (Zo 2) ZaK) ρ) (fun ρ=>Zf (Zv ((Zd Zhm (fun _=>some (.int (10))) (fun _=>some (.int (40)))) ρ)) (fun ρ=>.next ρ)))
noncomputable def F_law_fresh:List Sl→Option Rv:=fnP 2 3 ZcY
noncomputable def Zbv:VE→Option D:=(Zd Zai (Zd ixD (fun ρ=>rdP ρ 1) (fun ρ=>rdP ρ 0)) (Zd ZW (Zu Z6 (fun ρ=>Zc (Zi ((Zd ixD (Zd ixD (fun ρ=>rdP ρ 2) (fun ρ=>rdP ρ 0)) (fun _=>some (.int (0)))) ρ)) (some []))) (fun _=>some (.int (1)))))
noncomputable def ZcU:VE→Res:=(fun ρ=>Zf (Zq 2 ((Zk F_law_row (fun ρ=>Zc (rdA ρ 0) (Zc (Zi (some (.int (4)))) (some [])))) ρ) ρ) (fun ρ=>Zf (Zv ((Zu ZeX (fun ρ=>Zc (Zi (Zw ((ZX 1 [2,1] (fun ρ=>((Zc (Zi ((Zu Z6 (fun ρ=>Zc (rdA ρ 1) (some []))) ρ)) (some [])).bind Zp).bind Zbd) (Zo 0) (fun _=>some true) Zbv) ρ))) (some []))) ρ)) (fun ρ=>.next ρ)))
noncomputable def F_law_grain:List Sl→Option Rv:=fnP 2 3 ZcU
noncomputable def Zas:VE→Res:=(fun ρ=>Zf (Zt (asB ((Zd (inD true) (Zk F_law_at (fun ρ=>Zc (rdA ρ 3) (Zc (rdA ρ 1) (some [])))) (fun ρ=>rdP ρ 2)) ρ)) (Zf (Zam 2 ((Zk F_law_at (fun ρ=>Zc (rdA ρ 3) (Zc (rdA ρ 1) (some [])))) ρ) ρ) (fun ρ=>.next ρ)) (.next ρ)) (fun ρ=>.next ρ))
noncomputable def ZbE:VE→Res:=(fun ρ=>Zf (Zae 2 (Zr ((some []).bind Zp)) ρ) (fun ρ=>Zf ((ZT (fun ρ=>(rdQ ρ 0).bind ZA) (Zo 3) Zas) ρ) (fun ρ=>Zf (Zaw (rdO ρ 2)) (fun ρ=>.next ρ))))
noncomputable def F_law_values_at:List Sl→Option Rv:=fnP 2 4 ZbE
noncomputable def ZaD:VE→Res:=(fun ρ=>Zf (Zt (Zbm (asB ((Zd eqO (fun ρ=>rdP ρ 6) (fun ρ=>rdP ρ 2)) ρ)) (asB ((Zd (inD true) (Zk F_law_at (fun ρ=>Zc (rdA ρ 4) (Zc (rdA ρ 7) (some [])))) (fun ρ=>rdP ρ 8)) ρ))) (Zf (Zq 5 (some (.bl false)) ρ) (fun ρ=>.next ρ)) (.next ρ)) (fun ρ=>.next ρ))
noncomputable def Zbe:VE→Res:=(fun ρ=>Zf (Zq 5 (some (.bl true)) ρ) (fun ρ=>Zf ((ZT (fun ρ=>(rdQ ρ 1).bind ZA) (Zb8 3 (Z0 (Zo 6) (Z0 (Zo 7) (Z0 (Zo 8) Zcn)))) ZaD) ρ) (fun ρ=>Zf (Zt (Zat (rdP ρ 5)) (Zf (Zam 3 ((Zd ixD (fun ρ=>rdP ρ 4) (fun _=>some (.int (0)))) ρ) ρ) (fun ρ=>.next ρ)) (.next ρ)) (fun ρ=>.next ρ))))
noncomputable def Zdk:VE→Res:=(fun ρ=>Zf (Zae 3 (Zr ((some []).bind Zp)) ρ) (fun ρ=>Zf ((ZT (fun ρ=>((Zd ixD (fun ρ=>rdP ρ 0) (fun ρ=>rdP ρ 2)) ρ).bind ZA) (Zo 4) Zbe) ρ) (fun ρ=>Zf (Zaw (rdO ρ 3)) (fun ρ=>.next ρ))))
noncomputable def F_law_some:List Sl→Option Rv:=fnP 3 9 Zdk
noncomputable def Zcy:VE→Res:=(fun ρ=>Zf (Zam 5 ((Zu ZiU (fun ρ=>Zc (Zi (some (.int (0)))) (Zc (Zi ((Zu ZiZ (fun ρ=>Zc (Zi ((Zu Z6 (fun ρ=>Zc (Zi ((Zd ixD (Zd ixD (fun ρ=>rdP ρ 2) (fun ρ=>rdP ρ 6)) (fun _=>some (.int (0)))) ρ)) (some []))) ρ)) (Zc (Zi ((Zd ZhR (Zd ZW (Zd ixD (fun ρ=>rdP ρ 0) (fun ρ=>rdP ρ 6)) (Zd Zai (Zd ixD (fun ρ=>rdP ρ 4) (fun ρ=>rdP ρ 6)) (fun _=>some (.int (3))))) (Zd Zai (Zd ixD (fun ρ=>rdP ρ 4) (fun _=>some (.int (3)))) (fun _=>some (.int (2))))) ρ)) (some [])))) ρ)) (some [])))) ρ) ρ) (fun ρ=>.next ρ))
noncomputable def ZfY:VE→Res:=(fun ρ=>Zq 4 ((Zk F_law_row (fun ρ=>Zc (rdA ρ 3) (Zc (Zi (some (.int (4)))) (some [])))) ρ) ρ)
noncomputable def ZgE:VE→Res:=(fun ρ=>Zae 5 (Zr ((some []).bind Zp)) ρ)
noncomputable def Zgj:VE→Res:=(ZT (fun ρ=>((Zc (Zi ((Zu Z6 (fun ρ=>Zc (rdA ρ 0) (some []))) ρ)) (some [])).bind Zp).bind Zbd) (Zo 6) Zcy)
noncomputable def Zgs:VE→Res:=(fun ρ=>Zv ((Zd ixD (fun ρ=>Zw (Zr ((Zc (Zi (rdV ρ 1)) (Zc (Zi ((Zu ZeX (fun ρ=>Zc (rdA ρ 5) (some []))) ρ)) (some []))).bind Zp))) (Zd Zai (Zd ZcX (Zd ixD (fun ρ=>rdP ρ 4) (fun _=>some (.int (3)))) (fun _=>some (.int (2)))) (fun _=>some (.int (2))))) ρ))
noncomputable def Zjo:VE→Res:=fun ρ=>.next ρ
noncomputable def Zgg:VE→Res:=fun ρ=>Zf (Zgs ρ) Zjo
noncomputable def Zgh:VE→Res:=fun ρ=>Zf (Zgj ρ) Zgg
noncomputable def ZfS:VE→Res:=fun ρ=>Zf (ZgE ρ) Zgh
noncomputable def Zdx:VE→Res:=fun ρ=>Zf (ZfY ρ) ZfS
noncomputable def Zhu:VE→Res:=Zdx
noncomputable def F_law_near:List Sl→Option Rv:=fnP 4 7 Zhu
noncomputable def ZdP:VE→Option D:=(Zk F_value_rank (fun ρ=>Zc (rdA ρ 0) (some [])))
noncomputable def Zfi:VE→Res:=(fun ρ=>Zf (Zv ((Zu ZeX (fun ρ=>Zc (Zi (Zw ((ZX 1 [] (fun ρ=>(rdQ ρ 0).bind ZA) (Zo 0) (fun _=>some true) ZdP) ρ))) (some []))) ρ)) (fun ρ=>.next ρ))
noncomputable def F_key_rank:List Sl→Option Rv:=fnP 1 1 Zfi
noncomputable def ZaS:VE→Res:=(fun ρ=>Zf (Zjk 7 ((sdX 5 (Zk F_line_at (fun ρ=>Zc (rdA ρ 6) (Zc (rdA ρ 1) (some [])))) (Zd ixD (fun ρ=>rdP ρ 6) (fun _=>some (.int (0))))) ρ)) (fun ρ=>Zf (Zt (asB ((Zd neO (Zd Zbs (fun ρ=>rdP ρ 4) (fun ρ=>rdP ρ 7)) (Zd Zbs (fun ρ=>rdP ρ 4) (Zd ixD (fun ρ=>rdP ρ 6) (fun _=>some (.int (0)))))) ρ)) (Zf (Zv ((Zr ((Zc (Zi (rdV ρ 7)) (Zc (Zi ((Zd ixD (fun ρ=>rdP ρ 6) (fun _=>some (.int (0)))) ρ)) (some []))).bind Zp)).map D.tup)) (fun ρ=>.next ρ)) (.next ρ)) (fun ρ=>.next ρ)))
noncomputable def ZdM:VE→Res:=(fun ρ=>Zq 4 ((Zk F_asked_of (fun ρ=>Zc (rdA ρ 0) (Zc (rdA ρ 2) (Zc (rdA ρ 3) (some []))))) ρ) ρ)
noncomputable def ZdC:VE→Res:=(fun ρ=>ZbF 5 (some []) ρ)
noncomputable def ZdU:VE→Res:=(ZT (fun ρ=>(rdQ ρ 0).bind ZA) (Zo 6) ZaS)
noncomputable def Zf2:VE→Res:=(fun ρ=>Zv (some .non))
noncomputable def Zjd:VE→Res:=fun ρ=>.next ρ
noncomputable def Zgb:VE→Res:=fun ρ=>Zf (Zf2 ρ) Zjd
noncomputable def ZdV:VE→Res:=fun ρ=>Zf (ZdU ρ) Zgb
noncomputable def ZdQ:VE→Res:=fun ρ=>Zf (ZdC ρ) ZdV
noncomputable def Zct:VE→Res:=fun ρ=>Zf (ZdM ρ) ZdQ
noncomputable def ZhM:VE→Res:=Zct
noncomputable def F_apart_on:List Sl→Option Rv:=fnP 4 8 ZhM
noncomputable def Zb2:VE→Res:=(fun ρ=>Zf (Zam 3 ((Zk F_law_fresh (fun ρ=>Zc (Zi ((Zd ixD (fun ρ=>rdP ρ 2) (Zd ZW (fun _=>some (.int (2))) (fun ρ=>rdP ρ 4))) ρ)) (Zc (rdA ρ 3) (some [])))) ρ) ρ) (fun ρ=>.next ρ))
noncomputable def ZcJ:VE→Option D:=(fun ρ=>(Zr ((Zc (Zi (rdV ρ 0)) (some [])).bind Zp)).map D.tup)
noncomputable def Zbf:VE→Res:=(fun ρ=>Zf (Zq 10 ((Zd ZW (Zd ZW (fun _=>some (.int (10))) (Zd ZaY (fun _=>some (.int (16))) (fun ρ=>rdP ρ 6))) (Zd ZaY (fun _=>some (.int (2))) (fun ρ=>rdP ρ 4))) ρ) ρ) (fun ρ=>Zf (Zq 11 ((Zd Zai (Zd ixD (fun ρ=>rdP ρ 2) (fun ρ=>rdP ρ 10)) (Zd ZW (Zu Z6 (fun ρ=>Zc (rdA ρ 8) (some []))) (fun _=>some (.int (1))))) ρ) ρ) (fun ρ=>Zf (Zt (asB ((Zd eqO (fun ρ=>rdP ρ 11) (Zu Z6 (fun ρ=>Zc (rdA ρ 8) (some [])))) ρ)) (Zf (Zam 8 ((Zk F_law_fresh (fun ρ=>Zc (Zi ((Zd ixD (fun ρ=>rdP ρ 2) (Zd ZW (fun ρ=>rdP ρ 10) (fun _=>some (.int (1))))) ρ)) (Zc (rdA ρ 8) (some [])))) ρ) ρ) (fun ρ=>.next ρ)) (.next ρ)) (fun ρ=>Zf (Zef 7 (rdP ρ 9) ((Zd ixD (fun ρ=>rdP ρ 8) (fun ρ=>rdP ρ 11)) ρ) ρ) (fun ρ=>.next ρ)))))
noncomputable def ZcE:VE→Option D:=(Zd ZW (fun ρ=>rdP ρ 0) (fun ρ=>(Zr ((Zc (Zi ((Zd Zbs (fun ρ=>rdP ρ 1) (Zd ixD (fun ρ=>rdP ρ 0) (fun ρ=>Zen (some (.int (1)))))) ρ)) (some [])).bind Zp)).map D.tup))
noncomputable def ZbT:VE→Res:=(fun ρ=>Zf (ZbF 7 (some []) ρ) (fun ρ=>Zf (Zae 8 (Zr ((some []).bind Zp)) ρ) (fun ρ=>Zf ((ZT (Zd9 (Zk F_law_lasts (fun ρ=>Zc (rdA ρ 5) (some [])))) (Zb8 2 (Z0 (Zo 4) (Z0 (Zo 9) Zcn))) Zbf) ρ) (fun ρ=>Zf (Zq 5 (Zw ((ZX 1 [7] (fun ρ=>(rdQ ρ 5).bind ZA) (Zo 0) (fun _=>some true) ZcE) ρ)) ρ) (fun ρ=>.next ρ)))))
noncomputable def ZeG:VE→Res:=(fun ρ=>Zq 2 ((Zk F_law_row (fun ρ=>Zc (rdA ρ 0) (Zc (Zi (some (.int (60)))) (some [])))) ρ) ρ)
noncomputable def Zeu:VE→Res:=(fun ρ=>Zae 3 (Zr ((some []).bind Zp)) ρ)
noncomputable def ZeF:VE→Res:=(ZT (fun ρ=>((Zc (Zi ((Zd ZW (fun _=>some (.int (1))) (Zd Zai (Zd ixD (fun ρ=>rdP ρ 2) (fun _=>some (.int (0)))) (fun ρ=>rdP ρ 1))) ρ)) (some [])).bind Zp).bind Zbd) (Zo 4) Zb2)
noncomputable def ZeK:VE→Res:=(fun ρ=>(fun ρ=>Zq 5 (Zw ((ZX 1 [] (fun ρ=>(rdQ ρ 3).bind ZA) (Zo 0) (fun _=>some true) ZcJ) ρ)) ρ) (Zhn 3 ρ))
noncomputable def ZeE:VE→Res:=(ZT (fun ρ=>((Zc (Zi ((Zd Zai (Zd ixD (fun ρ=>rdP ρ 2) (fun _=>some (.int (1)))) (fun _=>some (.int (4)))) ρ)) (some [])).bind Zp).bind Zbd) (Zo 6) ZbT)
noncomputable def ZeD:VE→Res:=(fun ρ=>Zv (rdV ρ 5))
noncomputable def Zh7:VE→Res:=fun ρ=>.next ρ
noncomputable def ZeJ:VE→Res:=fun ρ=>Zf (ZeD ρ) Zh7
noncomputable def Zev:VE→Res:=fun ρ=>Zf (ZeE ρ) ZeJ
noncomputable def Zew:VE→Res:=fun ρ=>Zf (ZeK ρ) Zev
noncomputable def ZeC:VE→Res:=fun ρ=>Zf (ZeF ρ) Zew
noncomputable def Zex:VE→Res:=fun ρ=>Zf (Zeu ρ) ZeC
noncomputable def ZcM:VE→Res:=fun ρ=>Zf (ZeG ρ) Zex
noncomputable def Zgo:VE→Res:=ZcM
noncomputable def F_law_ladder:List Sl→Option Rv:=fnP 2 12 Zgo
noncomputable def ZcC:VE→Option Bool:=(fun ρ=>asB ((Zd eqO (Zd Zai (Zd ixD (fun ρ=>rdP ρ 2) (Zd ZW (fun _=>some (.int (4))) (fun ρ=>rdP ρ 0))) (fun _=>some (.int (2)))) (fun _=>some (.int (1)))) ρ))
noncomputable def Zcx:VE→Option D:=(Zd ixD (fun ρ=>rdP ρ 1) (fun ρ=>rdP ρ 0))
noncomputable def ZaR:VE→Res:=(fun ρ=>Zf (Zt (Zbm (asB ((Zd (inD false) (Zk F_law_at (fun ρ=>Zc (rdA ρ 8) (Zc (rdA ρ 4) (some [])))) (fun ρ=>rdP ρ 6)) ρ)) (asB ((Zd (inD true) (Zk F_law_at (fun ρ=>Zc (rdA ρ 8) (Zc (rdA ρ 5) (some [])))) (fun ρ=>rdP ρ 7)) ρ))) (Zf (Zam 7 ((Zk F_law_at (fun ρ=>Zc (rdA ρ 8) (Zc (rdA ρ 5) (some [])))) ρ) ρ) (fun ρ=>.next ρ)) (.next ρ)) (fun ρ=>.next ρ))
noncomputable def Zdw:VE→Res:=(fun ρ=>Zq 2 ((Zk F_law_row (fun ρ=>Zc (rdA ρ 0) (Zc (Zi (some (.int (16)))) (some [])))) ρ) ρ)
noncomputable def Zd3:VE→Res:=(fun ρ=>Zq 3 ((Zd Zai (Zd ixD (fun ρ=>rdP ρ 2) (fun _=>some (.int (0)))) (Zu Z6 (fun ρ=>Zc (rdA ρ 1) (some [])))) ρ) ρ)
noncomputable def Zd5:VE→Res:=(fun ρ=>Zq 4 ((Zd Zai (Zd ixD (fun ρ=>rdP ρ 2) (fun _=>some (.int (1)))) (Zd ZW (Zu Z6 (fun ρ=>Zc (Zi ((Zd ixD (Zd ixD (fun ρ=>rdP ρ 1) (fun ρ=>rdP ρ 3)) (fun _=>some (.int (0)))) ρ)) (some []))) (fun _=>some (.int (1))))) ρ) ρ)
noncomputable def ZdJ:VE→Res:=(fun ρ=>Zq 5 (rdV ρ 4) ρ)
noncomputable def ZdH:VE→Res:=(fun ρ=>Zt (asB ((Zd eqO (Zd Zai (Zd ixD (fun ρ=>rdP ρ 2) (fun _=>some (.int (2)))) (fun _=>some (.int (2)))) (fun _=>some (.int (1)))) ρ)) (Zf (Zq 5 ((Zd Zai (Zd ixD (fun ρ=>rdP ρ 2) (fun _=>some (.int (3)))) (Zd ZW (fun ρ=>rdP ρ 4) (fun _=>some (.int (1))))) ρ) ρ) (fun ρ=>.next ρ)) (.next ρ))
noncomputable def ZfQ:VE→Res:=(fun ρ=>Zq 6 ((Zk F_law_values_at (fun ρ=>Zc (Zi ((Zd ixD (fun ρ=>rdP ρ 1) (fun ρ=>rdP ρ 3)) ρ)) (Zc (rdA ρ 4) (some [])))) ρ) ρ)
noncomputable def ZgC:VE→Res:=(fun ρ=>Zq 6 (Zw ((ZX 1 [6,2] (fun ρ=>((Zc (Zi ((Zu Z6 (fun ρ=>Zc (rdA ρ 6) (some []))) ρ)) (some [])).bind Zp).bind Zbd) (Zo 0) ZcC Zcx) ρ)) ρ)
noncomputable def ZfP:VE→Res:=(fun ρ=>Zae 7 (Zr ((some []).bind Zp)) ρ)
noncomputable def ZfR:VE→Res:=(ZT (fun ρ=>((Zd ixD (fun ρ=>rdP ρ 1) (fun ρ=>rdP ρ 3)) ρ).bind ZA) (Zo 8) ZaR)
noncomputable def ZdN:VE→Res:=(fun ρ=>Zt (asB ((Zd eqO (Zd Zai (Zd ixD (fun ρ=>rdP ρ 2) (fun _=>some (.int (13)))) (fun _=>some (.int (4)))) (fun _=>some (.int (1)))) ρ)) (Zf (ZhO 7 ((Zd Zai (Zd ixD (fun ρ=>rdP ρ 2) (fun _=>some (.int (14)))) (Zd ZW (Zu Z6 (fun ρ=>Zc (rdA ρ 7) (some []))) (fun _=>some (.int (1))))) ρ) ((Zk F_law_thing (fun ρ=>Zc (Zi ((Zd ixD (fun ρ=>rdP ρ 2) (fun _=>some (.int (14)))) ρ)) (some []))) ρ) ρ) (fun ρ=>.next ρ)) (.next ρ))
noncomputable def Zde:VE→Res:=(fun ρ=>Zt (asB ((Zd eqO (Zd Zai (Zd ixD (fun ρ=>rdP ρ 2) (fun _=>some (.int (15)))) (fun _=>some (.int (2)))) (fun _=>some (.int (1)))) ρ)) (Zf (Zv ((Zr ((Zc (Zi (rdV ρ 3)) (Zc (Zi (rdV ρ 5)) (Zc (Zi ((Zu ZeX (fun ρ=>Zc (rdA ρ 7) (some []))) ρ)) (some [])))).bind Zp)).map D.tup)) (fun ρ=>.next ρ)) (.next ρ))
noncomputable def Zfy:VE→Res:=(fun ρ=>(fun ρ=>Zv ((Zr ((Zc (Zi (rdV ρ 3)) (Zc (Zi (rdV ρ 5)) (Zc (Zi (rdV ρ 7)) (some [])))).bind Zp)).map D.tup)) (Zhn 7 ρ))
noncomputable def ZiR:VE→Res:=fun ρ=>.next ρ
noncomputable def ZfE:VE→Res:=fun ρ=>Zf (Zfy ρ) ZiR
noncomputable def Zci:VE→Res:=fun ρ=>Zf (Zde ρ) ZfE
noncomputable def Zcz:VE→Res:=fun ρ=>Zf (ZdN ρ) Zci
noncomputable def ZgH:VE→Res:=fun ρ=>Zf (ZfR ρ) Zcz
noncomputable def Zgd:VE→Res:=fun ρ=>Zf (ZfP ρ) ZgH
noncomputable def Zgt:VE→Res:=fun ρ=>Zf (ZgC ρ) Zgd
noncomputable def Zdz:VE→Res:=fun ρ=>Zf (ZfQ ρ) Zgt
noncomputable def ZdG:VE→Res:=fun ρ=>Zf (ZdH ρ) Zdz
noncomputable def ZdB:VE→Res:=fun ρ=>Zf (ZdJ ρ) ZdG
noncomputable def ZdA:VE→Res:=fun ρ=>Zf (Zd5 ρ) ZdB
noncomputable def Zd1:VE→Res:=fun ρ=>Zf (Zd3 ρ) ZdA
noncomputable def ZbN:VE→Res:=fun ρ=>Zf (Zdw ρ) Zd1
noncomputable def ZhB:VE→Res:=ZbN
noncomputable def F_law_pick:List Sl→Option Rv:=fnP 2 9 ZhB
noncomputable def Zc9:VE→Option D:=(Zk F_law_some (fun ρ=>Zc (rdA ρ 1) (Zc (rdA ρ 2) (Zc (rdA ρ 0) (some [])))))
noncomputable def ZaI:VE→Res:=(fun ρ=>Zf (Zq 9 ((Zd eqO (Zk F_law_at (fun ρ=>Zc (rdA ρ 7) (Zc (Zi ((Zd ixD (fun ρ=>rdP ρ 1) (fun ρ=>rdP ρ 6)) ρ)) (some [])))) (Zk F_law_at (fun ρ=>Zc (rdA ρ 8) (Zc (Zi ((Zd ixD (fun ρ=>rdP ρ 1) (fun ρ=>rdP ρ 6)) ρ)) (some []))))) ρ) ρ) (fun ρ=>Zf (Zq 10 ((Zd (inD false) (Zd ixD (fun ρ=>rdP ρ 7) (fun _=>some (.int (0)))) (Zd ixD (fun ρ=>rdP ρ 4) (fun ρ=>rdP ρ 6))) ρ) ρ) (fun ρ=>Zf (Zq 11 ((Zd (inD false) (Zd ixD (fun ρ=>rdP ρ 8) (fun _=>some (.int (0)))) (Zd ixD (fun ρ=>rdP ρ 4) (fun ρ=>rdP ρ 6))) ρ) ρ) (fun ρ=>Zf (Zq 12 ((Zd neO (Zk F_law_at (fun ρ=>Zc (rdA ρ 7) (Zc (Zi ((Zd ixD (fun ρ=>rdP ρ 2) (fun ρ=>rdP ρ 6)) ρ)) (some [])))) (Zk F_law_at (fun ρ=>Zc (rdA ρ 8) (Zc (Zi ((Zd ixD (fun ρ=>rdP ρ 2) (fun ρ=>rdP ρ 6)) ρ)) (some []))))) ρ) ρ) (fun ρ=>Zf (Zt (Zbm (Zat (rdP ρ 9)) (orB (asB ((Zd neO (fun ρ=>rdP ρ 10) (fun ρ=>rdP ρ 11)) ρ)) (Zbm (Zat (rdP ρ 10)) (Zat (rdP ρ 12))))) (Zf (Zam 5 ((Zr ((Zc (Zi (rdV ρ 6)) (Zc (Zi ((Zd ixD (fun ρ=>rdP ρ 7) (fun _=>some (.int (0)))) ρ)) (Zc (Zi ((Zd ixD (fun ρ=>rdP ρ 8) (fun _=>some (.int (0)))) ρ)) (some [])))).bind Zp)).map D.tup) ρ) (fun ρ=>.next ρ)) (.next ρ)) (fun ρ=>.next ρ))))))
noncomputable def Zce:VE→Res:=(fun ρ=>Zf ((ZT (fun ρ=>((Zd ixD (fun ρ=>rdP ρ 0) (fun ρ=>rdP ρ 6)) ρ).bind ZA) (Zo 8) ZaI) ρ) (fun ρ=>.next ρ))
noncomputable def Zcj:VE→Res:=(fun ρ=>Zf ((ZT (fun ρ=>((Zd ixD (fun ρ=>rdP ρ 0) (fun ρ=>rdP ρ 6)) ρ).bind ZA) (Zo 7) Zce) ρ) (fun ρ=>.next ρ))
noncomputable def Zdb:VE→Res:=(fun ρ=>Zq 4 (Zw ((ZX 1 [0,3] (fun ρ=>((Zc (Zi ((Zu Z6 (fun ρ=>Zc (rdA ρ 0) (some []))) ρ)) (some [])).bind Zp).bind Zbd) (Zo 0) (fun _=>some true) Zc9) ρ)) ρ)
noncomputable def Zc4:VE→Res:=(fun ρ=>Zae 5 (Zr ((some []).bind Zp)) ρ)
noncomputable def Zc5:VE→Res:=(fun ρ=>Zt (asB ((Zd (inD false) (fun ρ=>Zw (Zr ((some []).bind Zp))) (fun ρ=>rdP ρ 4)) ρ)) (Zf (Zaw (rdO ρ 5)) (fun ρ=>.next ρ)) (.next ρ))
noncomputable def ZfI:VE→Res:=(ZT (fun ρ=>((Zc (Zi ((Zu Z6 (fun ρ=>Zc (rdA ρ 0) (some []))) ρ)) (some [])).bind Zp).bind Zbd) (Zo 6) Zcj)
noncomputable def Zfu:VE→Res:=(fun ρ=>Zaw (rdO ρ 5))
noncomputable def ZiM:VE→Res:=fun ρ=>.next ρ
noncomputable def ZfD:VE→Res:=fun ρ=>Zf (Zfu ρ) ZiM
noncomputable def ZfL:VE→Res:=fun ρ=>Zf (ZfI ρ) ZfD
noncomputable def Zdc:VE→Res:=fun ρ=>Zf (Zc5 ρ) ZfL
noncomputable def Zc8:VE→Res:=fun ρ=>Zf (Zc4 ρ) Zdc
noncomputable def Zch:VE→Res:=fun ρ=>Zf (Zdb ρ) Zc8
noncomputable def Zha:VE→Res:=Zch
noncomputable def F_law_pairs:List Sl→Option Rv:=fnP 4 13 Zha
noncomputable def ZaC:VE→Res:=(fun ρ=>Zf (Zt (orB (ZaX (Zat (rdP ρ 1))) (asB ((Zd neO (Zd ixD (fun ρ=>rdP ρ 1) (fun ρ=>Zen (some (.int (1))))) (fun ρ=>rdP ρ 2)) ρ))) (Zf (Zam 1 (rdV ρ 2) ρ) (fun ρ=>.next ρ)) (.next ρ)) (fun ρ=>.next ρ))
noncomputable def Zdj:VE→Res:=(fun ρ=>Zf (Zae 1 (Zr ((some []).bind Zp)) ρ) (fun ρ=>Zf ((ZT (fun ρ=>(Zw ((Zgf F_key_rank (fun ρ=>rdP ρ 0)) ρ)).bind ZA) (Zo 2) ZaC) ρ) (fun ρ=>Zf (Zaw (rdO ρ 1)) (fun ρ=>.next ρ))))
noncomputable def F_in_order:List Sl→Option Rv:=fnP 1 3 Zdj
noncomputable def ZbB:VE→Option D:=(fun ρ=>(Zr ((Zc (Zi (rdV ρ 0)) (some [])).bind Zp)).map D.tup)
noncomputable def ZbD:VE→Option D:=(Zd ixD (fun ρ=>rdP ρ 0) (fun _=>some (.int (0))))
noncomputable def Zbc:VE→Res:=(fun ρ=>Zf (Zaw ((ZX 1 [] (fun ρ=>((Zk F_in_order (fun ρ=>Zc (Zi (Zw ((ZX 1 [] (fun ρ=>(rdQ ρ 0).bind ZA) (Zo 0) (fun _=>some true) ZbB) ρ))) (some []))) ρ).bind ZA) (Zo 0) (fun _=>some true) ZbD) ρ)) (fun ρ=>.next ρ))
noncomputable def F_values_in_order:List Sl→Option Rv:=fnP 1 1 Zbc
noncomputable def Zfa:VE→Option D:=(fun ρ=>(Zr ((Zc (Zi (rdV ρ 0)) (Zc (Zi (some (.bl true))) (some []))).bind Zp)).map D.tup)
noncomputable def Ze9:VE→Option Bool:=(fun ρ=>asB ((Zd (Zd4 false) (Zk F_line_at (fun ρ=>Zc (rdA ρ 0) (Zc (Zi ((Zd ixD (fun ρ=>rdP ρ 1) (fun _=>some (.int (1)))) ρ)) (some [])))) (fun ρ=>rdP ρ 2)) ρ))
noncomputable def Zhs:VE→Option D:=(fun ρ=>rdV ρ 0)
noncomputable def ZbZ:VE→Res:=(fun ρ=>Zf (Zt (asB ((Zd eqO (Zd ixD (fun ρ=>rdP ρ 4) (fun _=>some (.int (0)))) (fun ρ=>rdP ρ 2)) ρ)) (Zf (ZbF 5 ((Zft (fun ρ=>Zw ((ZX 1 [] (fun ρ=>((Zd ixD (fun ρ=>rdP ρ 4) (fun _=>some (.int (2)))) ρ).bind ZA) (Zo 0) (fun _=>some true) Zfa) ρ))) ρ) ρ) (fun ρ=>Zf (Zq 3 (Zw ((ZX 1 [4,5] (fun ρ=>(rdQ ρ 3).bind ZA) (Zo 0) Ze9 Zhs) ρ)) ρ) (fun ρ=>.next ρ))) (.next ρ)) (fun ρ=>.next ρ))
noncomputable def Zfr:VE→Option D:=(Zd ixD (fun ρ=>rdP ρ 0) (fun _=>some (.int (0))))
noncomputable def Zfd:VE→Res:=(fun ρ=>Zf (Zq 3 ((Zd ixD (fun ρ=>rdP ρ 0) (fun ρ=>rdP ρ 2)) ρ) ρ) (fun ρ=>Zf ((ZT (fun ρ=>(rdQ ρ 1).bind ZA) (Zo 4) ZbZ) ρ) (fun ρ=>Zf (Zaw ((ZgV F_values_in_order (fun ρ=>Zc (Zi (Zw ((ZX 1 [] (fun ρ=>(rdQ ρ 3).bind ZA) (Zo 0) (fun _=>some true) Zfr) ρ))) (some []))) ρ)) (fun ρ=>.next ρ))))
noncomputable def F_picked:List Sl→Option Rv:=fnP 3 6 Zfd
noncomputable def Zbj:VE→Option D:=(Zk F_picked (fun ρ=>Zc (rdA ρ 1) (Zc (rdA ρ 2) (Zc (rdA ρ 0) (some [])))))
noncomputable def ZaU:VE→Res:=(fun ρ=>Zf (Zaw ((ZX 1 [0,1] (fun ρ=>((Zc (Zi ((Zu Z6 (fun ρ=>Zc (rdA ρ 0) (some []))) ρ)) (some [])).bind Zp).bind Zbd) (Zo 0) (fun _=>some true) Zbj) ρ)) (fun ρ=>.next ρ))
noncomputable def F_picked_everywhere:List Sl→Option Rv:=fnP 2 2 ZaU
noncomputable def ZbL:VE→Res:=(fun ρ=>Zf (Zq 7 ((Zk F_apart_on (fun ρ=>Zc (rdA ρ 6) (Zc (Zi ((Zd ixD (fun ρ=>rdP ρ 1) (fun ρ=>rdP ρ 5)) ρ)) (Zc (Zi ((Zd ixD (fun ρ=>rdP ρ 2) (fun ρ=>rdP ρ 5)) ρ)) (Zc (Zi ((Zd ixD (fun ρ=>rdP ρ 4) (fun ρ=>rdP ρ 5)) ρ)) (some [])))))) ρ) ρ) (fun ρ=>Zf (Zt (ZaX (Zda (rdP ρ 7))) (Zf (Zv ((Zr ((Zc (Zi (rdV ρ 5)) (Zc (Zi ((Zd ixD (fun ρ=>rdP ρ 7) (fun _=>some (.int (0)))) ρ)) (Zc (Zi ((Zd ixD (fun ρ=>rdP ρ 7) (fun _=>some (.int (1)))) ρ)) (some [])))).bind Zp)).map D.tup)) (fun ρ=>.next ρ)) (.next ρ)) (fun ρ=>.next ρ)))
noncomputable def Zek:VE→Res:=(fun ρ=>Zq 4 ((Zk F_picked_everywhere (fun ρ=>Zc (rdA ρ 0) (Zc (rdA ρ 3) (some [])))) ρ) ρ)
noncomputable def Zec:VE→Res:=(fun ρ=>Zt (asB ((Zd (inD false) (fun ρ=>Zw (Zr ((some []).bind Zp))) (fun ρ=>rdP ρ 4)) ρ)) (Zf (Zv (some .non)) (fun ρ=>.next ρ)) (.next ρ))
noncomputable def Zf5:VE→Res:=(ZT (Zd9 (fun ρ=>rdQ ρ 0)) (Zb8 2 (Z0 (Zo 5) (Z0 (Zo 6) Zcn))) ZbL)
noncomputable def Ziu:VE→Res:=(fun ρ=>Zv (some .non))
noncomputable def Zme:VE→Res:=fun ρ=>.next ρ
noncomputable def Zix:VE→Res:=fun ρ=>Zf (Ziu ρ) Zme
noncomputable def Zgc:VE→Res:=fun ρ=>Zf (Zf5 ρ) Zix
noncomputable def Zej:VE→Res:=fun ρ=>Zf (Zec ρ) Zgc
noncomputable def Zc1:VE→Res:=fun ρ=>Zf (Zek ρ) Zej
noncomputable def ZkP:VE→Res:=Zc1
noncomputable def F_apart:List Sl→Option Rv:=fnP 4 8 ZkP
noncomputable def ZgK:VE→Option D:=(Zk F_law_ladder (fun ρ=>Zc (Zi ((Zk F_law_cell_at (fun ρ=>Zc (rdA ρ 1) (Zc (Zi ((Zd ZW (fun _=>some (.int (1))) (fun ρ=>rdP ρ 0)) ρ)) (some [])))) ρ)) (Zc (Zi (some (.int (8)))) (some []))))
noncomputable def ZhP:VE→Option D:=(fun ρ=>Zw ((ZB Zj7 (fun ρ=>Zc (rdA ρ 0) (some []))) ρ))
noncomputable def ZgS:VE→Option D:=(Zk F_law_pick (fun ρ=>Zc (Zi ((Zk F_law_cell_at (fun ρ=>Zc (rdA ρ 1) (Zc (Zi ((Zd ZW (fun _=>some (.int (6))) (fun ρ=>rdP ρ 0)) ρ)) (some [])))) ρ)) (Zc (rdA ρ 2) (some []))))
noncomputable def ZkL:VE→Res:=(fun ρ=>Zq 1 ((Zk F_law_row (fun ρ=>Zc (Zi ((Zk F_law_cell_at (fun ρ=>Zc (rdA ρ 0) (Zc (Zi (some (.int (0)))) (some [])))) ρ)) (Zc (Zi (some (.int (3)))) (some [])))) ρ) ρ)
noncomputable def Zla:VE→Res:=(fun ρ=>Zq 2 (Zw ((ZX 1 [0] (fun ρ=>((Zc (Zi ((Zd ZW (fun _=>some (.int (1))) (Zd Zai (Zd ixD (fun ρ=>rdP ρ 1) (fun _=>some (.int (0)))) (fun _=>some (.int (3))))) ρ)) (some [])).bind Zp).bind Zbd) (Zo 0) (fun _=>some true) ZgK) ρ)) ρ)
noncomputable def Zkz:VE→Res:=(fun ρ=>Zq 3 (Zw ((ZX 1 [] (fun ρ=>(rdQ ρ 2).bind ZA) (Zo 0) (fun _=>some true) ZhP) ρ)) ρ)
noncomputable def ZkH:VE→Res:=(fun ρ=>Zq 4 ((Zk F_law_grain (fun ρ=>Zc (Zi ((Zk F_law_cell_at (fun ρ=>Zc (rdA ρ 0) (Zc (Zi (some (.int (4)))) (some [])))) ρ)) (Zc (rdA ρ 3) (some [])))) ρ) ρ)
noncomputable def Zky:VE→Res:=(fun ρ=>Zq 5 ((Zk F_law_near (fun ρ=>Zc (rdA ρ 4) (Zc (Zi ((Zk F_law_grain (fun ρ=>Zc (Zi ((Zk F_law_cell_at (fun ρ=>Zc (rdA ρ 0) (Zc (Zi (some (.int (5)))) (some [])))) ρ)) (Zc (rdA ρ 3) (some [])))) ρ)) (Zc (rdA ρ 3) (Zc (Zi ((Zk F_law_cell_at (fun ρ=>Zc (rdA ρ 0) (Zc (Zi (some (.int (10)))) (some [])))) ρ)) (some [])))))) ρ) ρ)
noncomputable def ZkT:VE→Res:=(fun ρ=>Zq 6 (Zw ((ZX 1 [0,3] (fun ρ=>((Zc (Zi ((Zd Zai (Zd ixD (fun ρ=>rdP ρ 1) (fun _=>some (.int (1)))) (fun _=>some (.int (5)))) ρ)) (some [])).bind Zp).bind Zbd) (Zo 0) (fun _=>some true) ZgS) ρ)) ρ)
noncomputable def ZkO:VE→Res:=(fun ρ=>Zq 7 ((Zk F_law_copied (fun ρ=>Zc (rdA ρ 6) (some []))) ρ) ρ)
noncomputable def ZkI:VE→Res:=(fun ρ=>Zq 8 ((Zk F_law_pairs (fun ρ=>Zc (rdA ρ 3) (Zc (rdA ρ 4) (Zc (rdA ρ 5) (Zc (rdA ρ 6) (some [])))))) ρ) ρ)
noncomputable def Zku:VE→Res:=(fun ρ=>Zt (ZaX (Zat ((Zk F_law_good (fun ρ=>Zc (Zi ((Zk F_apart (fun ρ=>Zc (rdA ρ 2) (Zc (rdA ρ 4) (Zc (rdA ρ 5) (Zc (rdA ρ 7) (some [])))))) ρ)) (Zc (rdA ρ 8) (some [])))) ρ))) (Zf (Zv (some (.bl false))) (fun ρ=>.next ρ)) (.next ρ))
noncomputable def ZkX:VE→Res:=(fun ρ=>Zt (ZaX (Zat ((Zk F_law_good (fun ρ=>Zc (Zi ((Zk F_apart (fun ρ=>Zc (rdA ρ 2) (Zc (rdA ρ 5) (Zc (rdA ρ 4) (Zc (Zi ((sl3 (fun ρ=>rdP ρ 7) (fun ρ=>asI (some (.int (1)))) (fun _=>some none) slD) ρ)) (some [])))))) ρ)) (Zc (Zi ((Zk F_law_pairs (fun ρ=>Zc (rdA ρ 3) (Zc (rdA ρ 5) (Zc (rdA ρ 4) (Zc (Zi ((sl3 (fun ρ=>rdP ρ 6) (fun ρ=>asI (some (.int (1)))) (fun _=>some none) slD) ρ)) (some [])))))) ρ)) (some [])))) ρ))) (Zf (Zv (some (.bl false))) (fun ρ=>.next ρ)) (.next ρ))
noncomputable def Zj8:VE→Res:=(fun ρ=>Zt (ZaX (Zat ((Zk F_law_good (fun ρ=>Zc (Zi ((Zk F_apart (fun ρ=>Zc (rdA ρ 2) (Zc (rdA ρ 4) (Zc (rdA ρ 5) (Zc (rdA ρ 7) (some [])))))) ρ)) (Zc (rdA ρ 8) (some [])))) ρ))) (Zf (Zv (some (.bl false))) (fun ρ=>.next ρ)) (.next ρ))
noncomputable def ZjH:VE→Res:=(fun ρ=>Zv (blO (Zbm (asB ((Zd eqO (fun ρ=>rdP ρ 7) (fun ρ=>rdP ρ 6)) ρ)) (asB ((Zd eqO (fun ρ=>rdP ρ 2) (fun ρ=>rdP ρ 3)) ρ)))))
noncomputable def ZmV:VE→Res:=fun ρ=>.next ρ
noncomputable def Zjg:VE→Res:=fun ρ=>Zf (ZjH ρ) ZmV
noncomputable def ZjB:VE→Res:=fun ρ=>Zf (Zj8 ρ) Zjg
noncomputable def Zk3:VE→Res:=fun ρ=>Zf (ZkX ρ) ZjB
noncomputable def Zid:VE→Res:=fun ρ=>Zf (Zku ρ) Zk3
noncomputable def ZkK:VE→Res:=fun ρ=>Zf (ZkI ρ) Zid
noncomputable def ZkV:VE→Res:=fun ρ=>Zf (ZkO ρ) ZkK
noncomputable def Zk8:VE→Res:=fun ρ=>Zf (ZkT ρ) ZkV
noncomputable def Zkv:VE→Res:=fun ρ=>Zf (Zky ρ) Zk8
noncomputable def ZkM:VE→Res:=fun ρ=>Zf (ZkH ρ) Zkv
noncomputable def Zk7:VE→Res:=fun ρ=>Zf (Zkz ρ) ZkM
noncomputable def Zkx:VE→Res:=fun ρ=>Zf (Zla ρ) Zk7
noncomputable def ZhQ:VE→Res:=fun ρ=>Zf (ZkL ρ) Zkx
noncomputable def ZnP:VE→Res:=ZhQ
noncomputable def F_law:List Sl→Option Rv:=fnP 1 9 ZnP
def lnD (l:List At):D:=.tup (l.map aD)
theorem ZfX:∀ (a b:At),eqD (aD a) (aD b)=decide (a=b):=by
 intro a b
 cases a<;>cases b<;>simp [aD]
theorem ZkB:∀ (a b:List At),Zaj (a.map aD) (b.map aD)=decide (a=b)
 | [],[]=>by simp
 | [],_::_=>by simp
 | _::_,[]=>by simp
 | x::a,y::b=>by
  have ih:=ZkB a b
  rw [Bool.eq_iff_iff]
  simp [ZfX,ih]
theorem ZdD (n:Nat) (a:At):okD n (aD a)=true:=by cases a<;>cases n<;>rfl
theorem Zdn (n:Nat) (l:List At):okD (n+1) (lnD l)=true:=by
 show (l.map aD).all (okD n)=true
 rw [List.all_map,List.all_eq_true]
 exact fun a _=>ZdD n a
theorem Zmc (a b:List At):neO (lnD a) (lnD b)=some (.bl (!decide (a=b))):=by
 have h1:=Zdn 11 a
 have h2:=Zdn 11 b
 have h3:eqD (lnD a) (lnD b)=decide (a=b):=by simp only [lnD,eqD,ZkB]
 simp only [neO,Zet,h1,h2,h3,Bool.and_self,if_true]
theorem Zqm (a b:At):neO (aD a) (aD b)=some (.bl (!decide (a=b))):=by
 simp only [neO,Zet,ZdD,ZfX,Bool.and_self,if_true]
structure TO {α:Type} (lt:α→α→Bool):Prop where
 asym:∀ a b,lt a b=true→lt b a=false
 neg:∀ a b c,lt a c=true→lt a b=true∨lt b c=true
 anti:∀ a b,lt a b=false→lt b a=false→a=b
theorem TO.irr {α:Type} {lt:α→α→Bool} (T:TO lt) (a:α):lt a a=false:=by
 cases h:lt a a with
 | false=>rfl
 | true=>have:=T.asym a a h;rw [h] at this;cases this
theorem TO.trans {α:Type} {lt:α→α→Bool} (T:TO lt) {a b c:α} (h1:lt a b=true) (h2:lt b c=true):lt a c=true:=by
 rcases T.neg a c b h1 with h | h
 ·exact h
 ·rw [T.asym b c h2] at h;cases h
def ZeR {α:Type} (lt:α→α→Bool) (x:α):List α→List α
 | []=>[x]
 | y::r=>if lt x y then x::y::r else y::ZeR lt x r
def Zaf {α:Type} (lt:α→α→Bool):List α→List α
 | []=>[]
 | x::r=>ZeR lt x (Zaf lt r)
theorem Zis {α:Type} (lt:α→α→Bool) (x:α):∀ l,(ZeR lt x l).Perm (x::l)
 | []=>.refl _
 | y::r=>by
  unfold ZeR
  split
  ·exact .refl _
  ·exact ((Zis lt x r).cons y).trans (.swap x y r)
theorem ZbO {α:Type} (lt:α→α→Bool):∀ l,(Zaf lt l).Perm l
 | []=>.refl _
 | x::r=>(Zis lt x _).trans ((ZbO lt r).cons x)
theorem ZjM {α:Type} (f:α→D) (lt:α→α→Bool) (lk:D→D→Bool) (x:α):∀ l:List α,(∀ y∈l,lk (f x) (f y)=lt x y)→ZeP lk (f x) (l.map f)=(ZeR lt x l).map f
 | [],_=>rfl
 | y::r,h=>by
  have h1:=h y List.mem_cons_self
  have ih:=ZjM f lt lk x r fun z hz=>h z (List.mem_cons_of_mem _ hz)
  simp only [List.map_cons,ZeP,ZeR,h1,ih]
  split<;>rfl
theorem ZjX {α:Type} (f:α→D) (lt:α→α→Bool) (lk:D→D→Bool):∀ l:List α,(∀ x∈l,∀ y∈l,lk (f x) (f y)=lt x y)→ZcH lk (l.map f)=(Zaf lt l).map f
 | [],_=>rfl
 | x::r,h=>by
  have ih:=ZjX f lt lk r fun y hy z hz=>h y (List.mem_cons_of_mem _ hy) z (List.mem_cons_of_mem _ hz)
  simp only [List.map_cons,ZcH,Zaf,ih]
  exact ZjM f lt lk x _ fun y hy=>h x List.mem_cons_self y (List.mem_cons_of_mem _ ((ZbO lt r).subset hy))
theorem Zm7 {α:Type} {F:List Sl→Option Rv} (f:α→D) {lt:α→α→Bool} (T:TO lt) (b:Bool) (xs:List α) (few:xs.length<64) (ky:α→D) (tells:∀ a∈xs,F [.val (f a)]=some (.val (ky a))) (mode:∀ a∈xs,KMode b (ky a)) (cmp:∀ a∈xs,∀ c∈xs,ltN 6 (ky a) (ky c)=some (lt a c)):ZhJ F (xs.map f)=some ((Zaf lt xs).map f):=by
 have hk:∀ a∈xs,Za7 F (f a)=ky a:=fun a ha=>by unfold Za7;rw [tells a ha];rfl
 have hl:∀ a∈xs,∀ c∈xs,ltF F (f a) (f c)=lt a c:=fun a ha c hc=>ZjC (by rw [hk a ha,hk c hc];exact cmp a ha c hc)
 have ok:SortOk F (xs.map f):={
  few:=by simpa using few
  tells:=fun x hx=>by obtain ⟨a,ha,rfl⟩:=List.mem_map.mp hx;exact ⟨_,tells a ha⟩
  mode:=⟨b,fun x hx=>by obtain ⟨a,ha,rfl⟩:=List.mem_map.mp hx;rw [hk a ha];exact mode a ha⟩
  cmp:=fun x hx y hy=>by
   obtain ⟨a,ha,rfl⟩:=List.mem_map.mp hx
   obtain ⟨c,hc,rfl⟩:=List.mem_map.mp hy
   rw [hk a ha,hk c hc];exact ⟨_,cmp a ha c hc⟩
  asym:=fun x hx y hy h=>by
   obtain ⟨a,ha,rfl⟩:=List.mem_map.mp hx
   obtain ⟨c,hc,rfl⟩:=List.mem_map.mp hy
   rw [hl a ha c hc] at h;rw [hl c hc a ha];exact T.asym a c h
  neg:=fun x hx y hy z hz h=>by
   obtain ⟨a,ha,rfl⟩:=List.mem_map.mp hx
   obtain ⟨c,hc,rfl⟩:=List.mem_map.mp hy
   obtain ⟨e,he,rfl⟩:=List.mem_map.mp hz
   rw [hl a ha e he] at h;rw [hl a ha c hc,hl c hc e he];exact T.neg a c e h
  anti:=fun x hx y hy h1 h2=>by
   obtain ⟨a,ha,rfl⟩:=List.mem_map.mp hx
   obtain ⟨c,hc,rfl⟩:=List.mem_map.mp hy
   rw [hl a ha c hc] at h1;rw [hl c hc a ha] at h2;rw [T.anti a c h1 h2] }
 rw [ZmS ok,ZjX f lt _ xs hl]
def ded {α:Type} [DecidableEq α]:Option α→List α→List α
 | _,[]=>[]
 | p,a::r=>if p=some a then ded p r else a::ded (some a) r
theorem ZiB {α:Type} [DecidableEq α]:∀ (l:List α) (p:Option α),l.Nodup→(∀ a,p=some a→a∉l)→ded p l=l
 | [],_,_,_=>rfl
 | a::r,p,h,hp=>by
  obtain ⟨h1,h2⟩:=List.nodup_cons.mp h
  unfold ded
  rw [if_neg (fun e=>hp a e List.mem_cons_self),ZiB r (some a) h2 fun b hb=>by cases hb;exact h1]
def ltA:At→At→Bool
 | .non,.non=>false
 | .non,_=>true
 | .int i,.int j=>decide (i<j)
 | .int _,.str _=>true
 | .str x,.str y=>decide (x.cps.toList<y.cps.toList)
 | _,_=>false
theorem Zsz {x y:Str} (h:x.cps.toList=y.cps.toList):x=y:=by
 obtain ⟨⟨a⟩⟩:=x
 obtain ⟨⟨b⟩⟩:=y
 simp at h
 rw [h]
theorem TO_A:TO ltA:={
 asym:=fun a b h=>by
  cases a<;>cases b<;>simp only [ltA,decide_eq_true_eq,decide_eq_false_iff_not,Bool.false_eq_true] at h ⊢
  ·omega
  ·exact List.lt_asymm h
 neg:=fun a b c h=>by
  cases a<;>cases c<;>simp only [ltA,decide_eq_true_eq,Bool.false_eq_true] at h<;>cases b<;>simp only [ltA,decide_eq_true_eq,Bool.false_eq_true,true_or,or_true,false_or,or_false]
  ·omega
  ·next x y z =>
   by_cases h1:x.cps.toList<z.cps.toList
   ·exact .inl h1
   ·exact .inr (List.lt_of_le_of_lt (List.not_lt.mp h1) h)
 anti:=fun a b h1 h2=>by
  cases a<;>cases b<;>simp only [ltA,decide_eq_false_iff_not,Bool.true_eq_false] at h1 h2
  ·rfl
  ·rw [At.int.injEq];omega
  ·rw [At.str.injEq];exact Zsz (List.le_antisymm (List.not_lt.mp h2) (List.not_lt.mp h1)) }
def ltL:List At→List At→Bool
 | [],[]=>false
 | [],_::_=>true
 | _::_,[]=>false
 | a::r,b::s=>if a=b then ltL r s else ltA a b
theorem ZjY:∀ a b,ltL a b=true→ltL b a=false
 | [],[],_=>rfl
 | [],_::_,_=>rfl
 | _::_,[],h=>by cases h
 | a::r,b::s,h=>by
  unfold ltL at h ⊢
  by_cases e:a=b
  ·subst e;simp only [if_true] at h ⊢;exact ZjY r s h
  ·rw [if_neg e] at h;rw [if_neg (fun z=>e z.symm)];exact TO_A.asym a b h
theorem ZkC:∀ a b c,ltL a c=true→ltL a b=true∨ltL b c=true
 | [],[],c,h=>.inr h
 | [],_::_,_,_=>.inl rfl
 | _::_,_,[],h=>by cases h
 | _::_,[],_::_,_=>.inr rfl
 | a::r,b::s,c::t,h=>by
  unfold ltL at h ⊢
  by_cases e1:a=b
  ·subst e1
   by_cases e2:a=c
   ·simp only [e2,if_true] at h ⊢;exact ZkC r s t h
   ·rw [if_neg e2] at h;right;rw [if_neg e2];exact h
  ·rw [if_neg e1]
   by_cases e2:b=c
   ·subst e2;rw [if_neg e1] at h;exact .inl h
   ·rw [if_neg e2]
    by_cases e3:a=c
    ·subst e3
     cases hc:ltA a b with
     | true=>exact .inl rfl
     | false =>
      cases hd:ltA b a with
      | true=>exact .inr rfl
      | false=>exact absurd (TO_A.anti a b hc hd) e1
    ·rw [if_neg e3] at h;exact TO_A.neg a b c h
theorem Zjs:∀ a b,ltL a b=false→ltL b a=false→a=b
 | [],[],_,_=>rfl
 | [],_::_,h,_=>by cases h
 | _::_,[],_,h=>by cases h
 | a::r,b::s,h1,h2=>by
  unfold ltL at h1 h2
  by_cases e:a=b
  ·subst e;simp only [if_true] at h1 h2;rw [Zjs r s h1 h2]
  ·rw [if_neg e] at h1;rw [if_neg (fun z=>e z.symm)] at h2;exact absurd (TO_A.anti a b h1 h2) e
theorem Zsr:TO ltL:=⟨ZjY,ZkC,Zjs⟩
def rk2:At→D
 | .non=>.tup [.int 0,.int 0]
 | .int i=>.tup [.int 1,.int i]
 | .str x=>.tup [.int 2,.str x]
theorem Zqs (n:Nat) (a b:At):ltN (n+2) (rk2 a) (rk2 b)=some (ltA a b):=by
 cases a<;>cases b<;>simp [rk2,ltA]
 ·intro e;omega
 ·intro e;subst e;simp
theorem Zrz (a b:At):eqD (rk2 a) (rk2 b)=decide (a=b):=by
 cases a<;>cases b<;>simp [rk2]
theorem ZlP (n:Nat) (a:At):okD (n+1) (rk2 a)=true:=by cases a<;>cases n<;>rfl
theorem ZkA (n:Nat):∀ l m:List At,ZdS (ltN (n+2)) (l.map rk2) (m.map rk2)=some (ltL l m)
 | [],[]=>rfl
 | [],_::_=>rfl
 | _::_,[]=>rfl
 | a::r,b::s=>by
  have ih:=ZkA n r s
  have h1:=ZlP 11 a
  have h2:=ZlP 11 b
  have h3:=Zrz a b
  have h4:=Zqs n a b
  simp only [List.map_cons,ZdS,Zet,h1,h2,h3,h4,ih,ltL,Bool.and_self,if_true,decide_eq_true_eq]
  split<;>rfl
theorem ZhW {α:Type} [DecidableEq α]:∀ (l:List α) (p:Option α),(ded p l).length≤l.length
 | [],_=>Nat.le_refl _
 | a::r,p=>by
  unfold ded
  split
  ·exact Nat.le_succ_of_le (ZhW r p)
  ·exact Nat.succ_le_succ (ZhW r _)
theorem Zah {np n:Nat} {g:VE→Res} {ss:List Sl} {r:Rv} (h:ss.length=np) (e:g (ss++List.replicate (n-np) .no)=.ret r):fnP np n g ss=some r:=by
 unfold fnP
 rw [if_pos h,e]
theorem Zi7 {α:Type} (x:α) (xs:List α):atI (x::xs) 0=some x:=by
 have:(0:Int)<(xs.length:Int)+1:=by omega
 simp [atI,ixN,this]
theorem Zhf {α:Type} (xs:List α) (x:α):atI (xs++[x]) (-1)=some x:=by
 have h1:(-1+((xs.length:Int)+1)).toNat=xs.length:=by omega
 have h2 : -((xs.length:Int)+1) ≤ -1:=by omega
 simp [atI,ixN,h1,h2]
theorem ZiN (a:At):F_value_rank [.val (aD a)]=some (.val (rk2 a)):=by
 have h2:(2:Nat)≤sizeLine:=by decide
 cases a<;>simp [F_value_rank,fnP,ZdE,F_is_whole,ZeT,aD,rk2,h2]
theorem Zka (l:List At) (h:l.length≤1000):F_key_rank [.val (lnD l)]=some (.val (.tup (l.map rk2))):=by
 have hz:l.length≤sizeLine:=Nat.le_trans h (by decide)
 have hc:=Zan (b:=Zo 0) (e:=ZdP) (ρ:=[.no]) aD rk2 l fun a _=>⟨[.val (aD a)],rfl,by
  have:=ZiN a
  simp only [ZdP,Zk,Zc,rdA,List.getElem?_cons_zero,Option.bind,this,Option.map,rvD]⟩
 simp [F_key_rank,fnP,Zfi,lnD,hz,ZZ,hc,-List.map_map]
theorem Zcu (s0:Sl):∀ (ls acc:List (List At)) (s2:Sl),acc.length+ls.length<100000→∃ s2',ZJ (Zo 2) ZaC (ls.map lnD) [s0,.own (acc.map lnD),s2]=.next [s0,.own ((acc++ded acc.getLast? ls).map lnD),s2']
 | [],acc,s2,_=>⟨s2,by simp [ZJ,ded]⟩
 | l::ls,acc,s2,hz=>by
  simp only [List.length_cons] at hz
  have hzz:acc.length<sizeLine:=Nat.lt_of_lt_of_le (show acc.length<100000 by omega) (by decide)
  have hn:Zen (some (.int 1))=some (.int (-1)):=rfl
  simp only [List.map_cons,ZJ,Zo,List.set_cons_succ,List.set_cons_zero]
  rcases List.eq_nil_or_concat acc with rfl | ⟨pre,x,rfl⟩
  ·obtain ⟨s2',e⟩:=Zcu s0 ls [l] (.val (lnD l)) (by simp;omega)
   refine ⟨s2',?_⟩
   have hb:ZaC [s0,.own ([].map lnD),.val (lnD l)]=.next [s0,.own ([l].map lnD),.val (lnD l)]:=by
    have h0:(0:Nat)<sizeLine:=by decide
    simp [ZaC,h0]
   have hd:ded ([]:List (List At)).getLast? (l::ls)=l::ded (some l) ls:=rfl
   rw [hb,hd]
   exact e
  ·rw [List.concat_eq_append] at hz hzz ⊢
   have hix:ixD (.lst ((pre++[x]).map lnD)) (.int (-1))=some (lnD x):=by
    show atI ((pre++[x]).map lnD) (-1)=_
    rw [List.map_append];exact Zhf _ _
   have htr:Zat (some (.lst ((pre++[x]).map lnD)))=some true:=by simp
   have hne:=Zmc x l
   have hlast:(pre++[x]).getLast?=some x:=by simp
   by_cases hx:x=l
   ·subst hx
    obtain ⟨s2',e⟩:=Zcu s0 ls (pre++[x]) (.val (lnD x)) (by omega)
    refine ⟨s2',?_⟩
    have hb:ZaC [s0,.own ((pre++[x]).map lnD),.val (lnD x)]=.next [s0,.own ((pre++[x]).map lnD),.val (lnD x)]:=by
     simp only [ZaC,Zf,Zt,orB,ZaX,asB,Zd,rdP,rdV,rdO,List.getElem?_cons_succ,List.getElem?_cons_zero,Option.bind,Option.map,htr,hn,hix,hne,decide_true,Bool.not_true]
    rw [hb,hlast,ded,if_pos rfl,← hlast]
    exact e
   ·obtain ⟨s2',e⟩:=Zcu s0 ls (pre++[x]++[l]) (.val (lnD l)) (by simp at hz ⊢;omega)
    refine ⟨s2',?_⟩
    have hl:(pre++[x]++[l]).getLast?=some l:=by simp
    have hb:ZaC [s0,.own ((pre++[x]).map lnD),.val (lnD l)]=.next [s0,.own ((pre++[x]++[l]).map lnD),.val (lnD l)]:=by
     rw [show ((pre++[x]++[l]).map lnD)=(pre++[x]).map lnD++[lnD l] by simp]
     simp only [ZaC,Zf,Zt,orB,ZaX,asB,Zd,rdP,rdV,rdO,List.getElem?_cons_succ,List.getElem?_cons_zero,Option.bind,Option.map,htr,hn,hix,hne,hx,decide_false,Bool.not_false,Bool.not_true,Zam,List.length_map,hzz,if_true,List.set_cons_succ,List.set_cons_zero]
    rw [hb,hlast,ded,if_neg (by simpa using hx)]
    rw [hl] at e
    rw [show pre++[x]++l::ded (some l) ls=pre++[x]++[l]++ded (some l) ls by simp]
    exact e
theorem Zkp (s:Sl) (ls:List (List At)) (hs:s=.val (.lst (ls.map lnD))∨s=.lent (ls.map lnD)) (hl:ls.length<64) (hn:∀ l∈ls,l≠[]∧l.length≤1000):F_in_order [s]=some (.own ((ded none (Zaf ltL ls)).map lnD)):=by
 have hs':=Zm7 (F:=F_key_rank) lnD Zsr false ls hl (fun l=>.tup (l.map rk2)) (fun l h=>Zka l (hn l h).2) (fun l h=>by
  cases l with
  | nil=>exact absurd rfl (hn [] h).1
  | cons a r=>cases a<;>exact ⟨_,_,rfl⟩) (fun l _ m _=>ZkA 3 l m)
 have hp:=(ZbO ltL ls).length_eq
 obtain ⟨s2',e⟩:=Zcu s (Zaf ltL ls) [] .no (by rw [hp];simp;omega)
 have hz:(Zaf ltL ls).length≤sizeLine:=by rw [hp];exact Nat.le_trans (show ls.length≤1000 by omega) (by decide)
 simp only [List.map_nil,List.nil_append,List.getLast?_nil] at e
 refine Zah rfl ?_
 show Zdj [s,.no,.no]=_
 have hsh:Zr (some ([]:List D))=some []:=rfl
 rcases hs with rfl | rfl<;>simp only [Zdj,Zf,Zae,ZT,Zgf,Zw,ZA,rdP,rdO,Zaw,Zp,hsh,hs',e,List.getElem?_cons_succ,List.getElem?_cons_zero,Option.bind,Option.map,List.set_cons_succ,List.set_cons_zero]
def ZmP (a b:At):Bool:=ltL [a] [b]
theorem Zn5 (a b:At):ZmP a b=ltA a b:=by
 unfold ZmP ltL
 by_cases h:a=b
 ·subst h;simp [ltL,TO_A.irr]
 ·rw [if_neg h]
theorem ZkG (a:At):∀ l:List At,ZeR ltL [a] (l.map fun x=>[x])=(ZeR ltA a l).map fun x=>[x]
 | []=>rfl
 | b::r=>by
  have h:=Zn5 a b
  unfold ZmP at h
  simp only [List.map_cons,ZeR,h,ZkG a r]
  split<;>rfl
theorem ZkJ:∀ l:List At,Zaf ltL (l.map fun x=>[x])=(Zaf ltA l).map fun x=>[x]
 | []=>rfl
 | a::r=>by simp only [List.map_cons,Zaf,ZkJ r,ZkG]
theorem ZhN:∀ (l:List At) (p:Option At),ded (p.map fun x=>[x]) (l.map fun x=>[x])=(ded p l).map fun x=>[x]
 | [],_=>rfl
 | a::r,p=>by
  have h:(p.map (fun x=>[x])=some [a])↔p=some a:=by cases p<;>simp
  simp only [List.map_cons,ded,h]
  split
  ·exact ZhN r p
  ·have:=ZhN r (some a)
   simp only [Option.map_some] at this
   rw [this];rfl
theorem ZgA (s:Sl) (l:List At) (hs:s=.val (.lst (l.map aD))∨s=.lent (l.map aD)) (hl:l.length<64):F_values_in_order [s]=some (.own ((ded none (Zaf ltA l)).map aD)):=by
 have hz:l.length≤sizeLine:=Nat.le_trans (show l.length≤1000 by omega) (by decide)
 have h1:(1:Nat)≤sizeLine:=by decide
 have hc:=Zan (b:=Zo 0) (e:=ZbB) (ρ:=[.no]) aD (fun a=>lnD [a]) l fun a _=>⟨[.val (aD a)],rfl,by simp [ZbB,lnD,h1]⟩
 have e1:(l.map fun a=>lnD [a])=(l.map fun x=>[x]).map lnD:=by rw [List.map_map];rfl
 have hi:=Zkp (.val (.lst ((l.map fun x=>[x]).map lnD))) (l.map fun x=>[x]) (.inl rfl) (by simpa using hl) (fun m hm=>by obtain ⟨a,_,rfl⟩:=List.mem_map.mp hm;exact ⟨by simp,by simp⟩)
 rw [ZkJ,show (none:Option (List At))=(none:Option At).map (fun x=>[x]) from rfl,ZhN] at hi
 have hlen:(ded none (Zaf ltA l)).length≤l.length:=by
  have h2:=(ZbO ltA l).length_eq
  rw [← h2]
  exact ZhW _ _
 generalize hW:ded none (Zaf ltA l)=W at *
 have hzW:W.length≤sizeLine:=Nat.le_trans hlen hz
 have hd:=Zan (b:=Zo 0) (e:=ZbD) (ρ:=[.no]) (fun a=>lnD [a]) aD W fun a _=>⟨[.val (lnD [a])],rfl,by
  have:ixD (lnD [a]) (.int 0)=some (aD a):=by show atI ([a].map aD) 0=_;exact Zi7 _ _
  simp only [ZbD,Zd,rdP,List.getElem?_cons_zero,Option.bind,this]⟩
 have e2:(W.map fun a=>lnD [a])=(W.map fun x=>[x]).map lnD:=by rw [List.map_map];rfl
 rw [e1] at hc
 rw [e2] at hd
 have q1:Zr (some (l.map aD))=some (l.map aD):=ZN _ (by simp;omega)
 have q2:Zr (some ((W.map fun x=>[x]).map lnD))=some ((W.map fun x=>[x]).map lnD):=ZN _ (by simp;omega)
 generalize (l.map fun x=>[x]).map lnD=A at *
 generalize (W.map fun x=>[x]).map lnD=B at *
 refine Zah rfl ?_
 show Zbc [s]=_
 have hin:ZZ 1 [] [s]=[.no]:=rfl
 rcases hs with rfl | rfl<;>simp only [Zbc,Zf,Zaw,ZX,hin,rdQ,ZA,Zk,Zc,Zi,Zw,List.getElem?_cons_zero,Option.bind,Option.map,q1,hc,hi,Za3,q2,hd]
theorem Zfs (l:List At) (j:Nat) (h:l.length≤1000):F_line_at [.val (lnD l),.val (.int (j:Int))]=some (.val (aD (l.getD j .non))):=by
 have hz:l.length≤sizeLine:=Nat.le_trans h (by decide)
 by_cases hj:j<l.length
 ·have hj':(j:Int)<(l.length:Int):=by omega
  have:ixD (lnD l) (.int (j:Int))=some (aD (l.getD j .non)):=by
   show atI (l.map aD) (j:Int)=_
   exact Zb3 (by simp [List.getElem?_eq_getElem hj,List.getD])
  have hlen:Z6 [lnD l]=some (.int (l.length:Int)):=by simp [lnD]
  simp [F_line_at,fnP,Zeh,-ixD,-Z6,hlen,this,hj']
 ·have hj':¬ (j:Int)<(l.length:Int):=by omega
  have hlen:Z6 [lnD l]=some (.int (l.length:Int)):=by simp [lnD]
  have e:l.getD j .non=.non:=by simp [List.getD,List.getElem?_eq_none (show l.length≤j by omega)]
  rw [e]
  simp [F_line_at,fnP,Zeh,-ixD,-Z6,hlen,hj',aD]
theorem Zdu {α:Type} {b:D→VE→Option VE} {t:VE→Option Bool} {e:VE→Option D} {ρ:VE} (G F:α→D) (P:α→Bool):∀ (xs:List α),(∀ x∈xs,∃ ρ1,b (G x) ρ=some ρ1∧t ρ1=some (P x)∧e ρ1=some (F x))→ZaV b t e ρ (xs.map G)=some ((xs.filter P).map F)
 | [],_=>rfl
 | x::xs,h=>by
  obtain ⟨ρ1,h1,h2,h3⟩:=h x List.mem_cons_self
  have ih:=Zdu G F P xs fun y hy=>h y (List.mem_cons_of_mem _ hy)
  cases hp:P x with
  | true=>simp [ZaV,h1,h2,h3,hp,ih]
  | false=>simp [ZaV,h1,h2,hp,ih]
def hd0 (l:List At):At:=l.getD 0 .non
theorem ZpS (a b:At):eqO (aD a) (aD b)=some (.bl (decide (a=b))):=by
 simp only [eqO,Zet,ZdD,ZfX,Bool.and_self,if_true]
theorem Zfl (l:List At) (h:l≠[]):ixD (lnD l) (.int 0)=some (aD (hd0 l)):=by
 cases l with
 | nil=>exact absurd rfl h
 | cons a r=>show atI ((a::r).map aD) 0=_;exact Zi7 _ _
theorem Zog {l:List At} (h:l.Nodup):ded none (Zaf ltA l)=Zaf ltA l:=ZiB _ _ ((ZbO ltA l).nodup_iff.mpr h) fun _ e=>by cases e
theorem ZR (x n:Int) (h:0<n):Zai (.int x) (.int n)=some (.int (x%n)):=by
 show (if 0<n then some (D.int (x%n)) else none)=_
 rw [if_pos h]
def mkD (acc:KDs) (ps:List (At×D)):KDs:=ps.foldl (fun kvs p=>Zao kvs (.at p.1) p.2) acc
theorem Zb5 (a:At):okK (aD a)=some (.at a):=ZlK (.at a)
theorem ZeB {kvs:KDs} {a:At} {v:D} (h:∀ p∈kvs,ZbJ p.1=true):∀ p∈Zao kvs (.at a) v,ZbJ p.1=true:=fun p hp=>by
 rcases ZnI hp with hp | rfl
 ·exact h p hp
 ·rfl
theorem Zfb:∀ (ps:List (At×D)) (acc:KDs),(∀ p∈acc,ZbJ p.1=true)→acc.length+ps.length≤100000→Zb0 acc (ps.map fun p=>.tup [aD p.1,p.2])=some (mkD acc ps)
 | [],acc,_,_=>rfl
 | p::ps,acc,h,hz=>by
  simp only [List.length_cons] at hz
  have hl:acc.length<sizeLine:=Nat.lt_of_lt_of_le (show acc.length<100000 by omega) (by decide)
  have hp:=ZdZ acc (.at p.1) p.2
  have ih:=Zfb ps (Zao acc (.at p.1) p.2) (ZeB h) (by omega)
  simp only [List.map_cons,Zb0,Zb5,Zb4 p.1 h,hl,decide_true,Bool.and_self,if_true,ih]
  rfl
theorem ZhG:∀ (ps:List (At×D)) (acc:KDs),(∀ p∈acc,ZbJ p.1=true)→∀ p∈mkD acc ps,ZbJ p.1=true
 | [],_,h=>h
 | p::ps,acc,h=>ZhG ps _ (ZeB h)
theorem ZkF:∀ (ps:List (At×D)) (acc:KDs),(mkD acc ps).length≤acc.length+ps.length
 | [],acc=>Nat.le_refl _
 | p::ps,acc=>by
  have ih:=ZkF ps (Zao acc (.at p.1) p.2)
  have hp:=ZdZ acc (.at p.1) p.2
  simp only [mkD,List.foldl_cons,List.length_cons] at ih ⊢
  omega
theorem Zjz {a:At}:∀ (ps:List (At×D)) (acc:KDs),a∉ps.map (·.1)→ZP (mkD acc ps) (.at a)=ZP acc (.at a)
 | [],_,_=>rfl
 | p::ps,acc,h=>by
  rw [List.map_cons,List.mem_cons,not_or] at h
  have ih:=Zjz ps (Zao acc (.at p.1) p.2) h.2
  show ZP (mkD (Zao acc (.at p.1) p.2) ps) _=_
  rw [ih,ZcN,if_neg (fun e=>h.1 (KT.at.inj e).symm)]
theorem ZhZ {a:At} {v:D}:∀ (ps:List (At×D)) (acc:KDs),(ps.map (·.1)).Nodup→(a,v)∈ps→ZP (mkD acc ps) (.at a)=some v
 | p::ps,acc,hn,h=>by
  rw [List.map_cons,List.nodup_cons] at hn
  show ZP (mkD (Zao acc (.at p.1) p.2) ps) _=_
  rcases List.mem_cons.mp h with rfl | h
  ·rw [Zjz ps _ hn.1,ZcN,if_pos rfl]
  ·exact ZhZ ps _ hn.2 h
theorem Zmb (a:At):∀ (ps:List (At×D)) (acc:KDs),(ZP (mkD acc ps) (.at a)).isSome=((ZP acc (.at a)).isSome||decide (a∈ps.map (·.1)))
 | [],acc=>by simp [mkD]
 | p::ps,acc=>by
  have ih:=Zmb a ps (Zao acc (.at p.1) p.2)
  show (ZP (mkD (Zao acc (.at p.1) p.2) ps) _).isSome=_
  rw [ih,ZcN]
  by_cases e:p.1=a
  ·subst e;simp
  ·have e':¬ KT.at p.1=KT.at a:=fun z=>e (KT.at.inj z)
   have e2:¬ a=p.1:=fun z=>e z.symm
   rw [if_neg e',Bool.eq_iff_iff]
   simp [e2]
theorem ZsM {ps:List (At×D)} {a:At} {v:D} (hn:(ps.map (·.1)).Nodup) (h:(a,v)∈ps):Zbs (.lst (Zy (mkD [] ps)) true) (aD a)=some v:=by
 have hh:=Zb4 (kvs:=mkD [] ps) a (ZhG ps [] fun _ h=>nomatch h)
 rw [Zdf,Zb5]
 simp only [Option.bind,hh,if_true,ZhZ ps [] hn h]
theorem Zpm (neg:Bool) (ps:List (At×D)) (a:At):Zd4 neg (aD a) (.lst (Zy (mkD [] ps)) true)=some (.bl (neg != decide (a∈ps.map (·.1)))):=by
 have hh:=Zb4 (kvs:=mkD [] ps) a (ZhG ps [] fun _ h=>nomatch h)
 have hi:=Zmb a ps []
 rw [ZlS,Zb5]
 simp only [Option.bind,hh,if_true,hi]
 simp [ZP]
theorem Zcc (a:At) (l:List At):inD false (aD a) (.lst (l.map aD))=some (.bl (decide (a∈l)))∧inD true (aD a) (.lst (l.map aD))=some (.bl (!decide (a∈l))):=by
 have h1:(l.map aD).all (okD 12)=true:=by
  rw [List.all_map,List.all_eq_true]
  exact fun x _=>ZdD 12 x
 have h2:ZcK (aD a) (l.map aD)=decide (a∈l):=by
  unfold ZcK
  rw [Bool.eq_iff_iff,List.any_map,List.any_eq_true]
  constructor
  ·rintro ⟨x,hx,e⟩
   simp only [Function.comp,ZfX,decide_eq_true_eq] at e
   subst e;simpa using hx
  ·intro h
   exact ⟨a,by simpa using h,by simp [Function.comp,ZfX]⟩
 simp only [inD,Zet,ZdD,h1,h2,Bool.and_self,if_true,Bool.false_eq_true,if_false,and_self]
structure ZaW (w:Nat) (la:List (List At)):Prop where
 w0:0<w
 w4:w≤4
 l0:0<la.length
 l9:la.length≤40
 len:∀ l∈la,l.length=w
 vs:∀ l∈la,∀ a∈l,a≠.non
 nd:(la.map hd0).Nodup
structure AP where
 a:Nat
 lv:Nat
 tp:Bool
 vs:List At
def Zar (q:AP):D:=if q.tp then .tup (q.vs.map aD) else .lst (q.vs.map aD)
def pkD (q:AP):D:=.tup [.int (q.a:Int),.int (q.lv:Int),Zar q]
theorem ZoI (a:At) (l:List At):inD true (aD a) (.tup (l.map aD))=some (.bl (!decide (a∈l))):=(Zcc a l).2
theorem Zoe (a:At) (q:AP):inD true (aD a) (Zar q)=some (.bl (!decide (a∈q.vs))):=by
 unfold Zar
 cases q.tp
 ·exact (Zcc a q.vs).2
 ·exact ZoI a q.vs
def ZD (qs:List AP) (x:Nat) (l:List At):Bool:=qs.all fun q=>if q.a=x then decide (l.getD q.lv .non∈q.vs) else true
def keep (x:Nat):List AP→List (List At)→List (List At)
 | [],la=>la
 | q::qs,la=>keep x qs (if q.a=x then la.filter (fun l=>decide (l.getD q.lv .non∈q.vs)) else la)
theorem Zkr (x:Nat):∀ (qs:List AP) (la:List (List At)),keep x qs la=la.filter (ZD qs x)
 | [],la=>by
  unfold keep
  rw [List.filter_eq_self.mpr]
  intro l _;rfl
 | q::qs,la=>by
  unfold keep
  rw [Zkr x qs]
  by_cases h:q.a=x
  ·rw [if_pos h,List.filter_filter]
   refine List.filter_congr fun l _=>?_
   unfold ZD
   rw [List.all_cons,if_pos h,Bool.and_comm]
  ·rw [if_neg h]
   refine List.filter_congr fun l _=>?_
   unfold ZD
   rw [List.all_cons,if_neg h,Bool.true_and]
theorem Zff (s0 s1:Sl) (x:Nat):∀ (qs:List AP) (la:List (List At)) (s4 s5:Sl),(∀ q∈qs,q.vs.length≤50)→la.length≤1000→(∀ l∈la,l.length≤4) →
  ∃ s4' s5',ZJ (Zo 4) ZbZ (qs.map pkD) [s0,s1,.val (.int (x:Int)),.val (.lst (la.map lnD)),s4,s5]=.next [s0,s1,.val (.int (x:Int)),.val (.lst ((keep x qs la).map lnD)),s4',s5']
 | [],la,s4,s5,_,_,_=>⟨s4,s5,rfl⟩
 | q::qs,la,s4,s5,hq,hl,h4=>by
  have hq1:=hq q List.mem_cons_self
  have i0:ixD (pkD q) (.int 0)=some (.int (q.a:Int)):=rfl
  have i1:ixD (pkD q) (.int 1)=some (.int (q.lv:Int)):=rfl
  have i2:ixD (pkD q) (.int 2)=some (Zar q):=rfl
  have hsi:ZA (Zar q)=some (q.vs.map aD):=by unfold Zar;cases q.tp<;>rfl
  have q1:Zr (some (q.vs.map aD))=some (q.vs.map aD):=ZN _ (by simp;omega)
  have q2:Zr (some (la.map lnD))=some (la.map lnD):=ZN _ (by simp;omega)
  have e0:eqO (.int (q.a:Int)) (.int (x:Int))=some (.bl (decide (q.a=x))):=by simp;omega
  simp only [List.map_cons,ZJ,Zo,List.set_cons_succ,List.set_cons_zero]
  by_cases hx:q.a=x
  ·rw [decide_eq_true hx] at e0
   have hc:=Zan (b:=Zo 0) (e:=Zfa) (ρ:=[.no]) aD (fun a=>.tup [aD a,.bl true]) q.vs fun a _=>⟨[.val (aD a)],rfl,by
    have hsh:Zr (some [aD a,.bl true])=some [aD a,.bl true]:=ZN _ (by simp)
    simp only [Zfa,Zc,Zi,Zp,rdV,List.getElem?_cons_zero,Option.bind,Option.map,hsh]⟩
   have hf:=Zfb (q.vs.map fun a=>(a,D.bl true)) [] (fun _ h=>nomatch h) (by simp;omega)
   rw [List.map_map] at hf
   have hd:∀ a,Zd4 false (aD a) (.lst (Zy (mkD [] (q.vs.map fun a=>(a,D.bl true)))) true)=some (.bl (decide (a∈q.vs))):=fun a=>by
    rw [Zpm,List.map_map]
    have:((fun x:At×D=>x.1)∘fun a=>(a,D.bl true))=fun a:At=>a:=rfl
    rw [this,List.map_id']
    cases decide (a∈q.vs)<;>rfl
   have e1:(q.vs.map fun a=>D.tup [aD a,.bl true])=q.vs.map ((fun p=>D.tup [aD p.1,p.2])∘fun a=>(a,D.bl true)):=rfl
   rw [e1] at hc
   generalize mkD [] (q.vs.map fun a=>(a,D.bl true))=KV at *
   generalize q.vs.map ((fun p=>D.tup [aD p.1,p.2])∘fun a=>(a,D.bl true))=PS at *
   have hc2:=Zdu (b:=Zo 0) (t:=Ze9) (e:=Zhs) (ρ:=[.no,.val (pkD q),.lent (Zy KV) true]) lnD lnD (fun l=>decide (l.getD q.lv .non∈q.vs)) la fun l hm=>⟨[.val (lnD l),.val (pkD q),.lent (Zy KV) true],rfl,by
    have h1:=Zfs l q.lv (by have:=h4 l hm;omega)
    have h2:=hd (l.getD q.lv .non)
    simp only [Ze9,Zk,Zc,Zi,rdA,rdP,Zd,asB,List.getElem?_cons_succ,List.getElem?_cons_zero,Option.bind,Option.map,i1,h1,Zap,h2],rfl⟩
   obtain ⟨a,b,e⟩:=Zff s0 s1 x qs (la.filter (fun l=>decide (l.getD q.lv .non∈q.vs))) (.val (pkD q)) (.own (Zy KV) true) (fun y hy=>hq y (List.mem_cons_of_mem _ hy)) (Nat.le_trans (List.length_filter_le _ _) hl) (fun l hm=>h4 l (List.mem_filter.mp hm).1)
   refine ⟨a,b,?_⟩
   have hb:ZbZ [s0,s1,.val (.int (x:Int)),.val (.lst (la.map lnD)),.val (pkD q),s5]=.next [s0,s1,.val (.int (x:Int)),.val (.lst ((la.filter (fun l=>decide (l.getD q.lv .non∈q.vs))).map lnD)),.val (pkD q),.own (Zy KV) true]:=by
    generalize (la.filter (fun l=>decide (l.getD q.lv .non∈q.vs))).map lnD=L2 at *
    generalize la.map lnD=L at *
    generalize q.vs.map aD=VS at *
    generalize pkD q=PQ at *
    have hin1:∀ ρ:VE,ZZ 1 [] ρ=[.no]:=fun _=>rfl
    have hsl:ZA (.lst L)=some L:=rfl
    have hin2:ZZ 1 [4,5] [s0,s1,.val (.int (x:Int)),.val (.lst L),.val PQ,.own (Zy KV) true]=[.no,.val PQ,.lent (Zy KV) true]:=rfl
    simp only [ZbZ,Zf,Zt,asB,Zd,rdP,rdQ,Zq,ZbF,Zft,Zw,ZX,hin1,hin2,List.getElem?_cons_succ,List.getElem?_cons_zero,List.set_cons_succ,List.set_cons_zero,Option.bind,Option.map,i0,e0,i2,hsi,q1,hc,hf,hsl,q2,hc2]
   rw [hb]
   unfold keep
   rw [if_pos hx]
   exact e
  ·rw [decide_eq_false hx] at e0
   obtain ⟨a,b,e⟩:=Zff s0 s1 x qs la (.val (pkD q)) s5 (fun y hy=>hq y (List.mem_cons_of_mem _ hy)) hl h4
   refine ⟨a,b,?_⟩
   have hb:ZbZ [s0,s1,.val (.int (x:Int)),.val (.lst (la.map lnD)),.val (pkD q),s5]=.next [s0,s1,.val (.int (x:Int)),.val (.lst (la.map lnD)),.val (pkD q),s5]:=by
    generalize la.map lnD=L at *
    generalize pkD q=PQ at *
    simp only [ZbZ,Zf,Zt,asB,Zd,rdP,List.getElem?_cons_succ,List.getElem?_cons_zero,Option.bind,i0,e0]
   rw [hb]
   unfold keep
   rw [if_neg hx]
   exact e
theorem ZlJ (L:D) (qs:List AP) (x w:Nat) (la:List (List At)) (hL:ixD L (.int (x:Int))=some (.lst (la.map lnD))) (h:ZaW w la) (hq:∀ q∈qs,q.vs.length≤50):F_picked [.val L,.val (.lst (qs.map pkD)),.val (.int (x:Int))]=some (.own ((Zaf ltA ((la.filter (ZD qs x)).map hd0)).map aD)):=by
 have h9:=h.l9
 have hw:=h.w0
 obtain ⟨a,b,e⟩:=Zff (.val L) (.val (.lst (qs.map pkD))) x qs la .no .no hq (by omega) (fun l hl=>by rw [h.len l hl];exact h.w4)
 rw [Zkr] at e
 have hfl:=List.length_filter_le (ZD qs x) la
 have hc:=Zan (b:=Zo 0) (e:=Zfr) (ρ:=[.no]) lnD (fun l=>aD (hd0 l)) (la.filter (ZD qs x)) fun l hm=>⟨[.val (lnD l)],rfl,by
  have h1:=Zfl l (by have:=h.len l (List.mem_filter.mp hm).1;rintro rfl;simp at this;omega)
  simp only [Zfr,rdP,Zd,List.getElem?_cons_zero,Option.bind,h1]⟩
 rw [show ((la.filter (ZD qs x)).map fun l=>aD (hd0 l))=((la.filter (ZD qs x)).map hd0).map aD by rw [List.map_map];rfl] at hc
 have hv:=ZgA (.val (.lst (((la.filter (ZD qs x)).map hd0).map aD))) ((la.filter (ZD qs x)).map hd0) (.inl rfl) (by rw [List.length_map];omega)
 rw [Zog (List.Nodup.sublist (List.filter_sublist.map _) h.nd)] at hv
 have q1:Zr (some ((la.filter (ZD qs x)).map lnD))=some ((la.filter (ZD qs x)).map lnD):=ZN _ (by rw [List.length_map];omega)
 generalize (Zaf ltA ((la.filter (ZD qs x)).map hd0)).map aD=W at *
 generalize ((la.filter (ZD qs x)).map hd0).map aD=HS at *
 generalize (la.filter (ZD qs x)).map lnD=L2 at *
 generalize la.map lnD=L1 at *
 generalize qs.map pkD=PP at *
 refine Zah rfl ?_
 show Zfd [.val L,.val (.lst PP),.val (.int (x:Int)),.no,.no,.no]=_
 have hin:∀ ρ:VE,ZZ 1 [] ρ=[.no]:=fun _=>rfl
 simp only [Zfd,Zf,Zq,ZT,Zaw,Zd,rdP,rdQ,ZA,ZgV,Zc,Zi,Zw,ZX,hin,List.getElem?_cons_succ,List.getElem?_cons_zero,List.set_cons_succ,List.set_cons_zero,Option.bind,Option.map,hL,e,q1,hc,hv,rvF]
theorem Zbo (l:List At) (j:Nat) (hj:j≤l.length):F_law_at [.val (lnD l),.val (.int (j:Int))]=some (.val (aD (l.getD j .non))):=by
 have hlen:Z6 [lnD l]=some (.int (l.length:Int)):=by simp [lnD]
 by_cases h:j=l.length
 ·have e:l.getD j .non=.non:=by simp [List.getD,List.getElem?_eq_none (show l.length≤j by omega)]
  rw [e]
  simp [F_law_at,fnP,ZeZ,-ixD,-Z6,hlen,h,aD]
 ·have:ixD (lnD l) (.int (j:Int))=some (aD (l.getD j .non)):=by
   show atI (l.map aD) (j:Int)=_
   exact Zb3 (by simp [List.getElem?_eq_getElem (show j<l.length by omega),List.getD])
  have h':¬ (j:Int)=(l.length:Int):=by omega
  simp [F_law_at,fnP,ZeZ,-ixD,-Z6,hlen,this,h']
theorem Zfo (s:Sl) (ns:List Int) (hs:s=.val (.lst (ns.map D.int))∨s=.lent (ns.map D.int)) (k:Int) (h0:0≤k):F_law_cell_at [s,.val (.int k)]=some (.val (.int (ns.getD k.toNat 0))):=by
 by_cases h:k<ns.length
 ·have hk:k.toNat<ns.length:=by omega
  rcases hs with rfl | rfl<;>simp [F_law_cell_at,fnP,Zcd,h,atI,ixN,h0,hk]
 ·have hk:ns.length≤k.toNat:=by omega
  rcases hs with rfl | rfl<;>simp [F_law_cell_at,fnP,Zcd,h,hk]
theorem Zrd:Zhm (.int 10) (.int 24)=some (.int (10^24)):=by simp [Zjl]
theorem Zqc (x:Int):Zd7 (.int x) (.int (10^24))=some (.int (x / 10^24)):=by
 show (if ZgM x (10^24) then some (D.int (x / 10^24)) else none)=_
 rw [if_pos (by constructor<;>decide)]
theorem dvB (x k:Int) (h:0<k) (h2:k<1000000000):Zd7 (.int x) (.int k)=some (.int (x / k)):=by
 show (if ZgM x k then some (D.int (x / k)) else none)=_
 rw [if_pos ⟨h,Int.lt_trans h2 (by decide)⟩]
theorem Zhl (x k:Int) (q1:0<k) (q2:k<1000000000):ZcX (.int x) (.int k)=some (.int (x / k)):=by
 show (if ZjU x k then some (D.int (x / k)) else none)=_
 rw [if_pos ⟨q1,by omega⟩]
theorem Zc7 {x y:Int} (h:CMul x y):ZaY (.int x) (.int y)=some (.int (x * y)):=by
 show (if CMul x y then some (D.int (x * y)) else none)=_
 rw [if_pos h]
theorem Za9 (x y:Int):ZW (.int x) (.int y)=some (.int (x+y)):=by
 have h:ZW (.int x) (.int y)=some (.int (x+y)):=rfl
 rw [h]
theorem Zp2 (x y:Int):ZhR (.int x) (.int y)=some (.int (x-y)):=by
 have h:ZhR (.int x) (.int y)=some (.int (x-y)):=rfl
 rw [h]
theorem ZcG (a b:Int):eqO (.int a) (.int b)=some (.bl (decide (a=b))):=by simp
theorem gtI (x y:Int):gtD (.int x) (.int y)=some (.bl (decide (y<x))):=rfl
theorem Zsu {x y:Int} (h:0≤x∧x<2147483647):CMul x y:=.inl ⟨by omega,by omega⟩
theorem cmk (k:Nat) (hk:k<1000):CMul (k:Int) (k:Int):=.inl ⟨by omega,by omega⟩
theorem Zqx (a b:Res):Zt (some false) a b=b:=rfl
theorem Zmd (s0 s1 s2 s3 s6 s7:Sl):∀ (ks:List Nat) (x:Int) (s5:Sl),∃ x' s5',ZJ (Zo 5) ZcS (ks.map fun (k:Nat)=>D.int (k:Int)) [s0,s1,s2,s3,.val (.int x),s5,s6,s7]=.next [s0,s1,s2,s3,.val (.int x'),s5',s6,s7]
 | [],x,s5=>⟨x,s5,rfl⟩
 | k::ks,x,s5=>by
  obtain ⟨x',s5',e⟩:=Zmd s0 s1 s2 s3 s6 s7 ks (x / 10^24) (.val (.int (k:Int)))
  refine ⟨x',s5',?_⟩
  have hb:ZcS [s0,s1,s2,s3,.val (.int x),.val (.int (k:Int)),s6,s7]=.next [s0,s1,s2,s3,.val (.int (x / 10^24)),.val (.int (k:Int)),s6,s7]:=by
   have h1:=Zrd
   have h2:=Zqc x
   generalize x / 10^24=y at *
   generalize (10:Int)^24=t at *
   simp only [ZcS,h1,h2,Zf,Zt,asB,Zd,sl3,rdP,rdV,rdA,Zk,Zc,Zi,Zp,Zw,Zu,ZB,pks,pk,asI,Zq,Zv,List.getElem?_cons_succ,List.getElem?_cons_zero,List.set_cons_succ,List.set_cons_zero,Option.bind,Option.map]
  simp only [List.map_cons,ZJ,Zo,List.set_cons_succ,List.set_cons_zero]
  rw [hb]
  exact e
theorem ZqM (s0 s1:Sl) (hi ZE:Int) (acc:List Int) (ha:acc.length<1000) (k:Nat) (hk:k<1000) (h:0<hi) (s6 s7:Sl):∃ v rest' s6' s7',Za8 [s0,s1,.val (.int ZE),.own (acc.map D.int),.val (.int hi),.val (.int (k:Int)),s6,s7]=.next [s0,s1,.val (.int rest'),.own ((acc++[v]).map D.int),.val (.int hi),.val (.int (k:Int)),s6',s7']:=by
 have hz:(acc.map D.int).length<sizeLine:=Nat.lt_of_lt_of_le (show (acc.map D.int).length<1000 by simpa using ha) (by decide)
 have g:=gtI hi 0
 rw [decide_eq_true h] at g
 refine ⟨ZE%10^24,ZE / 10^24,s6,s7,?_⟩
 have h1:=Zrd
 have h2:=Zqc ZE
 have h3:=ZR ZE (10^24) (by decide)
 rw [List.map_append,List.map_cons,List.map_nil]
 generalize ZE%10^24=z at *
 generalize ZE / 10^24=y at *
 generalize (10:Int)^24=t at *
 generalize acc.map D.int=A at *
 simp only [Za8,g,h1,h2,h3,Zam,rdO,hz,if_true,Zf,Zt,asB,Zd,sl3,rdP,rdV,rdA,Zk,Zc,Zi,Zp,Zw,Zu,ZB,pks,pk,asI,Zq,Zv,List.getElem?_cons_succ,List.getElem?_cons_zero,List.set_cons_succ,List.set_cons_zero,Option.bind,Option.map]
theorem Zou (s0 s1 s6 s7:Sl) (A:List D) (hi ZE k:Int) (hk:CMul k k):∃ one,(0≤one∧one<2147483647)∧Zd Zai (Zd ZaY (Zd ZW (Zd ZW (Zd ZW (Zd Zai (fun ρ=>rdP ρ 2) (fun _=>some (.int (2147483629)))) (Zd ZaY (fun _=>some (.int (7919))) (fun ρ=>rdP ρ 5))) (Zd ZaY (fun ρ=>rdP ρ 5) (fun ρ=>rdP ρ 5))) (fun _=>some (.int (1)))) (fun _=>some (.int (48271)))) (fun _=>some (.int (2147483647))) [s0,s1,.val (.int ZE),.own A,.val (.int hi),.val (.int k),s6,s7]=some (.int one):=by
 have m1:=ZR ZE 2147483629 (by decide)
 have m2:=Zc7 (x:=7919) (y:=k) (.inl (by decide))
 have m3:=Zc7 hk
 generalize ZE%2147483629=r1 at *
 generalize 7919 * k=r2 at *
 generalize k * k=r3 at *
 have a1:=Za9 r1 r2
 have a2:=Za9 (r1+r2) r3
 have a3:=Za9 (r1+r2+r3) 1
 generalize r1+r2+r3+1=r4 at *
 generalize r1+r2+r3=r5 at *
 generalize r1+r2=r6 at *
 have m4:=Zc7 (x:=r4) (y:=48271) (.inr (by decide))
 have m5:=ZR (r4 * 48271) 2147483647 (by decide)
 refine ⟨r4 * 48271%2147483647,⟨Int.emod_nonneg _ (by decide),Int.emod_lt_of_pos _ (by decide)⟩,?_⟩
 generalize r4 * 48271%2147483647=r7 at *
 generalize r4 * 48271=r8 at *
 simp only [m1,m2,m3,a1,a2,a3,m4,m5,Zd,rdP,List.getElem?_cons_succ,List.getElem?_cons_zero,Option.bind]
theorem ZoQ (s0 s1 s7:Sl) (A:List D) (hi ZE k one:Int):∃ other,Zd Zai (Zd ZaY (Zd ZW (fun ρ=>rdP ρ 6) (Zd ZaY (fun _=>some (.int (31))) (fun ρ=>rdP ρ 5))) (fun _=>some (.int (69621)))) (fun _=>some (.int (998244353))) [s0,s1,.val (.int ZE),.own A,.val (.int hi),.val (.int k),.val (.int one),s7]=some (.int other):=by
 have m6:=Zc7 (x:=31) (y:=k) (.inl (by decide))
 have a1:=Za9 one (31 * k)
 generalize one+31 * k=r1 at *
 generalize 31 * k=r2 at *
 have m7:=Zc7 (x:=r1) (y:=69621) (.inr (by decide))
 have m8:=ZR (r1 * 69621) 998244353 (by decide)
 refine ⟨r1 * 69621%998244353,?_⟩
 generalize r1 * 69621%998244353=r7 at *
 generalize r1 * 69621=r8 at *
 simp only [m6,a1,m7,m8,Zd,rdP,List.getElem?_cons_succ,List.getElem?_cons_zero,Option.bind]
theorem Zo5 (s0 s1:Sl) (A:List D) (hi ZE k one other:Int) (h:0≤one∧one<2147483647):∃ v,Zd ZW (Zd ZaY (fun ρ=>rdP ρ 6) (fun ρ=>rdP ρ 7)) (Zd Zd7 (fun ρ=>rdP ρ 6) (fun _=>some (.int (7)))) [s0,s1,.val (.int ZE),.own A,.val (.int hi),.val (.int k),.val (.int one),.val (.int other)]=some (.int v):=by
 have m9:=Zc7 (x:=one) (y:=other) (Zsu h)
 have d7:=dvB one 7 (by decide) (by decide)
 have a1:=Za9 (one * other) (one / 7)
 generalize one * other=r1 at *
 generalize one / 7=r2 at *
 exact ⟨r1+r2,by simp only [m9,d7,a1,Zd,rdP,List.getElem?_cons_succ,List.getElem?_cons_zero,Option.bind]⟩
theorem ZqS (s0 s1:Sl) (hi ZE:Int) (acc:List Int) (ha:acc.length<1000) (k:Nat) (hk:k<1000) (h:¬ 0<hi) (s6 s7:Sl):∃ v rest' s6' s7',Za8 [s0,s1,.val (.int ZE),.own (acc.map D.int),.val (.int hi),.val (.int (k:Int)),s6,s7]=.next [s0,s1,.val (.int rest'),.own ((acc++[v]).map D.int),.val (.int hi),.val (.int (k:Int)),s6',s7']:=by
 have hz:(acc.map D.int).length<sizeLine:=Nat.lt_of_lt_of_le (show (acc.map D.int).length<1000 by simpa using ha) (by decide)
 obtain ⟨one,b1,e6⟩:=Zou s0 s1 s6 s7 (acc.map D.int) hi ZE (k:Int) (cmk k hk)
 obtain ⟨other,e7⟩:=ZoQ s0 s1 s7 (acc.map D.int) hi ZE (k:Int) one
 obtain ⟨v,e8⟩:=Zo5 s0 s1 (acc.map D.int) hi ZE (k:Int) one other b1
 refine ⟨v,ZE,.val (.int one),.val (.int other),?_⟩
 have g:Zd gtD (fun ρ=>rdP ρ 4) (fun _=>some (.int 0)) [s0,s1,.val (.int ZE),.own (acc.map D.int),.val (.int hi),.val (.int (k:Int)),s6,s7]=some (.bl false):=by
  have g:=gtI hi 0
  rw [decide_eq_false h] at g
  exact g
 rw [List.map_append,List.map_cons,List.map_nil]
 generalize acc.map D.int=A at *
 unfold Za8
 rw [g,show asB (some (D.bl false))=some false from rfl,Zqx]
 rw [e6]
 simp only [Zq,Zf,List.set_cons_succ,List.set_cons_zero]
 rw [e7]
 simp only [List.set_cons_succ,List.set_cons_zero]
 rw [e8]
 simp only [Zam,rdO,hz,if_true,List.getElem?_cons_succ,List.getElem?_cons_zero,List.set_cons_succ,List.set_cons_zero]
theorem ZmO (s0 s1:Sl) (hi ZE:Int) (acc:List Int) (ha:acc.length<1000) (k:Nat) (hk:k<1000) (s6 s7:Sl):∃ v rest' s6' s7',Za8 [s0,s1,.val (.int ZE),.own (acc.map D.int),.val (.int hi),.val (.int (k:Int)),s6,s7]=.next [s0,s1,.val (.int rest'),.own ((acc++[v]).map D.int),.val (.int hi),.val (.int (k:Int)),s6',s7']:=by
 by_cases h:0<hi
 ·exact ZqM s0 s1 hi ZE acc ha k hk h s6 s7
 ·exact ZqS s0 s1 hi ZE acc ha k hk h s6 s7
theorem Zk9 (s0 s1:Sl) (hi:Int):∀ (ks:List Nat) (ZE:Int) (acc:List Int) (s5 s6 s7:Sl),(∀ k∈ks,k<1000)→acc.length+ks.length≤1000→∃ rest' new s5' s6' s7',new.length=ks.length∧ZJ (Zo 5) Za8 (ks.map fun (k:Nat)=>D.int (k:Int)) [s0,s1,.val (.int ZE),.own (acc.map D.int),.val (.int hi),s5,s6,s7]=.next [s0,s1,.val (.int rest'),.own ((acc++new).map D.int),.val (.int hi),s5',s6',s7']
 | [],ZE,acc,s5,s6,s7,_,_=>⟨ZE,[],s5,s6,s7,rfl,by simp [ZJ]⟩
 | k::ks,ZE,acc,s5,s6,s7,hk,hz=>by
  simp only [List.length_cons] at hz
  obtain ⟨v,r1,x6,x7,e1⟩:=ZmO s0 s1 hi ZE acc (by omega) k (hk k List.mem_cons_self) s6 s7
  obtain ⟨r2,new,s5',s6',s7',hn,e⟩:=Zk9 s0 s1 hi ks r1 (acc++[v]) (.val (.int (k:Int))) x6 x7 (fun x hx=>hk x (List.mem_cons_of_mem _ hx)) (by simp;omega)
  refine ⟨r2,v::new,s5',s6',s7',by simp [hn],?_⟩
  simp only [List.map_cons,ZJ,Zo,List.set_cons_succ,List.set_cons_zero]
  rw [e1]
  rw [List.append_assoc] at e
  exact e
theorem Zgl (c:Int) (m:Nat) (hm:m≤100):∃ ws:List Int,F_law_row [.val (.int c),.val (.int (m:Int))]=some (.own (ws.map D.int))∧ws.length=m:=by
 obtain ⟨hi,x5,e1⟩:=Zmd (.val (.int c)) (.val (.int (m:Int))) (.val (.int (c / 2))) (.own []) .no .no (List.range m) (c / 2) .no
 obtain ⟨r2,new,s5',s6',s7',hn,e2⟩:=Zk9 (.val (.int c)) (.val (.int (m:Int))) hi (List.range m) (c / 2) [] x5 .no .no (fun k hk=>by have:=List.mem_range.mp hk;omega) (by simp;omega)
 rw [List.nil_append,List.map_nil] at e2
 refine ⟨new,?_,by simpa using hn⟩
 have hr:=ZaH m (by omega)
 have d2:=dvB c 2 (by decide) (by decide)
 have hsh:Zr (some ([]:List D))=some []:=rfl
 generalize ((List.range m).map fun (k:Nat)=>D.int (k:Int))=R at *
 generalize (m:Int)=M at *
 refine Zah rfl ?_
 show Zem [.val (.int c),.val (.int M),.no,.no,.no,.no,.no,.no]=_
 simp only [Zem,Zg1,ZgX,ZgY,Zg9,ZgZ,Zg6,ZgW,Zg7,Zg3,Zg4,Zg0,d2,Zae,hsh,ZT,hr,e1,e2,rdO,Zaw,Zf,Zt,asB,Zd,sl3,rdP,rdV,rdA,Zk,Zc,Zi,Zp,Zw,Zu,ZB,pks,pk,asI,Zq,Zv,List.getElem?_cons_succ,List.getElem?_cons_zero,List.set_cons_succ,List.set_cons_zero,Option.bind,Option.map]
theorem ZoX (x y:Str):(x++y).cps.toList=x.cps.toList++y.cps.toList:=by
 show (x.cps++y.cps).toList=_
 simp
theorem ZgU (x:Str):x.length=x.cps.toList.length:=by simp [Str.length]
abbrev LATER:Str:="0123456789abcdefghijklmnopqrstuvwxyz"
theorem Zmz:LATER.length=36:=by decide +kernel
theorem Zjr (i:Int) (h0:0≤i) (h1:i<36):∃ c,ixD (.str "0123456789abcdefghijklmnopqrstuvwxyz") (.int i)=some (.str ⟨#[c]⟩):=by
 have hl:=Zmz
 obtain ⟨c,e,_⟩:=Zpj (z:=LATER) (i:=i) (by rw [hl];decide) h0 (by rw [hl];exact h1)
 exact ⟨c,e⟩
theorem Zo9 (z:Str) (c:Nat) (h:z.length≤1000):ZW (.str z) (.str ⟨#[c]⟩)=some (.str (z++⟨#[c]⟩))∧(z++(⟨#[c]⟩:Str)).length=z.length+1:=by
 have h1:(⟨#[c]⟩:Str).length=1:=rfl
 refine ⟨ZnE _ _ (by omega),?_⟩
 rw [ZgU,ZoX,List.length_append,← ZgU,← ZgU,h1]
theorem Zim (s0:Sl):∀ (ks:List Nat) (r:Int) (z:Str) (s4:Sl),z.length+ks.length≤100→∃ r' z' s4',z'.length=z.length+ks.length∧ZJ (Zo 4) Zcf (ks.map fun (k:Nat)=>D.int (k:Int)) [s0,.val (.str "0123456789abcdefghijklmnopqrstuvwxyz"),.val (.int r),.val (.str z),s4]=.next [s0,.val (.str "0123456789abcdefghijklmnopqrstuvwxyz"),.val (.int r'),.val (.str z'),s4']
 | [],r,z,s4,_=>⟨r,z,s4,rfl,rfl⟩
 | k::ks,r,z,s4,hz=>by
  simp only [List.length_cons] at hz
  obtain ⟨c,hc⟩:=Zjr (r%36) (by omega) (by omega)
  obtain ⟨a1,a2⟩:=Zo9 z c (by omega)
  obtain ⟨r',z',s4',hl,e⟩:=Zim s0 ks (r / 36) (z++⟨#[c]⟩) (.val (.int (k:Int))) (by rw [a2];omega)
  refine ⟨r',z',s4',by rw [hl,a2,List.length_cons];omega,?_⟩
  have m:=ZR r 36 (by decide)
  have d:=Zhl r 36 (by decide) (by decide)
  have hb:Zcf [s0,.val (.str "0123456789abcdefghijklmnopqrstuvwxyz"),.val (.int r),.val (.str z),.val (.int (k:Int))]=.next [s0,.val (.str "0123456789abcdefghijklmnopqrstuvwxyz"),.val (.int (r / 36)),.val (.str (z++⟨#[c]⟩)),.val (.int (k:Int))]:=by
   generalize z++(⟨#[c]⟩:Str)=z2 at *
   simp only [Zcf,m,hc,a1,d,Zf,Zt,asB,Zd,sl3,rdP,rdV,rdA,Zk,Zc,Zi,Zp,Zw,Zu,ZB,pks,pk,asI,Zq,Zv,List.getElem?_cons_succ,List.getElem?_cons_zero,List.set_cons_succ,List.set_cons_zero,Option.bind,Option.map]
  simp only [List.map_cons,ZJ,Zo,List.set_cons_succ,List.set_cons_zero]
  rw [hb]
  exact e
theorem ZdI (x:Int):∃ a,F_law_thing [.val (.int x)]=some (.val (aD a))∧a≠.non∧(x%2=0→a=.int (x / 4 * (1-2 * (x / 2%2))))∧(¬ x%2=0→∃ z:Str,a=.str z∧(z.length:Int)=1+x / 2%12):=by
 have m2:=ZR x 2 (by decide)
 have e:=ZcG (x%2) 0
 by_cases h:x%2=0
 ·rw [decide_eq_true h] at e
  refine ⟨.int (x / 4 * (1-2 * (x / 2%2))),?_,(fun z=>by cases z),fun _=>rfl,fun z=>absurd h z⟩
  have d4:=Zhl x 4 (by decide) (by decide)
  have d2:=Zhl x 2 (by decide) (by decide)
  have n2:=ZR (x / 2) 2 (by decide)
  have u1:=Zc7 (x:=2) (y:=x / 2%2) (.inl (by decide))
  have u2:=Zc7 (x:=x / 4) (y:=1-2 * (x / 2%2)) (.inr ⟨by omega,by omega⟩)
  refine Zah rfl ?_
  show Zbw [.val (.int x),.no,.no,.no,.no]=_
  simp only [Zbw,Zc6,m2,e,d4,d2,n2,u1,Zp2,u2,aD,Zf,Zt,asB,Zd,sl3,rdP,rdV,rdA,Zk,Zc,Zi,Zp,Zw,Zu,ZB,pks,pk,asI,Zq,Zv,List.getElem?_cons_succ,List.getElem?_cons_zero,List.set_cons_succ,List.set_cons_zero,Option.bind,Option.map]
 ·rw [decide_eq_false h] at e
  obtain ⟨c,hc⟩:=Zjr (10+x / 24%26) (by omega) (by omega)
  obtain ⟨q,hq,hq12⟩:∃ q:Nat,x / 2%12=(q:Int)∧q<12:=⟨(x / 2%12).toNat,by omega,by omega⟩
  obtain ⟨r',z',s4',hl,er⟩:=Zim (.val (.int x)) (List.range q) (x / 24 / 26) ⟨#[c]⟩ .no (by rw [List.length_range];show 1+q≤100;omega)
  have hlen:z'.length=1+q:=by rw [hl,List.length_range];rfl
  refine ⟨.str z',?_,(fun z=>by cases z),fun z=>absurd z h,fun _=>⟨z',rfl,by rw [hlen,hq];omega⟩⟩
  have d2:=Zhl x 2 (by decide) (by decide)
  have d24:=Zhl x 24 (by decide) (by decide)
  have d26:=Zhl (x / 24) 26 (by decide) (by decide)
  have n26:=ZR (x / 24) 26 (by decide)
  have n12:=ZR (x / 2) 12 (by decide)
  rw [hq] at n12
  have hr:=ZaH q (by omega)
  generalize ((List.range q).map fun (k:Nat)=>D.int (k:Int))=R at *
  generalize (q:Int)=Q at *
  refine Zah rfl ?_
  show Zbw [.val (.int x),.no,.no,.no,.no]=_
  simp only [Zbw,Zc6,ZfC,ZfJ,ZfF,Zfw,ZfK,ZfB,ZfM,Zfx,Zfz,ZfH,ZfA,Zfv,m2,e,d24,n26,Za9,hc,d26,d2,n12,ZT,hr,er,aD,Zf,Zt,asB,Zd,sl3,rdP,rdV,rdA,Zk,Zc,Zi,Zp,Zw,Zu,ZB,pks,pk,asI,Zq,Zv,List.getElem?_cons_succ,List.getElem?_cons_zero,List.set_cons_succ,List.set_cons_zero,Option.bind,Option.map]
noncomputable def tha (x:Int):At:=(ZdI x).choose
theorem ZlF (x:Int):F_law_thing [.val (.int x)]=some (.val (aD (tha x))):=(ZdI x).choose_spec.1
theorem ZqT (x:Int):tha x≠.non:=(ZdI x).choose_spec.2.1
theorem Znf {x:Int} (h:x%2=0):tha x=.int (x / 4 * (1-2 * (x / 2%2))):=(ZdI x).choose_spec.2.2.1 h
theorem Zk0 {x:Int} (h:¬ x%2=0):∃ z:Str,tha x=.str z∧(z.length:Int)=1+x / 2%12:=(ZdI x).choose_spec.2.2.2 h
theorem Zjb {α:Type} [DecidableEq α]:∀ (l us:List α),l.Nodup→(∀ x∈l,x∈us)→l.length≤us.length
 | [],_,_,_=>Nat.zero_le _
 | x::r,us,h,hs=>by
  obtain ⟨h1,h2⟩:=List.nodup_cons.mp h
  have hx:=hs x List.mem_cons_self
  have ih:=Zjb r (us.erase x) h2 fun y hy=>(List.mem_erase_of_ne (fun e=>h1 (by rw [← e];exact hy))).mpr (hs y (List.mem_cons_of_mem _ hy))
  rw [List.length_erase_of_mem hx] at ih
  have:=List.length_pos_of_mem hx
  rw [List.length_cons]
  omega
theorem Znz (x:Int) (us:List At) (hu:us.length≤7):∃ k:Nat,k<2 * us.length+3∧tha (x+2 * (k:Int))∉us:=by
 by_cases h:x%2=0
 ·obtain ⟨k0,hk0,hk1⟩:∃ k0:Nat,x / 2%2=(k0:Int)∧k0<2:=⟨(x / 2%2).toNat,by omega,by omega⟩
  refine Classical.byContradiction fun hn=>?_
  have hval:∀ i:Nat,tha (x+2 * ((k0+2 * i:Nat):Int))=.int ((x / 2+(k0:Int)) / 2+(i:Int)):=fun i=>by
   rw [Znf (by omega)]
   have e1:(x+2 * ((k0+2 * i:Nat):Int)) / 2%2=0:=by omega
   rw [e1]
   have e2:(x+2 * ((k0+2 * i:Nat):Int)) / 4=(x / 2+(k0:Int)) / 2+(i:Int):=by omega
   rw [e2]
   simp
  have:=Zjb ((List.range (us.length+1)).map fun (i:Nat)=>tha (x+2 * ((k0+2 * i:Nat):Int))) us (by
    rw [List.nodup_iff_pairwise_ne,List.pairwise_map]
    refine List.Pairwise.imp ?_ (List.pairwise_lt_range (n:=us.length+1))
    intro i j hij e
    rw [hval,hval] at e
    injection e with e
    omega) (fun y hy=>by
    obtain ⟨i,hi,rfl⟩:=List.mem_map.mp hy
    have hi:=List.mem_range.mp hi
    refine Classical.byContradiction fun hc=>hn ⟨k0+2 * i,by omega,hc⟩)
  simp only [List.length_map,List.length_range] at this
  omega
 ·refine Classical.byContradiction fun hn=>?_
  have:=Zjb ((List.range (us.length+1)).map fun (i:Nat)=>tha (x+2 * (i:Int))) us (by
    rw [List.nodup_iff_pairwise_ne,List.pairwise_map]
    refine List.Pairwise.imp_of_mem ?_ (List.pairwise_lt_range (n:=us.length+1))
    intro i j hi hj hij e
    have hi:=List.mem_range.mp hi
    have hj:=List.mem_range.mp hj
    obtain ⟨z1,e1,l1⟩:=Zk0 (x:=x+2 * (i:Int)) (by omega)
    obtain ⟨z2,e2,l2⟩:=Zk0 (x:=x+2 * (j:Int)) (by omega)
    rw [e1,e2] at e
    injection e with e
    rw [e] at l1
    omega) (fun y hy=>by
    obtain ⟨i,hi,rfl⟩:=List.mem_map.mp hy
    have hi:=List.mem_range.mp hi
    refine Classical.byContradiction fun hc=>hn ⟨i,by omega,hc⟩)
  simp only [List.length_map,List.length_range] at this
  omega
theorem Zit (x:Int) (us:List At):∀ (ks:List Nat) (s2:Sl),(∀ k∈ks,k<1000)→(∃ a,a≠.non∧a∉us∧ZJ (Zo 2) ZaK (ks.map fun (k:Nat)=>D.int (k:Int)) [.val (.int x),.lent (us.map aD),s2]=.ret (.val (aD a)))∨((∀ k∈ks,tha (x+2 * ((k:Nat):Int))∈us)∧∃ ρ,ZJ (Zo 2) ZaK (ks.map fun (k:Nat)=>D.int (k:Int)) [.val (.int x),.lent (us.map aD),s2]=.next ρ)
 | [],s2,_=>.inr ⟨fun _ h=>(nomatch h),_,rfl⟩
 | k::ks,s2,hk=>by
  have hin:=(Zcc (tha (x+2 * (k:Int))) us).2
  have ht:=ZlF (x+2 * (k:Int))
  have hm:=Zc7 (x:=2) (y:=(k:Int)) (.inl (by decide))
  have ha:=Za9 x (2 * (k:Int))
  simp only [List.map_cons,ZJ,Zo,List.set_cons_succ,List.set_cons_zero]
  by_cases h:tha (x+2 * (k:Int))∈us
  ·rw [decide_eq_true h] at hin
   have hb:ZaK [.val (.int x),.lent (us.map aD),.val (.int (k:Int))]=.next [.val (.int x),.lent (us.map aD),.val (.int (k:Int))]:=by
    generalize us.map aD=U at *
    generalize aD (tha (x+2 * (k:Int)))=T at *
    simp only [ZaK,hm,ha,ht,Zap,hin,Bool.not_true,Zf,Zt,asB,Zd,sl3,rdP,rdV,rdA,Zk,Zc,Zi,Zp,Zw,Zu,ZB,pks,pk,asI,Zq,Zv,List.getElem?_cons_succ,List.getElem?_cons_zero,List.set_cons_succ,List.set_cons_zero,Option.bind,Option.map]
   rw [hb]
   rcases Zit x us ks (.val (.int (k:Int))) (fun y hy=>hk y (List.mem_cons_of_mem _ hy)) with ⟨a,h1,h2,h3⟩ | ⟨h1,ρ,h2⟩
   ·exact .inl ⟨a,h1,h2,h3⟩
   ·refine .inr ⟨fun y hy=>?_,ρ,h2⟩
    rcases List.mem_cons.mp hy with rfl | hy
    ·exact h
    ·exact h1 y hy
  ·rw [decide_eq_false h] at hin
   refine .inl ⟨tha (x+2 * (k:Int)),ZqT _,h,?_⟩
   have hb:ZaK [.val (.int x),.lent (us.map aD),.val (.int (k:Int))]=.ret (.val (aD (tha (x+2 * (k:Int))))):=by
    generalize us.map aD=U at *
    generalize aD (tha (x+2 * (k:Int)))=T at *
    simp only [ZaK,hm,ha,ht,Zap,hin,Bool.not_false,Zf,Zt,asB,Zd,sl3,rdP,rdV,rdA,Zk,Zc,Zi,Zp,Zw,Zu,ZB,pks,pk,asI,Zq,Zv,List.getElem?_cons_succ,List.getElem?_cons_zero,List.set_cons_succ,List.set_cons_zero,Option.bind,Option.map]
   rw [hb]
theorem ZjJ (x:Int) (us:List At) (hu:us.length≤7):∃ a,F_law_fresh [.val (.int x),.lent (us.map aD)]=some (.val (aD a))∧a≠.non∧a∉us:=by
 obtain ⟨k,hk,hkn⟩:=Znz x us hu
 have hr:=ZaH (2 * us.length+3) (by omega)
 have hc:((2 * us.length+3:Nat):Int)=2 * (us.length:Int)+3:=by omega
 rw [hc] at hr
 have ln:Z6 [.lst (us.map aD)]=some (.int (us.length:Int)):=by simp only [Z6,List.length_map]
 have hm:=Zc7 (x:=2) (y:=(us.length:Int)) (.inl (by decide))
 have ha:=Za9 (2 * (us.length:Int)) 3
 rcases Zit x us (List.range (2 * us.length+3)) .no (fun y hy=>by have:=List.mem_range.mp hy;omega) with ⟨a,h1,h2,h3⟩ | ⟨h1,_⟩
 ·refine ⟨a,?_,h1,h2⟩
  refine Zah rfl ?_
  show ZcY [.val (.int x),.lent (us.map aD),.no]=_
  generalize ((List.range (2 * us.length+3)).map fun (k:Nat)=>D.int (k:Int))=R at *
  generalize 2 * (us.length:Int)+3=N at *
  generalize 2 * (us.length:Int)=N2 at *
  generalize us.map aD=U at *
  simp only [ZcY,ln,hm,ha,ZT,hr,h3,Zf,Zt,asB,Zd,sl3,rdP,rdV,rdA,Zk,Zc,Zi,Zp,Zw,Zu,ZB,pks,pk,asI,Zq,Zv,List.getElem?_cons_succ,List.getElem?_cons_zero,List.set_cons_succ,List.set_cons_zero,Option.bind,Option.map]
 ·exact absurd (h1 k (List.mem_range.mpr hk)) hkn
theorem Zr3 {xs:List Int} {i:Int} (h0:0≤i) (h1:i<xs.length):atI (xs.map D.int) i=some (.int (xs.getD i.toNat 0)):=by
 have hk:i.toNat<xs.length:=by omega
 unfold atI
 rw [Zmw h0 (by rw [List.length_map];exact h1)]
 simp [hk]
theorem ZaN {xs:List Int} {i:Int} (h0:0≤i) (h1:i<xs.length):ixD (.lst (xs.map D.int)) (.int i)=some (.int (xs.getD i.toNat 0)):=Zr3 h0 h1
def lst (l:List At):At:=l.getLastD .non
theorem Zk2 (l:List At) (h:l≠[]):ixD (lnD l) (.int (-1))=some (aD (lst l)):=by
 rcases List.eq_nil_or_concat l with rfl | ⟨m,x,rfl⟩
 ·exact absurd rfl h
 ·rw [List.concat_eq_append] at *
  show atI ((m++[x]).map aD) (-1)=_
  rw [List.map_append,List.map_cons,List.map_nil,Zhf]
  simp [lst]
theorem Zf4 (s0:Sl):∀ (ls:List (List At)) (acc:List At) (s2:Sl),(∀ l∈ls,l≠[])→acc.length+ls.length≤1000→∃ (acc':List At) (s2':Sl),(∀ a∈acc,a∈acc')∧(∀ l∈ls,lst l∈acc')∧acc'.length≤acc.length+ls.length∧ZJ (Zo 2) Za0 (ls.map lnD) [s0,.own (acc.map aD),s2]=.next [s0,.own (acc'.map aD),s2']
 | [],acc,s2,_,_=>⟨acc,s2,fun _ h=>h,fun _ h=>(nomatch h),by simp,rfl⟩
 | l::ls,acc,s2,hl,hz=>by
  simp only [List.length_cons] at hz
  have hi:=Zk2 l (hl l List.mem_cons_self)
  have hin:=(Zcc (lst l) acc).2
  have ng:Zen (some (.int 1))=some (.int (-1)):=rfl
  have hzl:(acc.map aD).length<sizeLine:=Nat.lt_of_lt_of_le (show (acc.map aD).length<1000 by simp;omega) (by decide)
  simp only [List.map_cons,ZJ,Zo,List.set_cons_succ,List.set_cons_zero]
  by_cases h:lst l∈acc
  ·rw [decide_eq_true h] at hin
   obtain ⟨acc',s2',h1,h2,h3,e⟩:=Zf4 s0 ls acc (.val (lnD l)) (fun x hx=>hl x (List.mem_cons_of_mem _ hx)) (by omega)
   refine ⟨acc',s2',h1,fun x hx=>?_,by simp only [List.length_cons];omega,?_⟩
   ·rcases List.mem_cons.mp hx with rfl | hx
    ·exact h1 _ h
    ·exact h2 x hx
   ·have hb:Za0 [s0,.own (acc.map aD),.val (lnD l)]=.next [s0,.own (acc.map aD),.val (lnD l)]:=by
     generalize acc.map aD=A at *
     generalize aD (lst l)=T at *
     simp only [Za0,ng,hi,hin,Bool.not_true,Zf,Zt,asB,Zd,sl3,rdP,rdV,rdA,Zk,Zc,Zi,Zp,Zw,Zu,ZB,pks,pk,asI,Zq,Zv,List.getElem?_cons_succ,List.getElem?_cons_zero,List.set_cons_succ,List.set_cons_zero,Option.bind,Option.map]
    rw [hb]
    exact e
  ·rw [decide_eq_false h] at hin
   obtain ⟨acc',s2',h1,h2,h3,e⟩:=Zf4 s0 ls (acc++[lst l]) (.val (lnD l)) (fun x hx=>hl x (List.mem_cons_of_mem _ hx)) (by simp;omega)
   refine ⟨acc',s2',fun a ha=>h1 a (List.mem_append_left _ ha),fun x hx=>?_,by simp only [List.length_append,List.length_cons,List.length_nil] at h3 ⊢;omega,?_⟩
   ·rcases List.mem_cons.mp hx with rfl | hx
    ·exact h1 _ (by simp)
    ·exact h2 x hx
   ·have hb:Za0 [s0,.own (acc.map aD),.val (lnD l)]=.next [s0,.own ((acc++[lst l]).map aD),.val (lnD l)]:=by
     rw [List.map_append,List.map_cons,List.map_nil]
     generalize acc.map aD=A at *
     generalize aD (lst l)=T at *
     simp only [Za0,ng,hi,hin,Bool.not_false,Zam,rdO,hzl,if_true,Zf,Zt,asB,Zd,sl3,rdP,rdV,rdA,Zk,Zc,Zi,Zp,Zw,Zu,ZB,pks,pk,asI,Zq,Zv,List.getElem?_cons_succ,List.getElem?_cons_zero,List.set_cons_succ,List.set_cons_zero,Option.bind,Option.map]
    rw [hb]
    exact e
theorem Zm0 (ls:List (List At)) (hl:∀ l∈ls,l≠[]) (hz:ls.length≤1000):∃ vs:List At,F_law_lasts [.val (.lst (ls.map lnD))]=some (.own (vs.map aD))∧(∀ l∈ls,lst l∈vs)∧vs.length≤ls.length:=by
 obtain ⟨acc,s2,_,h2,h3,e⟩:=Zf4 (.val (.lst (ls.map lnD))) ls [] .no hl (by simpa using hz)
 refine ⟨acc,?_,h2,by simpa using h3⟩
 rw [List.map_nil] at e
 have hsh:Zr (some ([]:List D))=some []:=rfl
 generalize ls.map lnD=L at *
 refine Zah rfl ?_
 show ZcV [.val (.lst L),.no,.no]=_
 simp only [ZcV,Zae,hsh,ZT,rdQ,ZA,e,rdO,Zaw,Zf,Zt,asB,Zd,sl3,rdP,rdV,rdA,Zk,Zc,Zi,Zp,Zw,Zu,ZB,pks,pk,asI,Zq,Zv,List.getElem?_cons_succ,List.getElem?_cons_zero,List.set_cons_succ,List.set_cons_zero,Option.bind,Option.map]
theorem ZiE (s0 s1:Sl) (ws:List Int) (hw:ws.length=60) (s5 s6 s7 s8 s9 s10 s11:Sl):∀ (ks:List Nat) (acc:List At) (s4:Sl),acc.Nodup→(∀ a∈acc,a≠.non)→(∀ k∈ks,k<8)→acc.length+ks.length≤8 →
  ∃ (acc':List At) (s4':Sl),acc'.Nodup∧(∀ a∈acc',a≠.non)∧acc'.length=acc.length+ks.length∧ZJ (Zo 4) Zb2 (ks.map fun (k:Nat)=>D.int (k:Int)) [s0,s1,.val (.lst (ws.map D.int)),.own (acc.map aD),s4,s5,s6,s7,s8,s9,s10,s11]=.next [s0,s1,.val (.lst (ws.map D.int)),.own (acc'.map aD),s4',s5,s6,s7,s8,s9,s10,s11]
 | [],acc,s4,h1,h2,_,_=>⟨acc,s4,h1,h2,by simp,rfl⟩
 | k::ks,acc,s4,h1,h2,hk,hz=>by
  simp only [List.length_cons] at hz
  have hk8:=hk k List.mem_cons_self
  have hx:=ZaN (xs:=ws) (i:=2+(k:Int)) (by omega) (by omega)
  generalize ws.getD (2+(k:Int)).toNat 0=x at *
  obtain ⟨a,ha,hn,hni⟩:=ZjJ x acc (by omega)
  obtain ⟨acc',s4',g1,g2,g3,e⟩:=ZiE s0 s1 ws hw s5 s6 s7 s8 s9 s10 s11 ks (acc++[a]) (.val (.int (k:Int)))
   (List.nodup_append.mpr ⟨h1,by simp,fun x hx y hy e=>by simp at hy;subst hy;subst e;exact hni hx⟩)
   (fun y hy=>by rcases List.mem_append.mp hy with hy | hy;exact h2 y hy;simp at hy;subst hy;exact hn)
   (fun y hy=>hk y (List.mem_cons_of_mem _ hy)) (by simp;omega)
  refine ⟨acc',s4',g1,g2,by rw [g3,List.length_append,List.length_cons,List.length_nil,List.length_cons];omega,?_⟩
  have hzl:(acc.map aD).length<sizeLine:=Nat.lt_of_lt_of_le (show (acc.map aD).length<1000 by simp;omega) (by decide)
  have hb:Zb2 [s0,s1,.val (.lst (ws.map D.int)),.own (acc.map aD),.val (.int (k:Int)),s5,s6,s7,s8,s9,s10,s11]=.next [s0,s1,.val (.lst (ws.map D.int)),.own ((acc++[a]).map aD),.val (.int (k:Int)),s5,s6,s7,s8,s9,s10,s11]:=by
   rw [List.map_append,List.map_cons,List.map_nil]
   generalize acc.map aD=A at *
   generalize D.lst (ws.map D.int)=W at *
   simp only [Zb2,Za9,hx,ha,Zap,Zam,rdO,hzl,if_true,Zf,Zt,asB,Zd,sl3,rdP,rdV,rdA,Zk,Zc,Zi,Zp,Zw,Zu,ZB,pks,pk,asI,Zq,Zv,List.getElem?_cons_succ,List.getElem?_cons_zero,List.set_cons_succ,List.set_cons_zero,Option.bind,Option.map]
  simp only [List.map_cons,ZJ,Zo,List.set_cons_succ,List.set_cons_zero]
  rw [hb]
  exact e
def Has (kvs:KDs) (v:At):Prop:=∃ b,b≠.non∧ZP kvs (.at v)=some (aD b)
theorem Zng (s0 s1 s3 s5:Sl) (ws:List Int) (hw:ws.length=60) (pl k:Nat) (hpl:pl<3) (hk:k<8) (kvs:KDs) (hkv:∀ p∈kvs,ZbJ p.1=true) (hkl:kvs.length≤100) (kn:List At) (hkn:kn.length≤k) (hkne:∀ a∈kn,a≠.non) (v:At) (s10 s11:Sl) :
  ∃ (b:At) (kn':List At) (s10' s11':Sl),b≠.non∧kn'.length≤k+1∧(∀ a∈kn',a≠.non)∧Zbf [s0,s1,.val (.lst (ws.map D.int)),s3,.val (.int (k:Int)),s5,.val (.int (pl:Int)),.own (Zy kvs) true,.own (kn.map aD),.val (aD v),s10,s11]=.next [s0,s1,.val (.lst (ws.map D.int)),s3,.val (.int (k:Int)),s5,.val (.int (pl:Int)),.own (Zy (Zao kvs (.at v) (aD b))) true,.own (kn'.map aD),.val (aD v),s10',s11']:=by
 have m16:=Zc7 (x:=16) (y:=(pl:Int)) (.inl (by decide))
 have m2:=Zc7 (x:=2) (y:=(k:Int)) (.inl (by decide))
 have x1:=ZaN (xs:=ws) (i:=10+16 * (pl:Int)+2 * (k:Int)) (by omega) (by omega)
 have x2:=ZaN (xs:=ws) (i:=10+16 * (pl:Int)+2 * (k:Int)+1) (by omega) (by omega)
 generalize ws.getD (10+16 * (pl:Int)+2 * (k:Int)).toNat 0=y1 at *
 generalize ws.getD (10+16 * (pl:Int)+2 * (k:Int)+1).toNat 0=y2 at *
 obtain ⟨q,hq,hql⟩:∃ q:Nat,y1%((kn.length:Int)+1)=(q:Int)∧q≤kn.length:=by
  have h1:=Int.emod_nonneg y1 (show ((kn.length:Int)+1)≠0 by omega)
  have h2:=Int.emod_lt_of_pos y1 (show (0:Int)<(kn.length:Int)+1 by omega)
  exact ⟨(y1%((kn.length:Int)+1)).toNat,by omega,by omega⟩
 have md:=ZR y1 ((kn.length:Int)+1) (by omega)
 rw [hq] at md
 have ln:Z6 [.lst (kn.map aD)]=some (.int (kn.length:Int)):=by simp only [Z6,List.length_map]
 have eq:=ZcG (q:Int) (kn.length:Int)
 have hok:=Zb5 v
 have hh:=Zb4 v hkv
 have hzk:decide (kvs.length<sizeLine)=true:=decide_eq_true (Nat.lt_of_lt_of_le (show kvs.length<1000 by omega) (by decide))
 have hun:=ZeL kvs
 by_cases hc:q=kn.length
 ·rw [decide_eq_true (by omega)] at eq
  obtain ⟨a,ha,hn,_⟩:=ZjJ y2 kn (by omega)
  refine ⟨a,kn++[a],.val (.int (10+16 * (pl:Int)+2 * (k:Int))),.val (.int (q:Int)),hn,by simp;omega,fun y hy=>by rcases List.mem_append.mp hy with hy | hy;exact hkne y hy;simp at hy;subst hy;exact hn,?_⟩
  have hzl:(kn.map aD).length<sizeLine:=Nat.lt_of_lt_of_le (show (kn.map aD).length<1000 by simp;omega) (by decide)
  have ix:ixD (.lst (kn.map aD++[aD a])) (.int (q:Int))=some (aD a):=Zb3 (by rw [List.getElem?_append_right (by simp;omega)];simp [hc])
  rw [List.map_append,List.map_cons,List.map_nil]
  generalize kn.map aD=A at *
  generalize D.lst (ws.map D.int)=W at *
  generalize (kn.length:Int)=N at *
  generalize Zy kvs=FK at *
  simp only [Zbf,m16,m2,Za9,x1,ln,md,eq,x2,ha,Zap,Zam,rdO,hzl,if_true,ix,Zef,rdG,hun,hok,hh,hzk,Bool.and_self,Zf,Zt,asB,Zd,sl3,rdP,rdV,rdA,Zk,Zc,Zi,Zp,Zw,Zu,ZB,pks,pk,asI,Zq,Zv,List.getElem?_cons_succ,List.getElem?_cons_zero,List.set_cons_succ,List.set_cons_zero,Option.bind,Option.map]
 ·rw [decide_eq_false (by omega)] at eq
  have hqk:q<kn.length:=by omega
  refine ⟨kn[q],kn,.val (.int (10+16 * (pl:Int)+2 * (k:Int))),.val (.int (q:Int)),hkne _ (List.getElem_mem hqk),by omega,hkne,?_⟩
  have ix:ixD (.lst (kn.map aD)) (.int (q:Int))=some (aD kn[q]):=Zb3 (by simp [hqk])
  generalize aD kn[q]=B at *
  generalize kn.map aD=A at *
  generalize D.lst (ws.map D.int)=W at *
  generalize (kn.length:Int)=N at *
  generalize Zy kvs=FK at *
  simp only [Zbf,m16,m2,Za9,x1,ln,md,eq,ix,Zef,rdG,hun,hok,hh,hzk,Bool.and_self,if_true,Zf,Zt,asB,Zd,sl3,rdP,rdV,rdA,Zk,Zc,Zi,Zp,Zw,Zu,ZB,pks,pk,asI,Zq,Zv,List.getElem?_cons_succ,List.getElem?_cons_zero,List.set_cons_succ,List.set_cons_zero,Option.bind,Option.map]
theorem ZkR (s0 s1 s3 s5:Sl) (ws:List Int) (hw:ws.length=60) (pl:Nat) (hpl:pl<3):∀ (vs:List At) (k:Nat) (kvs:KDs) (kn:List At) (s4 s9 s10 s11:Sl),k+vs.length≤8→(∀ p∈kvs,ZbJ p.1=true)→kvs.length≤k→kn.length≤k→(∀ a∈kn,a≠.non) →
  ∃ (kvs':KDs) (kn':List At) (s4' s9' s10' s11':Sl),(∀ p∈kvs',ZbJ p.1=true)∧kvs'.length≤8∧(∀ v,Has kvs v→Has kvs' v)∧(∀ v∈vs,Has kvs' v)∧ZJ (Zb8 2 (Z0 (Zo 4) (Z0 (Zo 9) Zcn))) Zbf (ZbH k (vs.map aD)) [s0,s1,.val (.lst (ws.map D.int)),s3,s4,s5,.val (.int (pl:Int)),.own (Zy kvs) true,.own (kn.map aD),s9,s10,s11]=.next [s0,s1,.val (.lst (ws.map D.int)),s3,s4',s5,.val (.int (pl:Int)),.own (Zy kvs') true,.own (kn'.map aD),s9',s10',s11']
 | [],k,kvs,kn,s4,s9,s10,s11,hz,h1,h2,_,_=>⟨kvs,kn,s4,s9,s10,s11,h1,by simp at hz;omega,fun _ h=>h,fun _ h=>(nomatch h),rfl⟩
 | v::vs,k,kvs,kn,s4,s9,s10,s11,hz,h1,h2,h3,h4=>by
  simp only [List.length_cons] at hz
  obtain ⟨b,kn1,x10,x11,hb,hk1,hk2,e1⟩:=Zng s0 s1 s3 s5 ws hw pl k hpl (by omega) kvs h1 (by omega) kn h3 h4 v s10 s11
  have hl:=ZdZ kvs (.at v) (aD b)
  obtain ⟨kvs',kn',s4',s9',s10',s11',g1,g2,g3,g4,e⟩:=ZkR s0 s1 s3 s5 ws hw pl hpl vs (k+1) (Zao kvs (.at v) (aD b)) kn1 (.val (.int (k:Int))) (.val (aD v)) x10 x11 (by omega) (ZeB h1) (by omega) hk1 hk2
  have hput:∀ u,Has kvs u∨u=v→Has (Zao kvs (.at v) (aD b)) u:=fun u hu=>by
   unfold Has
   rw [ZcN]
   by_cases huv:KT.at v=KT.at u
   ·rw [if_pos huv];exact ⟨b,hb,rfl⟩
   ·rw [if_neg huv]
    rcases hu with hu | rfl
    ·exact hu
    ·exact absurd rfl huv
  refine ⟨kvs',kn',s4',s9',s10',s11',g1,g2,fun u hu=>g3 u (hput u (.inl hu)),fun u hu=>?_,?_⟩
  ·rcases List.mem_cons.mp hu with rfl | hu
   ·exact g3 _ (hput _ (.inr rfl))
   ·exact g4 u hu
  ·simp only [List.map_cons,ZbH,ZJ,Zb8,Z0,Zo,Zcn,List.length_cons,List.length_nil,List.set_cons_succ,List.set_cons_zero,Option.bind,if_pos]
   rw [e1]
   exact e
theorem ZlC (s0 s1 s3:Sl) (ws:List Int) (hw:ws.length=60) (pl:Nat) (hpl:pl<3) (w:Nat) (hw4:w≤3) (la:List (List At)) (h:ZaW w la) (h8:la.length≤8) (s4 s7 s8 s9 s10 s11:Sl) :
  ∃ (la':List (List At)) (s4' s7' s8' s9' s10' s11':Sl),ZaW (w+1) la'∧la'.length=la.length∧ZbT [s0,s1,.val (.lst (ws.map D.int)),s3,s4,.val (.lst (la.map lnD)),.val (.int (pl:Int)),s7,s8,s9,s10,s11]=.next [s0,s1,.val (.lst (ws.map D.int)),s3,s4',.val (.lst (la'.map lnD)),.val (.int (pl:Int)),s7',s8',s9',s10',s11']:=by
 have hne:∀ l∈la,l≠[]:=fun l hl z=>by have h1:=h.len l hl;have h2:=h.w0;rw [z] at h1;simp at h1;omega
 obtain ⟨vs,hv,hvl,hvz⟩:=Zm0 la hne (by omega)
 obtain ⟨kvs,kn,x4,x9,x10,x11,g1,g2,_,g4,e⟩:=ZkR s0 s1 s3 (.val (.lst (la.map lnD))) ws hw pl hpl vs 0 [] [] s4 s9 s10 s11 (by omega) (fun _ h=>nomatch h) (by simp) (by simp) (fun _ h=>nomatch h)
 have hhas:∀ l∈la,Has kvs (lst l):=fun l hl=>g4 _ (hvl l hl)
 have hex:∃ f:List At→At,∀ l∈la,f l≠.non∧ZP kvs (.at (lst l))=some (aD (f l)):=⟨fun l=>if hl:l∈la then (hhas l hl).choose else .non,fun l hl=>by
  dsimp only
  rw [dif_pos hl]
  exact (hhas l hl).choose_spec⟩
 obtain ⟨f,hf⟩:=hex
 have hc:=Zan (b:=Zo 0) (e:=ZcE) (ρ:=[.no,.lent (Zy kvs) true]) lnD (fun l=>lnD (l++[f l])) la fun l hl=>⟨[.val (lnD l),.lent (Zy kvs) true],rfl,by
  have hi:=Zk2 l (hne l hl)
  have ng:Zen (some (.int 1))=some (.int (-1)):=rfl
  have hg:Zbs (.lst (Zy kvs) true) (aD (lst l))=some (aD (f l)):=by
   rw [Zdf,Zb5]
   have q1:=Zb4 (lst l) g1
   have q2:=(hf l hl).2
   simp [q1,q2]
  have hsh:Zr (some [aD (f l)])=some [aD (f l)]:=ZN _ (by simp)
  have had:ZW (lnD l) (.tup [aD (f l)])=some (lnD (l++[f l])):=by
   have:=h.len l hl
   have:=h.w4
   show ZW (.tup (l.map aD)) (.tup [aD (f l)])=_
   rw [ZnJ _ _ (by simp;omega)]
   unfold lnD
   rw [List.map_append];rfl
  generalize aD (f l)=FL at *
  generalize aD (lst l)=LL at *
  simp only [ZcE,ng,hi,hg,hsh,had,Zf,Zt,asB,Zd,sl3,rdP,rdV,rdA,Zk,Zc,Zi,Zp,Zw,Zu,ZB,pks,pk,asI,Zq,Zv,List.getElem?_cons_succ,List.getElem?_cons_zero,List.set_cons_succ,List.set_cons_zero,Option.bind,Option.map]⟩
 refine ⟨la.map fun l=>l++[f l],x4,.own (Zy kvs) true,.own (kn.map aD),x9,x10,x11,⟨by omega,by omega,by simpa using h.l0,by simpa using h.l9,fun x hx=>?_,fun x hx a ha=>?_,?_⟩,by simp,?_⟩
 ·obtain ⟨l,hl,rfl⟩:=List.mem_map.mp hx
  simp [h.len l hl]
 ·obtain ⟨l,hl,rfl⟩:=List.mem_map.mp hx
  rcases List.mem_append.mp ha with ha | ha
  ·exact h.vs l hl a ha
  ·simp at ha;subst ha;exact (hf l hl).1
 ·rw [List.map_map,show la.map (hd0∘fun l=>l++[f l])=la.map hd0 from List.map_congr_left fun l hl=>by
   show hd0 (l++[f l])=hd0 l
   have:=hne l hl
   unfold hd0
   cases l with
   | nil=>exact absurd rfl this
   | cons a r=>rfl]
  exact h.nd
 ·have q1:Zr (some (la.map lnD))=some (la.map lnD):=ZN _ (by simp;omega)
  have hsh:Zr (some ([]:List D))=some []:=rfl
  have hzi:Zdr (.lst (vs.map aD))=some (vs.map aD):=rfl
  rw [show Zy ([]:KDs)=[] from rfl,List.map_nil] at e
  rw [show (la.map fun l=>l++[f l]).map lnD=la.map (fun l=>lnD (l++[f l])) by rw [List.map_map];rfl]
  generalize la.map (fun l=>lnD (l++[f l]))=LC at *
  generalize la.map lnD=L at *
  generalize D.lst (ws.map D.int)=W at *
  have hin:∀ s4 s9 s10 s11:Sl,ZZ 1 [7] [s0,s1,.val W,s3,s4,.val (.lst L),.val (.int (pl:Int)),.own (Zy kvs) true,.own (kn.map aD),s9,s10,s11]=[.no,.lent (Zy kvs) true]:=fun _ _ _ _=>rfl
  simp only [ZbT,ZbF,Zae,hsh,ZT,Zd9,hv,Za3,hzi,e,ZX,hin,rdQ,ZA,q1,hc,Zf,Zt,asB,Zd,sl3,rdP,rdV,rdA,Zk,Zc,Zi,Zp,Zw,Zu,ZB,pks,pk,asI,Zq,Zv,List.getElem?_cons_succ,List.getElem?_cons_zero,List.set_cons_succ,List.set_cons_zero,Option.bind,Option.map]
theorem Zhy (s0 s1 s3:Sl) (ws:List Int) (hw:ws.length=60):∀ (ks:List Nat) (w:Nat) (la:List (List At)) (s4 s6 s7 s8 s9 s10 s11:Sl),w+ks.length≤4→(∀ k∈ks,k<3)→ZaW w la→la.length≤8 →
  ∃ (w':Nat) (la':List (List At)) (s4' s6' s7' s8' s9' s10' s11':Sl),ZaW w' la'∧la'.length≤8∧ZJ (Zo 6) ZbT (ks.map fun (k:Nat)=>D.int (k:Int)) [s0,s1,.val (.lst (ws.map D.int)),s3,s4,.val (.lst (la.map lnD)),s6,s7,s8,s9,s10,s11]=.next [s0,s1,.val (.lst (ws.map D.int)),s3,s4',.val (.lst (la'.map lnD)),s6',s7',s8',s9',s10',s11']
 | [],w,la,s4,s6,s7,s8,s9,s10,s11,_,_,h,h8=>⟨w,la,s4,s6,s7,s8,s9,s10,s11,h,h8,rfl⟩
 | k::ks,w,la,s4,s6,s7,s8,s9,s10,s11,hz,hk,h,h8=>by
  simp only [List.length_cons] at hz
  obtain ⟨la1,x4,x7,x8,x9,x10,x11,h1,l1,e1⟩:=ZlC s0 s1 s3 ws hw k (hk k List.mem_cons_self) w (by omega) la h h8 s4 s7 s8 s9 s10 s11
  obtain ⟨w',la',s4',s6',s7',s8',s9',s10',s11',h',h8',e⟩:=Zhy s0 s1 s3 ws hw ks (w+1) la1 x4 (.val (.int (k:Int))) x7 x8 x9 x10 x11 (by omega) (fun y hy=>hk y (List.mem_cons_of_mem _ hy)) h1 (by omega)
  refine ⟨w',la',s4',s6',s7',s8',s9',s10',s11',h',h8',?_⟩
  simp only [List.map_cons,ZJ,Zo,List.set_cons_succ,List.set_cons_zero]
  rw [e1]
  exact e
theorem Zmk (c:Int):∃ (w:Nat) (la:List (List At)),ZaW w la∧la.length≤8∧F_law_ladder [.val (.int c),.val (.int 8)]=some (.val (.lst (la.map lnD))):=by
 obtain ⟨ws,hr,hw⟩:=Zgl c 60 (by omega)
 have x0:=ZaN (xs:=ws) (i:=0) (by omega) (by omega)
 have x1:=ZaN (xs:=ws) (i:=1) (by omega) (by omega)
 generalize ws.getD (0:Int).toNat 0=y0 at *
 generalize ws.getD (1:Int).toNat 0=y1 at *
 obtain ⟨n,hn,hn8⟩:∃ n:Nat,y0%8=(n:Int)∧n<8:=⟨(y0%8).toNat,by omega,by omega⟩
 obtain ⟨q,hq,hq4⟩:∃ q:Nat,y1%4=(q:Int)∧q<4:=⟨(y1%4).toNat,by omega,by omega⟩
 obtain ⟨fs,x4,f1,f2,f3,e1⟩:=ZiE (.val (.int c)) (.val (.int 8)) ws hw .no .no .no .no .no .no .no (List.range (n+1)) [] .no List.nodup_nil (fun _ h=>nomatch h) (fun k hk=>by have:=List.mem_range.mp hk;omega) (by simp;omega)
 rw [List.map_nil] at e1
 simp only [List.length_nil,List.length_range] at f3
 have hla:ZaW 1 (fs.map fun a=>[a]):=⟨by omega,by omega,by simp;omega,by simp;omega,fun l hl=>by obtain ⟨a,_,rfl⟩:=List.mem_map.mp hl;rfl,fun l hl a ha=>by obtain ⟨b,hb,rfl⟩:=List.mem_map.mp hl;simp at ha;subst ha;exact f2 _ hb,by
  rw [List.map_map,show fs.map (hd0∘fun a=>[a])=fs from by
   rw [show (hd0∘fun a:At=>[a])=id from rfl,List.map_id]]
  exact f1⟩
 obtain ⟨w',la',s4',s6',s7',s8',s9',s10',s11',h',h8',e2⟩:=Zhy (.val (.int c)) (.val (.int 8)) (.val (.lst (fs.map aD))) ws hw (List.range q) 1 (fs.map fun a=>[a]) x4 .no .no .no .no .no .no (by simp;omega) (fun k hk=>by have:=List.mem_range.mp hk;omega) hla (by simp;omega)
 refine ⟨w',la',h',h8',?_⟩
 have hc:=Zan (b:=Zo 0) (e:=ZcJ) (ρ:=[.no]) aD (fun a=>lnD [a]) fs fun a _=>⟨[.val (aD a)],rfl,by
  have hsh:Zr (some [aD a])=some [aD a]:=ZN _ (by simp)
  simp only [ZcJ,hsh,lnD,List.map_cons,List.map_nil,Zf,Zt,asB,Zd,sl3,rdP,rdV,rdA,Zk,Zc,Zi,Zp,Zw,Zu,ZB,pks,pk,asI,Zq,Zv,List.getElem?_cons_succ,List.getElem?_cons_zero,List.set_cons_succ,List.set_cons_zero,Option.bind,Option.map]⟩
 have m8:=ZR y0 8 (by decide)
 have m4:=ZR y1 4 (by decide)
 rw [hn] at m8
 rw [hq] at m4
 have r1:=ZaH (n+1) (by omega)
 have r2:=ZaH q (by omega)
 have hc1:ZW (.int 1) (.int (n:Int))=some (.int ((n+1:Nat):Int)):=by rw [Za9,show (1:Int)+(n:Int)=((n+1:Nat):Int) by omega]
 have q1:Zr (some (fs.map aD))=some (fs.map aD):=ZN _ (by simp;omega)
 have hsh:Zr (some ([]:List D))=some []:=rfl
 rw [show (fs.map fun a=>[a]).map lnD=fs.map (fun a=>lnD [a]) by rw [List.map_map];rfl] at e2
 generalize fs.map (fun a=>lnD [a])=L1 at *
 generalize fs.map aD=FS at *
 generalize la'.map lnD=LL at *
 generalize ws.map D.int=W at *
 generalize ((List.range (n+1)).map fun (k:Nat)=>D.int (k:Int))=R1 at *
 generalize ((List.range q).map fun (k:Nat)=>D.int (k:Int))=R2 at *
 generalize ((n+1:Nat):Int)=N1 at *
 generalize (q:Int)=Q at *
 have hr':F_law_row [.val (.int c),.val (.int 60)]=some (.own W):=hr
 have hin:∀ s:Sl,ZZ 1 [] [.val (.int c),.val (.int 8),.val (.lst W),.val (.lst FS),s,.no,.no,.no,.no,.no,.no,.no]=[.no]:=fun _=>rfl
 refine Zah rfl ?_
 show ZcM [.val (.int c),.val (.int 8),.no,.no,.no,.no,.no,.no,.no,.no,.no,.no]=_
 simp only [ZcM,ZeG,Zex,Zeu,ZeC,ZeF,Zew,ZeK,Zev,ZeE,ZeJ,ZeD,hr',Za3,Zae,hsh,x0,m8,hc1,ZT,r1,e1,Zhn,ZX,hin,rdQ,ZA,q1,hc,x1,m4,r2,e2,Zf,Zt,asB,Zd,sl3,rdP,rdV,rdA,Zk,Zc,Zi,Zp,Zw,Zu,ZB,pks,pk,asI,Zq,Zv,List.getElem?_cons_succ,List.getElem?_cons_zero,List.set_cons_succ,List.set_cons_zero,Option.bind,Option.map]
def LD (Ls:List (Nat×List (List At))):D:=.lst (Ls.map fun p=>.lst (p.2.map lnD))
structure ZcO (Ls:List (Nat×List (List At))):Prop where
 one:1≤Ls.length
 few:Ls.length≤3
 la:∀ p∈Ls,ZaW p.1 p.2
 l8:∀ p∈Ls,p.2.length≤8
def GD (gs:List Nat):D:=.tup (gs.map fun (n:Nat)=>D.int (n:Int))
def Zca (Ls:List (Nat×List (List At))) (gs:List Nat):Prop:=gs.length=Ls.length∧∀ x w la,Ls[x]?=some (w,la)→gs.getD x 0≤w
theorem Zfk {Ls:List (Nat×List (List At))} {x w:Nat} {la:List (List At)} (h:Ls[x]?=some (w,la)):ixD (LD Ls) (.int (x:Int))=some (.lst (la.map lnD)):=Zb3 (by rw [List.getElem?_map,h];rfl)
theorem ZhC {gs:List Nat} {x:Nat} (h:x<gs.length):ixD (GD gs) (.int (x:Int))=some (.int ((gs.getD x 0:Nat):Int)):=Zb3 (by rw [List.getElem?_map,List.getElem?_eq_getElem h];simp [List.getD,List.getElem?_eq_getElem h])
theorem ZhK (Ls:List (Nat×List (List At))):Z6 [LD Ls]=some (.int (Ls.length:Int)):=by simp only [LD,Z6,List.length_map]
theorem Zh4 {w:Nat} {la:List (List At)} (h:ZaW w la):∃ l0,ixD (.lst (la.map lnD)) (.int 0)=some (lnD l0)∧Z6 [lnD l0]=some (.int (w:Int)):=by
 cases hl:la with
 | nil=>have:=h.l0;rw [hl] at this;simp at this
 | cons l0 r =>
  have:=h.len l0 (by rw [hl];exact List.mem_cons_self)
  exact ⟨l0,by simp [atI,ixN],by simp [lnD,this]⟩
theorem ZiY (x:Int) (n:Nat):∃ q:Nat,x%((n:Int)+1)=(q:Int)∧q≤n:=by
 have h1:=Int.emod_nonneg x (show ((n:Int)+1)≠0 by omega)
 have h2:=Int.emod_lt_of_pos x (show (0:Int)<(n:Int)+1 by omega)
 exact ⟨(x%((n:Int)+1)).toNat,by omega,by omega⟩
theorem ZjQ {Ls:List (Nat×List (List At))} (h:ZcO Ls) (c:Int):∃ gs,Zca Ls gs∧F_law_grain [.val (.int c),.val (LD Ls)]=some (.val (GD gs)):=by
 obtain ⟨ws,hr,hw⟩:=Zgl c 4 (by omega)
 have h3:=h.few
 have key:∀ x:Nat,x<Ls.length→∃ q:Nat,(∀ w la,Ls[x]?=some (w,la)→q≤w)∧Zbv [.val (.int (x:Int)),.val (.lst (ws.map D.int)),.val (LD Ls)]=some (.int (q:Int)):=fun x hx=>by
  obtain ⟨l0,i0,n0⟩:=Zh4 (h.la _ (List.getElem_mem hx))
  have i1:=Zfk (Ls:=Ls) (x:=x) (w:=(Ls[x]).1) (la:=(Ls[x]).2) (by rw [List.getElem?_eq_getElem hx])
  have x1:=ZaN (xs:=ws) (i:=(x:Int)) (by omega) (by omega)
  generalize ws.getD (x:Int).toNat 0=y at *
  obtain ⟨q,hq,hqw⟩:=ZiY y (Ls[x]).1
  have md:=ZR y (((Ls[x]).1:Int)+1) (by omega)
  rw [hq] at md
  have a1:=Za9 ((Ls[x]).1:Int) 1
  refine ⟨q,fun w la e=>by rw [List.getElem?_eq_getElem hx] at e;cases hp:Ls[x];rw [hp] at e hqw;cases e;exact hqw,?_⟩
  generalize D.lst ((Ls[x]).2.map lnD)=LX at *
  generalize LD Ls=L at *
  generalize D.lst (ws.map D.int)=W at *
  generalize lnD l0=L0 at *
  simp only [Zbv,x1,i1,i0,n0,a1,md,Zf,Zt,asB,Zd,sl3,rdP,rdV,rdA,Zk,Zc,Zi,Zp,Zw,Zu,ZB,pks,pk,asI,Zq,Zv,List.getElem?_cons_succ,List.getElem?_cons_zero,List.set_cons_succ,List.set_cons_zero,Option.bind,Option.map]
 have hex:∃ f:Nat→Nat,∀ x,x<Ls.length→(∀ w la,Ls[x]?=some (w,la)→f x≤w)∧Zbv [.val (.int (x:Int)),.val (.lst (ws.map D.int)),.val (LD Ls)]=some (.int (f x:Int)):=⟨fun x=>if hx:x<Ls.length then (key x hx).choose else 0,fun x hx=>by dsimp only;rw [dif_pos hx];exact (key x hx).choose_spec⟩
 obtain ⟨f,hf⟩:=hex
 refine ⟨(List.range Ls.length).map f,⟨by simp,fun x w la e=>?_⟩,?_⟩
 ·have hx:x<Ls.length:=(List.getElem?_eq_some_iff.mp e).1
  have:=(hf x hx).1 w la e
  simpa [List.getD,hx] using this
 ·have hc:=Zan (b:=Zo 0) (e:=Zbv) (ρ:=[.no,.val (.lst (ws.map D.int)),.val (LD Ls)]) (fun (k:Nat)=>D.int (k:Int)) (fun k=>D.int (f k:Int)) (List.range Ls.length) fun k hk=>⟨[.val (.int (k:Int)),.val (.lst (ws.map D.int)),.val (LD Ls)],rfl,(hf k (List.mem_range.mp hk)).2⟩
  have r1:=ZaH Ls.length (by omega)
  have ln:=ZhK Ls
  have q1:Zr (some ((List.range Ls.length).map fun (k:Nat)=>D.int (k:Int)))=some ((List.range Ls.length).map fun (k:Nat)=>D.int (k:Int)):=ZN _ (by simp;omega)
  have hr':F_law_row [.val (.int c),.val (.int 4)]=some (.own (ws.map D.int)):=hr
  have tu:ZeX [.lst ((List.range Ls.length).map fun k=>D.int (f k:Int))]=some (GD ((List.range Ls.length).map f)):=by
   show some (D.tup _)=some (D.tup _)
   rw [List.map_map];rfl
  have hin:ZZ 1 [2,1] [.val (.int c),.val (LD Ls),.val (.lst (ws.map D.int))]=[.no,.val (.lst (ws.map D.int)),.val (LD Ls)]:=rfl
  refine Zah rfl ?_
  show ZcU [.val (.int c),.val (LD Ls),.no]=_
  generalize ((List.range Ls.length).map fun k=>D.int (f k:Int))=GC at *
  generalize ((List.range Ls.length).map fun (k:Nat)=>D.int (k:Int))=R at *
  generalize (Ls.length:Int)=N at *
  generalize LD Ls=L at *
  generalize ws.map D.int=W at *
  generalize GD ((List.range Ls.length).map f)=GG at *
  simp only [ZcU,hr',Za3,ln,r1,ZX,q1,hin,hc,tu,Zf,Zt,asB,Zd,sl3,rdP,rdV,rdA,Zk,Zc,Zi,Zp,Zw,Zu,ZB,pks,pk,asI,Zq,Zv,List.getElem?_cons_succ,List.getElem?_cons_zero,List.set_cons_succ,List.set_cons_zero,Option.bind,Option.map]
theorem ZjV {Ls:List (Nat×List (List At))} (h:ZcO Ls) (ks:List Nat) (hk:Zca Ls ks) (ws:List Int) (hw:ws.length=4) (s1 s3:Sl):∀ (xs acc:List Nat) (s6:Sl),(∀ x∈xs,x<Ls.length)→(∀ i,i<xs.length→xs.getD i 0=acc.length+i)→acc.length+xs.length=Ls.length→(∀ x w la,x<acc.length→Ls[x]?=some (w,la)→acc.getD x 0≤w) →
  ∃ (acc':List Nat) (s6':Sl),Zca Ls acc'∧ZJ (Zo 6) Zcy (xs.map fun (k:Nat)=>D.int (k:Int)) [.val (GD ks),s1,.val (LD Ls),s3,.val (.lst (ws.map D.int)),.own (acc.map fun (n:Nat)=>D.int (n:Int)),s6]=.next [.val (GD ks),s1,.val (LD Ls),s3,.val (.lst (ws.map D.int)),.own (acc'.map fun (n:Nat)=>D.int (n:Int)),s6']
 | [],acc,s6,_,_,hl,ha=>⟨acc,s6,⟨by simpa using hl,fun x w la e=>ha x w la (by have:=(List.getElem?_eq_some_iff.mp e).1;simp at hl;omega) e⟩,rfl⟩
 | x::xs,acc,s6,hx,hi,hl,ha=>by
  simp only [List.length_cons] at hl
  have hxl:=hx x List.mem_cons_self
  have hxe:x=acc.length:=by have:=hi 0 (by simp);simpa using this
  have h3:=h.few
  obtain ⟨l0,i0,n0⟩:=Zh4 (h.la _ (List.getElem_mem hxl))
  have i1:=Zfk (Ls:=Ls) (x:=x) (w:=(Ls[x]).1) (la:=(Ls[x]).2) (by rw [List.getElem?_eq_getElem hxl])
  have x1:=ZaN (xs:=ws) (i:=(x:Int)) (by omega) (by omega)
  have x3:=ZaN (xs:=ws) (i:=3) (by omega) (by omega)
  generalize ws.getD (x:Int).toNat 0=y at *
  generalize ws.getD (3:Int).toNat 0=y3 at *
  have gk:=ZhC (gs:=ks) (x:=x) (by rw [hk.1];exact hxl)
  have md:=ZR y 3 (by decide)
  have md2:=ZR y3 2 (by decide)
  have a1:=Za9 ((ks.getD x 0:Nat):Int) (y%3)
  have b1:=Zp2 (((ks.getD x 0:Nat):Int)+y%3) (y3%2)
  obtain ⟨q,hq,hqw⟩:∃ q:Nat,(if (if (((ks.getD x 0:Nat):Int)+y%3-y3%2)<((Ls[x]).1:Int) then (((ks.getD x 0:Nat):Int)+y%3-y3%2) else ((Ls[x]).1:Int)) > 0 then (if (((ks.getD x 0:Nat):Int)+y%3-y3%2)<((Ls[x]).1:Int) then (((ks.getD x 0:Nat):Int)+y%3-y3%2) else ((Ls[x]).1:Int)) else 0)=(q:Int)∧q≤(Ls[x]).1:=by
   generalize (((ks.getD x 0:Nat):Int)+y%3-y3%2)=z
   refine ⟨(if (if z<((Ls[x]).1:Int) then z else ((Ls[x]).1:Int)) > 0 then (if z<((Ls[x]).1:Int) then z else ((Ls[x]).1:Int)) else 0).toNat,?_,?_⟩<;>split<;>split<;>omega
  have mi:ZiZ [.int ((Ls[x]).1:Int),.int (((ks.getD x 0:Nat):Int)+y%3-y3%2)]=some (.int (if (((ks.getD x 0:Nat):Int)+y%3-y3%2)<((Ls[x]).1:Int) then (((ks.getD x 0:Nat):Int)+y%3-y3%2) else ((Ls[x]).1:Int))):=rfl
  have ma:ZiU [.int 0,.int (if (((ks.getD x 0:Nat):Int)+y%3-y3%2)<((Ls[x]).1:Int) then (((ks.getD x 0:Nat):Int)+y%3-y3%2) else ((Ls[x]).1:Int))]=some (.int (q:Int)):=by rw [← hq];rfl
  obtain ⟨acc',s6',g1,e⟩:=ZjV h ks hk ws hw s1 s3 xs (acc++[q]) (.val (.int (x:Int))) (fun z hz=>hx z (List.mem_cons_of_mem _ hz)) (fun i hi'=>by
    have:=hi (i+1) (by simp;omega)
    simp at this ⊢
    omega) (by simp;omega) (fun z w la hz e=>by
    by_cases hza:z<acc.length
    ·have:=ha z w la hza e
     simpa [List.getD,List.getElem?_append_left hza] using this
    ·have hze:z=acc.length:=by simp at hz;omega
     subst hze
     rw [← hxe] at e ⊢
     rw [List.getElem?_eq_getElem hxl] at e
     cases hp:Ls[x]
     rw [hp] at e hqw
     cases e
     rw [hxe]
     simpa [List.getD] using hqw)
  refine ⟨acc',s6',g1,?_⟩
  have hz:(acc.map fun (n:Nat)=>D.int (n:Int)).length<sizeLine:=Nat.lt_of_lt_of_le (show (acc.map fun (n:Nat)=>D.int (n:Int)).length<1000 by simp;omega) (by decide)
  have hb:Zcy [.val (GD ks),s1,.val (LD Ls),s3,.val (.lst (ws.map D.int)),.own (acc.map fun (n:Nat)=>D.int (n:Int)),.val (.int (x:Int))]=.next [.val (GD ks),s1,.val (LD Ls),s3,.val (.lst (ws.map D.int)),.own ((acc++[q]).map fun (n:Nat)=>D.int (n:Int)),.val (.int (x:Int))]:=by
   rw [List.map_append,List.map_cons,List.map_nil]
   generalize (acc.map fun (n:Nat)=>D.int (n:Int))=A at *
   generalize D.lst ((Ls[x]).2.map lnD)=LX at *
   generalize LD Ls=L at *
   generalize GD ks=KK at *
   generalize D.lst (ws.map D.int)=W at *
   generalize lnD l0=L0 at *
   generalize (if (((ks.getD x 0:Nat):Int)+y%3-y3%2)<((Ls[x]).1:Int) then (((ks.getD x 0:Nat):Int)+y%3-y3%2) else ((Ls[x]).1:Int))=MM at *
   generalize (((ks.getD x 0:Nat):Int)+y%3-y3%2)=Z at *
   simp only [Zcy,i1,i0,n0,gk,x1,md,a1,x3,md2,b1,mi,ma,Zam,rdO,hz,if_true,Zf,Zt,asB,Zd,sl3,rdP,rdV,rdA,Zk,Zc,Zi,Zp,Zw,Zu,ZB,pks,pk,asI,Zq,Zv,List.getElem?_cons_succ,List.getElem?_cons_zero,List.set_cons_succ,List.set_cons_zero,Option.bind,Option.map]
  simp only [List.map_cons,ZJ,Zo,List.set_cons_succ,List.set_cons_zero]
  rw [hb]
  exact e
theorem Zpd {Ls:List (Nat×List (List At))} (h:ZcO Ls) (ks gs:List Nat) (hk:Zca Ls ks) (hg:Zca Ls gs) (c:Int):∃ hs,Zca Ls hs∧F_law_near [.val (GD ks),.val (GD gs),.val (LD Ls),.val (.int c)]=some (.val (GD hs)):=by
 obtain ⟨ws,hr,hw⟩:=Zgl c 4 (by omega)
 have h3:=h.few
 obtain ⟨ac,s6',g1,e⟩:=ZjV h ks hk ws hw (.val (GD gs)) (.val (.int c)) (List.range Ls.length) [] .no (fun x hx=>List.mem_range.mp hx) (fun i hi=>by simp at hi;simp [List.getD,hi]) (by simp) (fun _ _ _ hx=>by simp at hx)
 rw [List.map_nil] at e
 have x3:=ZaN (xs:=ws) (i:=3) (by omega) (by omega)
 generalize ws.getD (3:Int).toNat 0=y3 at *
 have d2:=Zhl y3 2 (by decide) (by decide)
 have md:=ZR (y3 / 2) 2 (by decide)
 have ln:Z6 [GD ks]=some (.int (Ls.length:Int)):=by rw [← hk.1];simp [GD]
 have r1:=ZaH Ls.length (by omega)
 have hr':F_law_row [.val (.int c),.val (.int 4)]=some (.own (ws.map D.int)):=hr
 have hsh:Zr (some ([]:List D))=some []:=rfl
 have tu:ZeX [.lst (ac.map fun (n:Nat)=>D.int (n:Int))]=some (GD ac):=rfl
 have sh2:Zr (some [GD gs,GD ac])=some [GD gs,GD ac]:=ZN _ (by simp)
 have hcase:y3 / 2%2=0∨y3 / 2%2=1:=by omega
 have fin:∀ G,ixD (.lst [GD gs,GD ac]) (.int (y3 / 2%2))=some G→F_law_near [.val (GD ks),.val (GD gs),.val (LD Ls),.val (.int c)]=some (.val G):=fun G hG=>by
  refine Zah rfl ?_
  show Zdx [.val (GD ks),.val (GD gs),.val (LD Ls),.val (.int c),.no,.no,.no]=_
  generalize ((List.range Ls.length).map fun (k:Nat)=>D.int (k:Int))=R at *
  generalize (Ls.length:Int)=N at *
  generalize LD Ls=L at *
  generalize GD ks=KK at *
  generalize GD gs=GG at *
  generalize GD ac=AC at *
  generalize (ac.map fun (n:Nat)=>D.int (n:Int))=ACL at *
  generalize ws.map D.int=W at *
  simp only [Zdx,ZfY,ZfS,ZgE,Zgh,Zgj,Zgg,Zgs,hr',Za3,Zae,hsh,ln,ZT,r1,e,tu,sh2,x3,d2,md,hG,Zf,Zt,asB,Zd,sl3,rdP,rdV,rdA,Zk,Zc,Zi,Zp,Zw,Zu,ZB,pks,pk,asI,Zq,Zv,List.getElem?_cons_succ,List.getElem?_cons_zero,List.set_cons_succ,List.set_cons_zero,Option.bind,Option.map]
 rcases hcase with hc | hc
 ·exact ⟨gs,hg,fin _ (by rw [hc];rfl)⟩
 ·exact ⟨ac,g1,fin _ (by rw [hc];rfl)⟩
theorem Zh6 (s0:Sl) (j:Nat):∀ (la:List (List At)) (acc:List At) (s3:Sl),(∀ l∈la,j≤l.length)→acc.length+la.length≤1000→∃ (acc':List At) (s3':Sl),acc'.length≤acc.length+la.length∧ZJ (Zo 3) Zas (la.map lnD) [s0,.val (.int (j:Int)),.own (acc.map aD),s3]=.next [s0,.val (.int (j:Int)),.own (acc'.map aD),s3']
 | [],acc,s3,_,_=>⟨acc,s3,by simp,rfl⟩
 | l::la,acc,s3,hl,hz=>by
  simp only [List.length_cons] at hz
  have ha:=Zbo l j (hl l List.mem_cons_self)
  have hin:=(Zcc (l.getD j .non) acc).2
  have hzl:(acc.map aD).length<sizeLine:=Nat.lt_of_lt_of_le (show (acc.map aD).length<1000 by simp;omega) (by decide)
  simp only [List.map_cons,ZJ,Zo,List.set_cons_succ,List.set_cons_zero]
  by_cases h:l.getD j .non∈acc
  ·rw [decide_eq_true h] at hin
   obtain ⟨acc',s3',h3,e⟩:=Zh6 s0 j la acc (.val (lnD l)) (fun x hx=>hl x (List.mem_cons_of_mem _ hx)) (by omega)
   refine ⟨acc',s3',by simp only [List.length_cons];omega,?_⟩
   have hb:Zas [s0,.val (.int (j:Int)),.own (acc.map aD),.val (lnD l)]=.next [s0,.val (.int (j:Int)),.own (acc.map aD),.val (lnD l)]:=by
    generalize acc.map aD=A at *
    generalize aD (l.getD j .non)=T at *
    generalize lnD l=LL at *
    simp only [Zas,ha,Zap,hin,Bool.not_true,Zf,Zt,asB,Zd,sl3,rdP,rdV,rdA,Zk,Zc,Zi,Zp,Zw,Zu,ZB,pks,pk,asI,Zq,Zv,List.getElem?_cons_succ,List.getElem?_cons_zero,List.set_cons_succ,List.set_cons_zero,Option.bind,Option.map]
   rw [hb]
   exact e
  ·rw [decide_eq_false h] at hin
   obtain ⟨acc',s3',h3,e⟩:=Zh6 s0 j la (acc++[l.getD j .non]) (.val (lnD l)) (fun x hx=>hl x (List.mem_cons_of_mem _ hx)) (by simp;omega)
   refine ⟨acc',s3',by simp only [List.length_append,List.length_cons,List.length_nil] at h3 ⊢;omega,?_⟩
   have hb:Zas [s0,.val (.int (j:Int)),.own (acc.map aD),.val (lnD l)]=.next [s0,.val (.int (j:Int)),.own ((acc++[l.getD j .non]).map aD),.val (lnD l)]:=by
    rw [List.map_append,List.map_cons,List.map_nil]
    generalize acc.map aD=A at *
    generalize aD (l.getD j .non)=T at *
    generalize lnD l=LL at *
    simp only [Zas,ha,Zap,hin,Bool.not_false,Zam,rdO,hzl,if_true,Zf,Zt,asB,Zd,sl3,rdP,rdV,rdA,Zk,Zc,Zi,Zp,Zw,Zu,ZB,pks,pk,asI,Zq,Zv,List.getElem?_cons_succ,List.getElem?_cons_zero,List.set_cons_succ,List.set_cons_zero,Option.bind,Option.map]
   rw [hb]
   exact e
theorem Zrv {w:Nat} {la:List (List At)} (h:ZaW w la) (h8:la.length≤8) (j:Nat) (hj:j≤w):∃ vs:List At,F_law_values_at [.val (.lst (la.map lnD)),.val (.int (j:Int))]=some (.own (vs.map aD))∧vs.length≤8:=by
 obtain ⟨vs,s3,h3,e⟩:=Zh6 (.val (.lst (la.map lnD))) j la [] .no (fun l hl=>by rw [h.len l hl];exact hj) (by simp;omega)
 refine ⟨vs,?_,by simp at h3;omega⟩
 rw [List.map_nil] at e
 have hsh:Zr (some ([]:List D))=some []:=rfl
 generalize la.map lnD=L at *
 refine Zah rfl ?_
 show ZbE [.val (.lst L),.val (.int (j:Int)),.no,.no]=_
 simp only [ZbE,Zae,hsh,ZT,rdQ,ZA,e,rdO,Zaw,Zf,Zt,asB,Zd,sl3,rdP,rdV,rdA,Zk,Zc,Zi,Zp,Zw,Zu,ZB,pks,pk,asI,Zq,Zv,List.getElem?_cons_succ,List.getElem?_cons_zero,List.set_cons_succ,List.set_cons_zero,Option.bind,Option.map]
theorem Zj3 (s0 s1 s2 s3:Sl) (u lo:Nat) (ab:List At):∀ (la:List (List At)) (acc:List At) (s8:Sl),(∀ l∈la,u≤l.length∧lo≤l.length)→acc.length+la.length≤1000→∃ (acc':List At) (s8':Sl),acc'.length≤acc.length+la.length∧ZJ (Zo 8) ZaR (la.map lnD) [s0,s1,s2,s3,.val (.int (u:Int)),.val (.int (lo:Int)),.val (.lst (ab.map aD)),.own (acc.map aD),s8]=.next [s0,s1,s2,s3,.val (.int (u:Int)),.val (.int (lo:Int)),.val (.lst (ab.map aD)),.own (acc'.map aD),s8']
 | [],acc,s8,_,_=>⟨acc,s8,by simp,rfl⟩
 | l::la,acc,s8,hl,hz=>by
  simp only [List.length_cons] at hz
  have hu:=Zbo l u (hl l List.mem_cons_self).1
  have ho:=Zbo l lo (hl l List.mem_cons_self).2
  have hin1:=(Zcc (l.getD u .non) ab).1
  have hin2:=(Zcc (l.getD lo .non) acc).2
  have hzl:(acc.map aD).length<sizeLine:=Nat.lt_of_lt_of_le (show (acc.map aD).length<1000 by simp;omega) (by decide)
  simp only [List.map_cons,ZJ,Zo,List.set_cons_succ,List.set_cons_zero]
  by_cases hc:l.getD u .non∈ab∧l.getD lo .non∉acc
  ·rw [decide_eq_true hc.1] at hin1
   rw [decide_eq_false hc.2] at hin2
   obtain ⟨acc',s8',h3,e⟩:=Zj3 s0 s1 s2 s3 u lo ab la (acc++[l.getD lo .non]) (.val (lnD l)) (fun x hx=>hl x (List.mem_cons_of_mem _ hx)) (by simp;omega)
   refine ⟨acc',s8',by simp only [List.length_append,List.length_cons,List.length_nil] at h3 ⊢;omega,?_⟩
   have hb:ZaR [s0,s1,s2,s3,.val (.int (u:Int)),.val (.int (lo:Int)),.val (.lst (ab.map aD)),.own (acc.map aD),.val (lnD l)]=.next [s0,s1,s2,s3,.val (.int (u:Int)),.val (.int (lo:Int)),.val (.lst (ab.map aD)),.own ((acc++[l.getD lo .non]).map aD),.val (lnD l)]:=by
    rw [List.map_append,List.map_cons,List.map_nil]
    generalize acc.map aD=A at *
    generalize ab.map aD=B at *
    generalize aD (l.getD u .non)=T at *
    generalize aD (l.getD lo .non)=T2 at *
    generalize lnD l=LL at *
    simp only [ZaR,hu,ho,Zap,hin1,hin2,Zbm,Bool.not_false,Zam,rdO,hzl,if_true,Zf,Zt,asB,Zd,sl3,rdP,rdV,rdA,Zk,Zc,Zi,Zp,Zw,Zu,ZB,pks,pk,asI,Zq,Zv,List.getElem?_cons_succ,List.getElem?_cons_zero,List.set_cons_succ,List.set_cons_zero,Option.bind,Option.map]
   rw [hb]
   exact e
  ·obtain ⟨acc',s8',h3,e⟩:=Zj3 s0 s1 s2 s3 u lo ab la acc (.val (lnD l)) (fun x hx=>hl x (List.mem_cons_of_mem _ hx)) (by omega)
   refine ⟨acc',s8',by simp only [List.length_cons];omega,?_⟩
   have hb:ZaR [s0,s1,s2,s3,.val (.int (u:Int)),.val (.int (lo:Int)),.val (.lst (ab.map aD)),.own (acc.map aD),.val (lnD l)]=.next [s0,s1,s2,s3,.val (.int (u:Int)),.val (.int (lo:Int)),.val (.lst (ab.map aD)),.own (acc.map aD),.val (lnD l)]:=by
    by_cases h1:l.getD u .non∈ab
    ·have h2:l.getD lo .non∈acc:=Classical.byContradiction fun z=>hc ⟨h1,z⟩
     rw [decide_eq_true h1] at hin1
     rw [decide_eq_true h2] at hin2
     generalize acc.map aD=A at *
     generalize ab.map aD=B at *
     generalize aD (l.getD u .non)=T at *
     generalize aD (l.getD lo .non)=T2 at *
     generalize lnD l=LL at *
     simp only [ZaR,hu,ho,Zap,hin1,hin2,Zbm,Bool.not_true,Zf,Zt,asB,Zd,sl3,rdP,rdV,rdA,Zk,Zc,Zi,Zp,Zw,Zu,ZB,pks,pk,asI,Zq,Zv,List.getElem?_cons_succ,List.getElem?_cons_zero,List.set_cons_succ,List.set_cons_zero,Option.bind,Option.map]
    ·rw [decide_eq_false h1] at hin1
     generalize acc.map aD=A at *
     generalize ab.map aD=B at *
     generalize aD (l.getD u .non)=T at *
     generalize lnD l=LL at *
     simp only [ZaR,hu,Zap,hin1,Zbm,Zf,Zt,asB,Zd,sl3,rdP,rdV,rdA,Zk,Zc,Zi,Zp,Zw,Zu,ZB,pks,pk,asI,Zq,Zv,List.getElem?_cons_succ,List.getElem?_cons_zero,List.set_cons_succ,List.set_cons_zero,Option.bind,Option.map]
   rw [hb]
   exact e
def ZgB (Ls:List (Nat×List (List At))) (q:AP):Prop:=q.vs.length≤50∧∃ p,Ls[q.a]?=some p∧q.lv≤p.1
theorem Zjv (s0 s1 s4 s6 s8:Sl) (ws:List Int) (hw:ws.length=16) (a lo:Nat) (vs:List At) (hv:vs.length≤40):∃ tp,Zci [s0,s1,.val (.lst (ws.map D.int)),.val (.int (a:Int)),s4,.val (.int (lo:Int)),s6,.own (vs.map aD),s8]=.ret (.val (pkD ⟨a,lo,tp,vs⟩)):=by
 have x15:=ZaN (xs:=ws) (i:=15) (by omega) (by omega)
 generalize ws.getD (15:Int).toNat 0=y at *
 have md:=ZR y 2 (by decide)
 have e:=ZcG (y%2) 1
 have sh:∀ a b c:D,Zr (some [a,b,c])=some [a,b,c]:=fun _ _ _=>ZN _ (by simp)
 have tu:ZeX [.lst (vs.map aD)]=some (.tup (vs.map aD)):=rfl
 by_cases h:y%2=1
 ·rw [decide_eq_true h] at e
  refine ⟨true,?_⟩
  show _=Res.ret (.val (.tup [.int (a:Int),.int (lo:Int),.tup (vs.map aD)]))
  generalize vs.map aD=V at *
  generalize D.lst (ws.map D.int)=W at *
  simp only [Zci,Zde,x15,md,e,tu,sh,Zf,Zt,asB,Zd,sl3,rdP,rdV,rdA,Zk,Zc,Zi,Zp,Zw,Zu,ZB,pks,pk,asI,Zq,Zv,List.getElem?_cons_succ,List.getElem?_cons_zero,List.set_cons_succ,List.set_cons_zero,Option.bind,Option.map]
 ·rw [decide_eq_false h] at e
  refine ⟨false,?_⟩
  show _=Res.ret (.val (.tup [.int (a:Int),.int (lo:Int),.lst (vs.map aD)]))
  generalize vs.map aD=V at *
  generalize D.lst (ws.map D.int)=W at *
  simp only [Zci,Zde,ZfE,Zfy,x15,md,e,Zhn,sh,Zf,Zt,asB,Zd,sl3,rdP,rdV,rdA,Zk,Zc,Zi,Zp,Zw,Zu,ZB,pks,pk,asI,Zq,Zv,List.getElem?_cons_succ,List.getElem?_cons_zero,List.set_cons_succ,List.set_cons_zero,Option.bind,Option.map]
theorem Zri (s0 s1 s4 s6 s8:Sl) (ws:List Int) (hw:ws.length=16) (a lo:Nat) (vs:List At) (hv:vs.length≤30):∃ q,q.a=a∧q.lv=lo∧q.vs.length≤50∧Zcz [s0,s1,.val (.lst (ws.map D.int)),.val (.int (a:Int)),s4,.val (.int (lo:Int)),s6,.own (vs.map aD),s8]=.ret (.val (pkD q)):=by
 have x13:=ZaN (xs:=ws) (i:=13) (by omega) (by omega)
 have x14:=ZaN (xs:=ws) (i:=14) (by omega) (by omega)
 generalize ws.getD (13:Int).toNat 0=y at *
 generalize ws.getD (14:Int).toNat 0=z at *
 have md:=ZR y 4 (by decide)
 have e:=ZcG (y%4) 1
 by_cases h:y%4=1
 ·rw [decide_eq_true h] at e
  obtain ⟨i,hi,hiv⟩:=ZiY z vs.length
  have md2:=ZR z ((vs.length:Int)+1) (by omega)
  rw [hi] at md2
  have a1:=Za9 (vs.length:Int) 1
  have ln:Z6 [.lst (vs.map aD)]=some (.int (vs.length:Int)):=by simp only [Z6,List.length_map]
  have th:=ZlF z
  obtain ⟨tp,et⟩:=Zjv s0 s1 s4 s6 s8 ws hw a lo (vs.take i++tha z::vs.drop i) (by simp;omega)
  refine ⟨⟨a,lo,tp,vs.take i++tha z::vs.drop i⟩,rfl,rfl,by simp;omega,?_⟩
  ·have hcond:0≤(i:Int)∧(i:Int)≤((vs.map aD).length:Nat)∧(vs.map aD).length<sizeLine:=⟨by omega,by simp;omega,Nat.lt_of_lt_of_le (show (vs.map aD).length<1000 by simp;omega) (by decide)⟩
   have hins:ZhO 7 (some (.int (i:Int))) (some (aD (tha z))) [s0,s1,.val (.lst (ws.map D.int)),.val (.int (a:Int)),s4,.val (.int (lo:Int)),s6,.own (vs.map aD),s8]=.next [s0,s1,.val (.lst (ws.map D.int)),.val (.int (a:Int)),s4,.val (.int (lo:Int)),s6,.own ((vs.take i++tha z::vs.drop i).map aD),s8]:=by
    simp only [ZhO,rdO,List.getElem?_cons_succ,List.getElem?_cons_zero]
    rw [if_pos hcond]
    simp
   generalize (vs.take i++tha z::vs.drop i).map aD=V2 at *
   generalize aD (tha z)=TZ at *
   generalize D.lst (ws.map D.int)=W at *
   generalize vs.map aD=V at *
   generalize (vs.length:Int)=N at *
   simp only [Zcz,ZdN,x13,md,e,x14,ln,a1,md2,th,Zap,hins,et,Zf,Zt,asB,Zd,sl3,rdP,rdV,rdA,Zk,Zc,Zi,Zp,Zw,Zu,ZB,pks,pk,asI,Zq,Zv,List.getElem?_cons_succ,List.getElem?_cons_zero,List.set_cons_succ,List.set_cons_zero,Option.bind,Option.map]
 ·rw [decide_eq_false h] at e
  obtain ⟨tp,et⟩:=Zjv s0 s1 s4 s6 s8 ws hw a lo vs (by omega)
  refine ⟨⟨a,lo,tp,vs⟩,rfl,rfl,by show vs.length≤50;omega,?_⟩
  ·generalize D.lst (ws.map D.int)=W at *
   generalize vs.map aD=V at *
   simp only [Zcz,ZdN,x13,md,e,et,Zf,Zt,asB,Zd,sl3,rdP,rdV,rdA,Zk,Zc,Zi,Zp,Zw,Zu,ZB,pks,pk,asI,Zq,Zv,List.getElem?_cons_succ,List.getElem?_cons_zero,List.set_cons_succ,List.set_cons_zero,Option.bind,Option.map]
theorem Znd (s:Sl) (ws:List Int) (hw:ws.length=16) (vs:List At) (hv:vs.length≤8):∃ ab:List At,ZaV (Zo 0) ZcC Zcx [.no,.val (.lst (vs.map aD)),.val (.lst (ws.map D.int))] ((List.range vs.length).map fun (k:Nat)=>D.int (k:Int))=some (ab.map aD):=by
 have hc:=Zdu (b:=Zo 0) (t:=ZcC) (e:=Zcx) (ρ:=[.no,.val (.lst (vs.map aD)),.val (.lst (ws.map D.int))]) (fun (k:Nat)=>D.int (k:Int)) (fun k=>aD (vs.getD k .non)) (fun k=>decide (ws.getD (4+(k:Int)).toNat 0%2=1)) (List.range vs.length) fun k hk=>⟨[.val (.int (k:Int)),.val (.lst (vs.map aD)),.val (.lst (ws.map D.int))],rfl,by
  have hk:=List.mem_range.mp hk
  have a1:=Za9 4 (k:Int)
  have x1:=ZaN (xs:=ws) (i:=4+(k:Int)) (by omega) (by omega)
  generalize ws.getD (4+(k:Int)).toNat 0=y at *
  have md:=ZR y 2 (by decide)
  have e:=ZcG (y%2) 1
  simp only [ZcC,a1,x1,md,e,Zf,Zt,asB,Zd,sl3,rdP,rdV,rdA,Zk,Zc,Zi,Zp,Zw,Zu,ZB,pks,pk,asI,Zq,Zv,List.getElem?_cons_succ,List.getElem?_cons_zero,List.set_cons_succ,List.set_cons_zero,Option.bind,Option.map],by
  have hk:=List.mem_range.mp hk
  have x1:ixD (.lst (vs.map aD)) (.int (k:Int))=some (aD (vs.getD k .non)):=Zb3 (by simp [hk,List.getD])
  simp only [Zcx,x1,Zf,Zt,asB,Zd,sl3,rdP,rdV,rdA,Zk,Zc,Zi,Zp,Zw,Zu,ZB,pks,pk,asI,Zq,Zv,List.getElem?_cons_succ,List.getElem?_cons_zero,List.set_cons_succ,List.set_cons_zero,Option.bind,Option.map]⟩
 refine ⟨((List.range vs.length).filter fun (k:Nat)=>decide (ws.getD (4+(k:Int)).toNat 0%2=1)).map fun k=>vs.getD k .non,?_⟩
 rw [hc,List.map_map];rfl
theorem Zon {Ls:List (Nat×List (List At))} (h:ZcO Ls) (c:Int):∃ q,ZgB Ls q∧F_law_pick [.val (.int c),.val (LD Ls)]=some (.val (pkD q)):=by
 obtain ⟨ws,hr,hw⟩:=Zgl c 16 (by omega)
 have hone:=h.one
 have hfew:=h.few
 have x0:=ZaN (xs:=ws) (i:=0) (by omega) (by omega)
 have x1:=ZaN (xs:=ws) (i:=1) (by omega) (by omega)
 have x2:=ZaN (xs:=ws) (i:=2) (by omega) (by omega)
 have x3:=ZaN (xs:=ws) (i:=3) (by omega) (by omega)
 generalize ws.getD (0:Int).toNat 0=y0 at *
 generalize ws.getD (1:Int).toNat 0=y1 at *
 generalize ws.getD (2:Int).toNat 0=y2 at *
 generalize ws.getD (3:Int).toNat 0=y3 at *
 obtain ⟨a,ha,han⟩:∃ a:Nat,y0%(Ls.length:Int)=(a:Int)∧a<Ls.length:=by
  have h1:=Int.emod_nonneg y0 (show (Ls.length:Int)≠0 by omega)
  have h2:=Int.emod_lt_of_pos y0 (show (0:Int)<(Ls.length:Int) by omega)
  exact ⟨(y0%(Ls.length:Int)).toNat,by omega,by omega⟩
 have m0:=ZR y0 (Ls.length:Int) (by omega)
 rw [ha] at m0
 have ln:=ZhK Ls
 have hla:=h.la _ (List.getElem_mem han)
 have h8:=h.l8 _ (List.getElem_mem han)
 have hget:Ls[a]?=some Ls[a]:=List.getElem?_eq_getElem han
 have i1:=Zfk (Ls:=Ls) (x:=a) (w:=(Ls[a]).1) (la:=(Ls[a]).2) hget
 obtain ⟨l0,i0,n0⟩:=Zh4 hla
 generalize hpa:Ls[a]=P at *
 obtain ⟨w,la⟩:=P
 dsimp only at hla h8 i1 i0 n0
 obtain ⟨u,hu,huw⟩:=ZiY y1 w
 have m1:=ZR y1 ((w:Int)+1) (by omega)
 rw [hu] at m1
 have a1:=Za9 (w:Int) 1
 obtain ⟨v,hv,hvu⟩:=ZiY y3 u
 have m3:=ZR y3 ((u:Int)+1) (by omega)
 rw [hv] at m3
 have a3:=Za9 (u:Int) 1
 have m2:=ZR y2 2 (by decide)
 have e2:=ZcG (y2%2) 1
 obtain ⟨vs,hvs,hvl⟩:=Zrv hla h8 u huw
 obtain ⟨ab,hab⟩:=Znd .no ws hw vs hvl
 have lnv:Z6 [.lst (vs.map aD)]=some (.int (vs.length:Int)):=by simp only [Z6,List.length_map]
 have rv:=ZaH vs.length (by omega)
 have qv:Zr (some ((List.range vs.length).map fun (k:Nat)=>D.int (k:Int)))=some ((List.range vs.length).map fun (k:Nat)=>D.int (k:Int)):=ZN _ (by simp;omega)
 have hr':F_law_row [.val (.int c),.val (.int 16)]=some (.own (ws.map D.int)):=hr
 have hsh:Zr (some ([]:List D))=some []:=rfl
 have fin:∀ lo:Nat,lo≤w→∃ q,ZgB Ls q∧Zdz [.val (.int c),.val (LD Ls),.val (.lst (ws.map D.int)),.val (.int (a:Int)),.val (.int (u:Int)),.val (.int (lo:Int)),.no,.no,.no]=.ret (.val (pkD q)):=fun lo hlo=>by
  obtain ⟨vals2,s8',hz,er⟩:=Zj3 (.val (.int c)) (.val (LD Ls)) (.val (.lst (ws.map D.int))) (.val (.int (a:Int))) u lo ab la [] .no (fun l hl=>by rw [hla.len l hl];exact ⟨huw,hlo⟩) (by simp;omega)
  rw [List.map_nil] at er
  obtain ⟨q,q1,q2,q3,eq⟩:=Zri (.val (.int c)) (.val (LD Ls)) (.val (.int (u:Int))) (.val (.lst (ab.map aD))) s8' ws hw a lo vals2 (by simp at hz;omega)
  refine ⟨q,⟨q3,(w,la),by rw [q1];exact hget,by rw [q2];exact hlo⟩,?_⟩
  have hin:ZZ 1 [6,2] [.val (.int c),.val (LD Ls),.val (.lst (ws.map D.int)),.val (.int (a:Int)),.val (.int (u:Int)),.val (.int (lo:Int)),.val (.lst (vs.map aD)),.no,.no]=[.no,.val (.lst (vs.map aD)),.val (.lst (ws.map D.int))]:=rfl
  generalize ab.map aD=AB at *
  generalize vals2.map aD=V2 at *
  generalize vs.map aD=VS at *
  generalize ((List.range vs.length).map fun (k:Nat)=>D.int (k:Int))=RV at *
  generalize (vs.length:Int)=NV at *
  generalize la.map lnD=LA at *
  generalize LD Ls=L at *
  generalize ws.map D.int=W at *
  generalize pkD q=PQ at *
  simp only [Zdz,ZfQ,Zgt,ZgC,Zgd,ZfP,ZgH,ZfR,i1,hvs,Za3,lnv,rv,ZX,qv,hin,hab,Zae,hsh,ZT,ZA,er,eq,Zf,Zt,asB,Zd,sl3,rdP,rdV,rdA,Zk,Zc,Zi,Zp,Zw,Zu,ZB,pks,pk,asI,Zq,Zv,List.getElem?_cons_succ,List.getElem?_cons_zero,List.set_cons_succ,List.set_cons_zero,Option.bind,Option.map]
 by_cases hc:y2%2=1
 ·rw [decide_eq_true hc] at e2
  obtain ⟨q,hq,eq⟩:=fin v (by omega)
  refine ⟨q,hq,?_⟩
  refine Zah rfl ?_
  show ZbN [.val (.int c),.val (LD Ls),.no,.no,.no,.no,.no,.no,.no]=_
  generalize la.map lnD=LA at *
  generalize LD Ls=L at *
  generalize ws.map D.int=W at *
  generalize pkD q=PQ at *
  generalize lnD l0=L0 at *
  generalize (Ls.length:Int)=N at *
  simp only [ZbN,Zdw,Zd1,Zd3,ZdA,Zd5,ZdB,ZdJ,ZdG,ZdH,hr',Za3,x0,ln,m0,x1,i1,i0,n0,a1,m1,x2,m2,e2,x3,a3,m3,eq,Zf,Zt,asB,Zd,sl3,rdP,rdV,rdA,Zk,Zc,Zi,Zp,Zw,Zu,ZB,pks,pk,asI,Zq,Zv,List.getElem?_cons_succ,List.getElem?_cons_zero,List.set_cons_succ,List.set_cons_zero,Option.bind,Option.map]
 ·rw [decide_eq_false hc] at e2
  obtain ⟨q,hq,eq⟩:=fin u huw
  refine ⟨q,hq,?_⟩
  refine Zah rfl ?_
  show ZbN [.val (.int c),.val (LD Ls),.no,.no,.no,.no,.no,.no,.no]=_
  generalize la.map lnD=LA at *
  generalize LD Ls=L at *
  generalize ws.map D.int=W at *
  generalize pkD q=PQ at *
  generalize lnD l0=L0 at *
  generalize (Ls.length:Int)=N at *
  simp only [ZbN,Zdw,Zd1,Zd3,ZdA,Zd5,ZdB,ZdJ,ZdG,ZdH,hr',Za3,x0,ln,m0,x1,i1,i0,n0,a1,m1,x2,m2,e2,eq,Zf,Zt,asB,Zd,sl3,rdP,rdV,rdA,Zk,Zc,Zi,Zp,Zw,Zu,ZB,pks,pk,asI,Zq,Zv,List.getElem?_cons_succ,List.getElem?_cons_zero,List.set_cons_succ,List.set_cons_zero,Option.bind,Option.map]
theorem ZrP (s0 s1 s2 s3 s4:Sl) (q:AP):Zb8 3 (Z0 (Zo 2) (Z0 (Zo 3) (Z0 (Zo 4) Zcn))) (pkD q) [s0,s1,s2,s3,s4]=some [s0,s1,.val (.int (q.a:Int)),.val (.int (q.lv:Int)),.val (Zar q)]:=rfl
theorem ZhL (s0:Sl):∀ (qs:List AP) (acc:List D) (s2 s3 s4:Sl),acc.length+qs.length≤1000→∃ s2' s3' s4',ZJ (Zb8 3 (Z0 (Zo 2) (Z0 (Zo 3) (Z0 (Zo 4) Zcn)))) Zax (qs.map pkD) [s0,.own acc,s2,s3,s4]=.next [s0,.own (acc++qs.map pkD),s2',s3',s4']
 | [],acc,s2,s3,s4,_=>⟨s2,s3,s4,by simp [ZJ]⟩
 | q::qs,acc,s2,s3,s4,hz=>by
  simp only [List.length_cons] at hz
  obtain ⟨s2',s3',s4',e⟩:=ZhL s0 qs (acc++[pkD q]) (.val (.int (q.a:Int))) (.val (.int (q.lv:Int))) (.val (Zar q)) (by simp;omega)
  refine ⟨s2',s3',s4',?_⟩
  have hzl:acc.length<sizeLine:=Nat.lt_of_lt_of_le (show acc.length<1000 by omega) (by decide)
  have sh:∀ a b c:D,Zr (some [a,b,c])=some [a,b,c]:=fun _ _ _=>ZN _ (by simp)
  have hb:Zax [s0,.own acc,.val (.int (q.a:Int)),.val (.int (q.lv:Int)),.val (Zar q)]=.next [s0,.own (acc++[pkD q]),.val (.int (q.a:Int)),.val (.int (q.lv:Int)),.val (Zar q)]:=by
   obtain ⟨a,lv,tp,vs⟩:=q
   cases tp with
   | true =>
    have isl:isD [.tup (vs.map aD),.ty "list"]=some (.bl false):=rfl
    show Zax [s0,.own acc,.val (.int (a:Int)),.val (.int (lv:Int)),.val (.tup (vs.map aD))]=.next [s0,.own (acc++[.tup [.int (a:Int),.int (lv:Int),.tup (vs.map aD)]]),.val (.int (a:Int)),.val (.int (lv:Int)),.val (.tup (vs.map aD))]
    generalize vs.map aD=V at *
    simp only [Zax,Zat,isl,sh,Zam,rdO,hzl,if_true,Zf,Zt,asB,Zd,sl3,rdP,rdV,rdA,Zk,Zc,Zi,Zp,Zw,Zu,ZB,pks,pk,asI,Zq,Zv,List.getElem?_cons_succ,List.getElem?_cons_zero,List.set_cons_succ,List.set_cons_zero,Option.bind,Option.map]
   | false =>
    have isl:isD [.lst (vs.map aD),.ty "list"]=some (.bl true):=rfl
    have lt:Zj7 [.lst (vs.map aD)]=some (vs.map aD):=rfl
    show Zax [s0,.own acc,.val (.int (a:Int)),.val (.int (lv:Int)),.val (.lst (vs.map aD))]=.next [s0,.own (acc++[.tup [.int (a:Int),.int (lv:Int),.lst (vs.map aD)]]),.val (.int (a:Int)),.val (.int (lv:Int)),.val (.lst (vs.map aD))]
    generalize vs.map aD=V at *
    simp only [Zax,Zat,isl,lt,sh,Zam,rdO,hzl,if_true,Zf,Zt,asB,Zd,sl3,rdP,rdV,rdA,Zk,Zc,Zi,Zp,Zw,Zu,ZB,pks,pk,asI,Zq,Zv,List.getElem?_cons_succ,List.getElem?_cons_zero,List.set_cons_succ,List.set_cons_zero,Option.bind,Option.map]
  simp only [List.map_cons,ZJ,ZrP]
  rw [hb]
  rw [List.append_assoc] at e
  exact e
theorem Zmf (qs:List AP) (hl:qs.length≤100):F_law_copied [.val (.lst (qs.map pkD))]=some (.own (qs.map pkD)):=by
 obtain ⟨s2',s3',s4',e⟩:=ZhL (.val (.lst (qs.map pkD))) qs [] .no .no .no (by simp;omega)
 rw [List.nil_append] at e
 have hsh:Zr (some ([]:List D))=some []:=rfl
 generalize qs.map pkD=Q at *
 refine Zah rfl ?_
 show Zcv [.val (.lst Q),.no,.no,.no,.no]=_
 simp only [Zcv,Zae,hsh,ZT,rdQ,ZA,e,rdO,Zaw,Zf,Zt,asB,Zd,sl3,rdP,rdV,rdA,Zk,Zc,Zi,Zp,Zw,Zu,ZB,pks,pk,asI,Zq,Zv,List.getElem?_cons_succ,List.getElem?_cons_zero,List.set_cons_succ,List.set_cons_zero,Option.bind,Option.map]
theorem Zox (s0 s1 s2 s3 s4 s5 s6 s7 s8:Sl) (q:AP):Zb8 3 (Z0 (Zo 6) (Z0 (Zo 7) (Z0 (Zo 8) Zcn))) (pkD q) [s0,s1,s2,s3,s4,s5,s6,s7,s8]=some [s0,s1,s2,s3,s4,s5,.val (.int (q.a:Int)),.val (.int (q.lv:Int)),.val (Zar q)]:=rfl
theorem ZgL (s0 s1 s3:Sl) (x:Nat) (l:List At):∀ (qs:List AP) (b:Bool) (s6 s7 s8:Sl),(∀ q∈qs,q.a=x→q.lv≤l.length)→∃ s6' s7' s8',ZJ (Zb8 3 (Z0 (Zo 6) (Z0 (Zo 7) (Z0 (Zo 8) Zcn)))) ZaD (qs.map pkD) [s0,s1,.val (.int (x:Int)),s3,.val (lnD l),.val (.bl b),s6,s7,s8]=.next [s0,s1,.val (.int (x:Int)),s3,.val (lnD l),.val (.bl (b&&ZD qs x l)),s6',s7',s8']
 | [],b,s6,s7,s8,_=>⟨s6,s7,s8,by simp [ZJ,ZD]⟩
 | q::qs,b,s6,s7,s8,hq=>by
  have e1:=ZcG (q.a:Int) (x:Int)
  simp only [List.map_cons,ZJ,Zox]
  by_cases h:q.a=x
  ·rw [decide_eq_true (by omega)] at e1
   have ha:=Zbo l q.lv (hq q List.mem_cons_self h)
   have hin:=Zoe (l.getD q.lv .non) q
   by_cases hm:l.getD q.lv .non∈q.vs
   ·rw [decide_eq_true hm] at hin
    obtain ⟨s6',s7',s8',e⟩:=ZgL s0 s1 s3 x l qs b (.val (.int (q.a:Int))) (.val (.int (q.lv:Int))) (.val (Zar q)) (fun p hp=>hq p (List.mem_cons_of_mem _ hp))
    refine ⟨s6',s7',s8',?_⟩
    have hb:ZaD [s0,s1,.val (.int (x:Int)),s3,.val (lnD l),.val (.bl b),.val (.int (q.a:Int)),.val (.int (q.lv:Int)),.val (Zar q)]=.next [s0,s1,.val (.int (x:Int)),s3,.val (lnD l),.val (.bl b),.val (.int (q.a:Int)),.val (.int (q.lv:Int)),.val (Zar q)]:=by
     generalize Zar q=V at *
     generalize aD (l.getD q.lv .non)=T at *
     simp only [ZaD,e1,ha,Zap,hin,Zbm,Bool.not_true,Zf,Zt,asB,Zd,sl3,rdP,rdV,rdA,Zk,Zc,Zi,Zp,Zw,Zu,ZB,pks,pk,asI,Zq,Zv,List.getElem?_cons_succ,List.getElem?_cons_zero,List.set_cons_succ,List.set_cons_zero,Option.bind,Option.map]
    rw [hb]
    refine e.trans ?_
    have:ZD (q::qs) x l=ZD qs x l:=by
     unfold ZD
     rw [List.all_cons,if_pos h,decide_eq_true hm,Bool.true_and]
    rw [this]
   ·rw [decide_eq_false hm] at hin
    obtain ⟨s6',s7',s8',e⟩:=ZgL s0 s1 s3 x l qs false (.val (.int (q.a:Int))) (.val (.int (q.lv:Int))) (.val (Zar q)) (fun p hp=>hq p (List.mem_cons_of_mem _ hp))
    refine ⟨s6',s7',s8',?_⟩
    have hb:ZaD [s0,s1,.val (.int (x:Int)),s3,.val (lnD l),.val (.bl b),.val (.int (q.a:Int)),.val (.int (q.lv:Int)),.val (Zar q)]=.next [s0,s1,.val (.int (x:Int)),s3,.val (lnD l),.val (.bl false),.val (.int (q.a:Int)),.val (.int (q.lv:Int)),.val (Zar q)]:=by
     generalize Zar q=V at *
     generalize aD (l.getD q.lv .non)=T at *
     simp only [ZaD,e1,ha,Zap,hin,Zbm,Bool.not_false,Zf,Zt,asB,Zd,sl3,rdP,rdV,rdA,Zk,Zc,Zi,Zp,Zw,Zu,ZB,pks,pk,asI,Zq,Zv,List.getElem?_cons_succ,List.getElem?_cons_zero,List.set_cons_succ,List.set_cons_zero,Option.bind,Option.map]
    rw [hb]
    refine e.trans ?_
    have:ZD (q::qs) x l=false:=by
     unfold ZD
     rw [List.all_cons,if_pos h,decide_eq_false hm,Bool.false_and]
    rw [this]
    simp
  ·rw [decide_eq_false (by omega)] at e1
   obtain ⟨s6',s7',s8',e⟩:=ZgL s0 s1 s3 x l qs b (.val (.int (q.a:Int))) (.val (.int (q.lv:Int))) (.val (Zar q)) (fun p hp=>hq p (List.mem_cons_of_mem _ hp))
   refine ⟨s6',s7',s8',?_⟩
   have hb:ZaD [s0,s1,.val (.int (x:Int)),s3,.val (lnD l),.val (.bl b),.val (.int (q.a:Int)),.val (.int (q.lv:Int)),.val (Zar q)]=.next [s0,s1,.val (.int (x:Int)),s3,.val (lnD l),.val (.bl b),.val (.int (q.a:Int)),.val (.int (q.lv:Int)),.val (Zar q)]:=by
    generalize Zar q=V at *
    simp only [ZaD,e1,Zbm,Zf,Zt,asB,Zd,sl3,rdP,rdV,rdA,Zk,Zc,Zi,Zp,Zw,Zu,ZB,pks,pk,asI,Zq,Zv,List.getElem?_cons_succ,List.getElem?_cons_zero,List.set_cons_succ,List.set_cons_zero,Option.bind,Option.map]
   rw [hb]
   refine e.trans ?_
   have:ZD (q::qs) x l=ZD qs x l:=by
    unfold ZD
    rw [List.all_cons,if_neg h,Bool.true_and]
   rw [this]
theorem Zic (s0:Sl) (x w:Nat) (qs:List AP) (hq:∀ q∈qs,q.a=x→q.lv≤w):∀ (la:List (List At)) (acc:List At) (s4 s5 s6 s7 s8:Sl),(∀ l∈la,l.length=w∧l≠[])→acc.length+la.length≤1000→∃ s4' s5' s6' s7' s8',ZJ (Zo 4) Zbe (la.map lnD) [s0,.val (.lst (qs.map pkD)),.val (.int (x:Int)),.own (acc.map aD),s4,s5,s6,s7,s8]=.next [s0,.val (.lst (qs.map pkD)),.val (.int (x:Int)),.own ((acc++(la.filter (ZD qs x)).map hd0).map aD),s4',s5',s6',s7',s8']
 | [],acc,s4,s5,s6,s7,s8,_,_=>⟨s4,s5,s6,s7,s8,by simp [ZJ]⟩
 | l::la,acc,s4,s5,s6,s7,s8,hl,hz=>by
  simp only [List.length_cons] at hz
  obtain ⟨hlw,hne⟩:=hl l List.mem_cons_self
  obtain ⟨x6,x7,x8,ea⟩:=ZgL s0 (.val (.lst (qs.map pkD))) (.own (acc.map aD)) x l qs true s6 s7 s8 (fun q hm he=>by rw [hlw];exact hq q hm he)
  rw [Bool.true_and] at ea
  have h0:=Zfl l hne
  have hzl:(acc.map aD).length<sizeLine:=Nat.lt_of_lt_of_le (show (acc.map aD).length<1000 by simp;omega) (by decide)
  simp only [List.map_cons,ZJ,Zo,List.set_cons_succ,List.set_cons_zero]
  cases hask:ZD qs x l with
  | true =>
   rw [hask] at ea
   obtain ⟨s4',s5',s6',s7',s8',e⟩:=Zic s0 x w qs hq la (acc++[hd0 l]) (.val (lnD l)) (.val (.bl true)) x6 x7 x8 (fun y hy=>hl y (List.mem_cons_of_mem _ hy)) (by simp;omega)
   refine ⟨s4',s5',s6',s7',s8',?_⟩
   have hb:Zbe [s0,.val (.lst (qs.map pkD)),.val (.int (x:Int)),.own (acc.map aD),.val (lnD l),s5,s6,s7,s8]=.next [s0,.val (.lst (qs.map pkD)),.val (.int (x:Int)),.own ((acc++[hd0 l]).map aD),.val (lnD l),.val (.bl true),x6,x7,x8]:=by
    rw [List.map_append,List.map_cons,List.map_nil]
    generalize qs.map pkD=Q at *
    generalize acc.map aD=A at *
    generalize aD (hd0 l)=T at *
    simp only [Zbe,ZT,rdQ,ZA,ea,Zat,h0,Zam,rdO,hzl,if_true,Zf,Zt,asB,Zd,sl3,rdP,rdV,rdA,Zk,Zc,Zi,Zp,Zw,Zu,ZB,pks,pk,asI,Zq,Zv,List.getElem?_cons_succ,List.getElem?_cons_zero,List.set_cons_succ,List.set_cons_zero,Option.bind,Option.map]
   rw [hb]
   refine e.trans ?_
   rw [List.filter_cons_of_pos hask,List.map_cons,List.append_assoc]
   rfl
  | false =>
   rw [hask] at ea
   obtain ⟨s4',s5',s6',s7',s8',e⟩:=Zic s0 x w qs hq la acc (.val (lnD l)) (.val (.bl false)) x6 x7 x8 (fun y hy=>hl y (List.mem_cons_of_mem _ hy)) (by omega)
   refine ⟨s4',s5',s6',s7',s8',?_⟩
   have hb:Zbe [s0,.val (.lst (qs.map pkD)),.val (.int (x:Int)),.own (acc.map aD),.val (lnD l),s5,s6,s7,s8]=.next [s0,.val (.lst (qs.map pkD)),.val (.int (x:Int)),.own (acc.map aD),.val (lnD l),.val (.bl false),x6,x7,x8]:=by
    generalize qs.map pkD=Q at *
    generalize acc.map aD=A at *
    simp only [Zbe,ZT,rdQ,ZA,ea,Zat,Zf,Zt,asB,Zd,sl3,rdP,rdV,rdA,Zk,Zc,Zi,Zp,Zw,Zu,ZB,pks,pk,asI,Zq,Zv,List.getElem?_cons_succ,List.getElem?_cons_zero,List.set_cons_succ,List.set_cons_zero,Option.bind,Option.map]
   rw [hb]
   refine e.trans ?_
   rw [List.filter_cons_of_neg (by rw [hask];decide)]
theorem Zo4 {Ls:List (Nat×List (List At))} (h:ZcO Ls) (qs:List AP) (hq:∀ q∈qs,ZgB Ls q) (x w:Nat) (la:List (List At)) (hx:Ls[x]?=some (w,la)):F_law_some [.val (LD Ls),.val (.lst (qs.map pkD)),.val (.int (x:Int))]=some (.own (((la.filter (ZD qs x)).map hd0).map aD)):=by
 have hm:=List.mem_of_getElem? hx
 have hla:=h.la _ hm
 have h8:=h.l8 _ hm
 have hi:=Zfk hx
 obtain ⟨a,b,c,d,f,e⟩:=Zic (.val (LD Ls)) x w qs (fun q hm he=>by
  obtain ⟨_,p,hp,hl⟩:=hq q hm
  rw [he,hx] at hp
  cases hp
  exact hl) la [] .no .no .no .no .no (fun l hl=>⟨hla.len l hl,fun z=>by have:=hla.len l hl;have:=hla.w0;rw [z] at *;simp at *;omega⟩) (by simp;dsimp only at h8;omega)
 rw [List.map_nil,List.nil_append] at e
 have hsh:Zr (some ([]:List D))=some []:=rfl
 generalize ((la.filter (ZD qs x)).map hd0).map aD=S at *
 generalize la.map lnD=LA at *
 generalize LD Ls=L at *
 generalize qs.map pkD=Q at *
 refine Zah rfl ?_
 show Zdk [.val L,.val (.lst Q),.val (.int (x:Int)),.no,.no,.no,.no,.no,.no]=_
 simp only [Zdk,Zae,hsh,hi,ZT,ZA,e,rdO,Zaw,Zf,Zt,asB,Zd,sl3,rdP,rdV,rdA,Zk,Zc,Zi,Zp,Zw,Zu,ZB,pks,pk,asI,Zq,Zv,List.getElem?_cons_succ,List.getElem?_cons_zero,List.set_cons_succ,List.set_cons_zero,Option.bind,Option.map]
theorem Zh2 {α β:Type} {f:α→β}:∀ {l:List α},(l.map f).Nodup→∀ {a b:α},a∈l→b∈l→f a=f b→a=b
 | x::r,h,a,b,ha,hb,e=>by
  rw [List.map_cons,List.nodup_cons] at h
  rcases List.mem_cons.mp ha with e1 | ha'
  ·rcases List.mem_cons.mp hb with e2 | hb'
   ·rw [e1,e2]
   ·rw [e1] at e
    exact absurd (List.mem_map.mpr ⟨b,hb',e.symm⟩) h.1
  ·rcases List.mem_cons.mp hb with e2 | hb'
   ·rw [e2] at e
    exact absurd (List.mem_map.mpr ⟨a,ha',e⟩) h.1
   ·exact Zh2 h.2 ha' hb' e
theorem ZhY {w:Nat} {la:List (List At)} (h:ZaW w la) (P:List At→Bool) {l:List At} (hl:l∈la):decide (hd0 l∈(la.filter P).map hd0)=P l:=by
 rw [Bool.eq_iff_iff,decide_eq_true_eq]
 constructor
 ·intro hm
  obtain ⟨m,hm,e⟩:=List.mem_map.mp hm
  obtain ⟨h1,h2⟩:=List.mem_filter.mp hm
  rw [← Zh2 h.nd h1 hl e]
  exact h2
 ·intro hp
  exact List.mem_map.mpr ⟨l,List.mem_filter.mpr ⟨hl,hp⟩,rfl⟩
def Zjy (qs:List AP) (x g:Nat) (l:List At):Option At:=if ZD qs x l=true then some (l.getD g .non) else none
def Zfm (qs:List AP) (x k g:Nat) (one other:List At):Bool:=decide (one.getD k .non=other.getD k .non)&&!decide (Zjy qs x g one=Zjy qs x g other)
def trD (t:Nat×At×At):D:=.tup [.int (t.1:Int),aD t.2.1,aD t.2.2]
theorem Zrp (qs:List AP) (x k g:Nat) (one other:List At):Zfm qs x k g one other=(decide (one.getD k .non=other.getD k .non)&&((ZD qs x one != ZD qs x other)||(ZD qs x one&&!decide (one.getD g .non=other.getD g .non)))):=by
 unfold Zfm Zjy
 cases ZD qs x one<;>cases ZD qs x other<;>simp
theorem pr1 (s3:Sl) (Ls:List (Nat×List (List At))) (ks gs:List Nat) (hkl:ks.length=Ls.length) (hgl:gs.length=Ls.length) (qs:List AP) (x w:Nat) (la:List (List At)) (hx:Ls[x]?=some (w,la)) (hla:ZaW w la) (hkw:ks.getD x 0≤w) (hgw:gs.getD x 0≤w) (SM:D) (hsm:ixD SM (.int (x:Int))=some (.lst (((la.filter (ZD qs x)).map hd0).map aD))) (one:List At) (hone:one∈la):∀ (ms:List (List At)) (acc:List (Nat×At×At)) (s8 s9 s10 s11 s12:Sl),(∀ m∈ms,m∈la)→acc.length+ms.length≤1000 →
  ∃ s8' s9' s10' s11' s12',ZJ (Zo 8) ZaI (ms.map lnD) [.val (LD Ls),.val (GD ks),.val (GD gs),s3,.val SM,.own (acc.map trD),.val (.int (x:Int)),.val (lnD one),s8,s9,s10,s11,s12]=.next [.val (LD Ls),.val (GD ks),.val (GD gs),s3,.val SM,.own ((acc++(ms.filter (Zfm qs x (ks.getD x 0) (gs.getD x 0) one)).map fun o=>(x,hd0 one,hd0 o)).map trD),.val (.int (x:Int)),.val (lnD one),s8',s9',s10',s11',s12']
 | [],acc,s8,s9,s10,s11,s12,_,_=>⟨s8,s9,s10,s11,s12,by simp [ZJ]⟩
 | o::ms,acc,s8,s9,s10,s11,s12,hm,hz=>by
  simp only [List.length_cons] at hz
  have ho:=hm o List.mem_cons_self
  have hxl:x<Ls.length:=(List.getElem?_eq_some_iff.mp hx).1
  have hne:∀ l∈la,l≠[]:=fun l hl z=>by have h1:=hla.len l hl;have h2:=hla.w0;rw [z] at h1;simp at h1;omega
  have k1:=ZhC (gs:=ks) (x:=x) (by omega)
  have g1:=ZhC (gs:=gs) (x:=x) (by omega)
  have a1:=Zbo one (ks.getD x 0) (by rw [hla.len one hone];exact hkw)
  have a2:=Zbo o (ks.getD x 0) (by rw [hla.len o ho];exact hkw)
  have a3:=Zbo one (gs.getD x 0) (by rw [hla.len one hone];exact hgw)
  have a4:=Zbo o (gs.getD x 0) (by rw [hla.len o ho];exact hgw)
  have e1:=ZpS (one.getD (ks.getD x 0) .non) (o.getD (ks.getD x 0) .non)
  have e2:=Zqm (one.getD (gs.getD x 0) .non) (o.getD (gs.getD x 0) .non)
  have h1:=Zfl one (hne one hone)
  have h2:=Zfl o (hne o ho)
  have i1:=(Zcc (hd0 one) ((la.filter (ZD qs x)).map hd0)).1
  have i2:=(Zcc (hd0 o) ((la.filter (ZD qs x)).map hd0)).1
  rw [ZhY hla _ hone] at i1
  rw [ZhY hla _ ho] at i2
  have nb:neO (.bl (ZD qs x one)) (.bl (ZD qs x o))=some (.bl (ZD qs x one != ZD qs x o)):=by cases ZD qs x one<;>cases ZD qs x o<;>rfl
  have hbe:=Zrp qs x (ks.getD x 0) (gs.getD x 0) one o
  have hzl:(acc.map trD).length<sizeLine:=Nat.lt_of_lt_of_le (show (acc.map trD).length<1000 by simp;omega) (by decide)
  have sh:∀ a b c:D,Zr (some [a,b,c])=some [a,b,c]:=fun _ _ _=>ZN _ (by simp)
  generalize hB:decide (one.getD (ks.getD x 0) .non=o.getD (ks.getD x 0) .non)=B1 at *
  generalize hC:decide (one.getD (gs.getD x 0) .non=o.getD (gs.getD x 0) .non)=B2 at *
  generalize ZD qs x one=B3 at *
  generalize ZD qs x o=B4 at *
  have hcond:Zbm (some B1) (orB (some (B3 != B4)) (Zbm (some B3) (some (!B2))))=some (Zfm qs x (ks.getD x 0) (gs.getD x 0) one o):=by
   rw [hbe]
   cases B1<;>cases B2<;>cases B3<;>cases B4<;>rfl
  simp only [List.map_cons,ZJ,Zo,List.set_cons_succ,List.set_cons_zero]
  cases hbad:Zfm qs x (ks.getD x 0) (gs.getD x 0) one o with
  | true =>
   rw [hbad] at hcond
   obtain ⟨s8',s9',s10',s11',s12',e⟩:=pr1 s3 Ls ks gs hkl hgl qs x w la hx hla hkw hgw SM hsm one hone ms (acc++[(x,hd0 one,hd0 o)]) (.val (lnD o)) (.val (.bl B1)) (.val (.bl B3)) (.val (.bl B4)) (.val (.bl (!B2))) (fun y hy=>hm y (List.mem_cons_of_mem _ hy)) (by simp;omega)
   refine ⟨s8',s9',s10',s11',s12',?_⟩
   have hb:ZaI [.val (LD Ls),.val (GD ks),.val (GD gs),s3,.val SM,.own (acc.map trD),.val (.int (x:Int)),.val (lnD one),.val (lnD o),s9,s10,s11,s12]=.next [.val (LD Ls),.val (GD ks),.val (GD gs),s3,.val SM,.own ((acc++[(x,hd0 one,hd0 o)]).map trD),.val (.int (x:Int)),.val (lnD one),.val (lnD o),.val (.bl B1),.val (.bl B3),.val (.bl B4),.val (.bl (!B2))]:=by
    rw [List.map_append,List.map_cons,List.map_nil]
    show _=Res.next [.val (LD Ls),.val (GD ks),.val (GD gs),s3,.val SM,.own (acc.map trD++[.tup [.int (x:Int),aD (hd0 one),aD (hd0 o)]]),.val (.int (x:Int)),.val (lnD one),.val (lnD o),.val (.bl B1),.val (.bl B3),.val (.bl B4),.val (.bl (!B2))]
    generalize ((la.filter (ZD qs x)).map hd0).map aD=S at *
    generalize acc.map trD=A at *
    generalize lnD one=O1 at *
    generalize lnD o=O2 at *
    generalize GD ks=KK at *
    generalize GD gs=GG at *
    generalize LD Ls=L at *
    generalize aD (hd0 one)=H1 at *
    generalize aD (hd0 o)=H2 at *
    simp only [ZaI,k1,g1,a1,a2,a3,a4,Zap,e1,e2,h1,h2,hsm,i1,i2,nb,Zat,hcond,sh,Zam,rdO,hzl,if_true,Zf,Zt,asB,Zd,sl3,rdP,rdV,rdA,Zk,Zc,Zi,Zp,Zw,Zu,ZB,pks,pk,asI,Zq,Zv,List.getElem?_cons_succ,List.getElem?_cons_zero,List.set_cons_succ,List.set_cons_zero,Option.bind,Option.map]
   rw [hb]
   refine e.trans ?_
   rw [List.filter_cons_of_pos hbad,List.map_cons,List.append_assoc]
   rfl
  | false =>
   rw [hbad] at hcond
   obtain ⟨s8',s9',s10',s11',s12',e⟩:=pr1 s3 Ls ks gs hkl hgl qs x w la hx hla hkw hgw SM hsm one hone ms acc (.val (lnD o)) (.val (.bl B1)) (.val (.bl B3)) (.val (.bl B4)) (.val (.bl (!B2))) (fun y hy=>hm y (List.mem_cons_of_mem _ hy)) (by omega)
   refine ⟨s8',s9',s10',s11',s12',?_⟩
   have hb:ZaI [.val (LD Ls),.val (GD ks),.val (GD gs),s3,.val SM,.own (acc.map trD),.val (.int (x:Int)),.val (lnD one),.val (lnD o),s9,s10,s11,s12]=.next [.val (LD Ls),.val (GD ks),.val (GD gs),s3,.val SM,.own (acc.map trD),.val (.int (x:Int)),.val (lnD one),.val (lnD o),.val (.bl B1),.val (.bl B3),.val (.bl B4),.val (.bl (!B2))]:=by
    generalize ((la.filter (ZD qs x)).map hd0).map aD=S at *
    generalize acc.map trD=A at *
    generalize lnD one=O1 at *
    generalize lnD o=O2 at *
    generalize GD ks=KK at *
    generalize GD gs=GG at *
    generalize LD Ls=L at *
    generalize aD (hd0 one)=H1 at *
    generalize aD (hd0 o)=H2 at *
    simp only [ZaI,k1,g1,a1,a2,a3,a4,Zap,e1,e2,h1,h2,hsm,i1,i2,nb,Zat,hcond,Zf,Zt,asB,Zd,sl3,rdP,rdV,rdA,Zk,Zc,Zi,Zp,Zw,Zu,ZB,pks,pk,asI,Zq,Zv,List.getElem?_cons_succ,List.getElem?_cons_zero,List.set_cons_succ,List.set_cons_zero,Option.bind,Option.map]
   rw [hb]
   refine e.trans ?_
   rw [List.filter_cons_of_neg (by rw [hbad];decide)]
def ZdL (qs:List AP) (x k g:Nat) (la:List (List At)) (one:List At):List (Nat×At×At):=(la.filter (Zfm qs x k g one)).map fun o=>(x,hd0 one,hd0 o)
theorem ZjN (qs:List AP) (x k g:Nat) (la:List (List At)) (one:List At):(ZdL qs x k g la one).length≤la.length:=by
 unfold ZdL
 rw [List.length_map]
 exact List.length_filter_le _ _
theorem pr2 (s3:Sl) (Ls:List (Nat×List (List At))) (ks gs:List Nat) (hkl:ks.length=Ls.length) (hgl:gs.length=Ls.length) (qs:List AP) (x w:Nat) (la:List (List At)) (hx:Ls[x]?=some (w,la)) (hla:ZaW w la) (h8:la.length≤8) (hkw:ks.getD x 0≤w) (hgw:gs.getD x 0≤w) (SM:D) (hsm:ixD SM (.int (x:Int))=some (.lst (((la.filter (ZD qs x)).map hd0).map aD))):∀ (ms:List (List At)) (acc:List (Nat×At×At)) (s7 s8 s9 s10 s11 s12:Sl),(∀ m∈ms,m∈la)→acc.length+8 * ms.length≤1000 →
  ∃ s7' s8' s9' s10' s11' s12',ZJ (Zo 7) Zce (ms.map lnD) [.val (LD Ls),.val (GD ks),.val (GD gs),s3,.val SM,.own (acc.map trD),.val (.int (x:Int)),s7,s8,s9,s10,s11,s12]=.next [.val (LD Ls),.val (GD ks),.val (GD gs),s3,.val SM,.own ((acc++ms.flatMap (ZdL qs x (ks.getD x 0) (gs.getD x 0) la)).map trD),.val (.int (x:Int)),s7',s8',s9',s10',s11',s12']
 | [],acc,s7,s8,s9,s10,s11,s12,_,_=>⟨s7,s8,s9,s10,s11,s12,by simp [ZJ]⟩
 | o::ms,acc,s7,s8,s9,s10,s11,s12,hm,hz=>by
  simp only [List.length_cons] at hz
  obtain ⟨x8,x9,x10,x11,x12,e1⟩:=pr1 s3 Ls ks gs hkl hgl qs x w la hx hla hkw hgw SM hsm o (hm o List.mem_cons_self) la acc s8 s9 s10 s11 s12 (fun m hm=>hm) (by omega)
  have hrl:=ZjN qs x (ks.getD x 0) (gs.getD x 0) la o
  obtain ⟨s7',s8',s9',s10',s11',s12',e⟩:=pr2 s3 Ls ks gs hkl hgl qs x w la hx hla h8 hkw hgw SM hsm ms (acc++ZdL qs x (ks.getD x 0) (gs.getD x 0) la o) (.val (lnD o)) x8 x9 x10 x11 x12 (fun y hy=>hm y (List.mem_cons_of_mem _ hy)) (by rw [List.length_append];omega)
  refine ⟨s7',s8',s9',s10',s11',s12',?_⟩
  have hi:=Zfk hx
  have e1':ZJ (Zo 8) ZaI (la.map lnD) [.val (LD Ls),.val (GD ks),.val (GD gs),s3,.val SM,.own (acc.map trD),.val (.int (x:Int)),.val (lnD o),s8,s9,s10,s11,s12]=.next [.val (LD Ls),.val (GD ks),.val (GD gs),s3,.val SM,.own ((acc++ZdL qs x (ks.getD x 0) (gs.getD x 0) la o).map trD),.val (.int (x:Int)),.val (lnD o),x8,x9,x10,x11,x12]:=e1
  have hb:Zce [.val (LD Ls),.val (GD ks),.val (GD gs),s3,.val SM,.own (acc.map trD),.val (.int (x:Int)),.val (lnD o),s8,s9,s10,s11,s12]=.next [.val (LD Ls),.val (GD ks),.val (GD gs),s3,.val SM,.own ((acc++ZdL qs x (ks.getD x 0) (gs.getD x 0) la o).map trD),.val (.int (x:Int)),.val (lnD o),x8,x9,x10,x11,x12]:=by
   generalize (acc++ZdL qs x (ks.getD x 0) (gs.getD x 0) la o).map trD=A2 at *
   generalize acc.map trD=A at *
   generalize la.map lnD=LA at *
   generalize LD Ls=L at *
   generalize GD ks=KK at *
   generalize GD gs=GG at *
   simp only [Zce,ZT,hi,ZA,e1',Zf,Zt,asB,Zd,sl3,rdP,rdV,rdA,Zk,Zc,Zi,Zp,Zw,Zu,ZB,pks,pk,asI,Zq,Zv,List.getElem?_cons_succ,List.getElem?_cons_zero,List.set_cons_succ,List.set_cons_zero,Option.bind,Option.map]
  simp only [List.map_cons,ZJ,Zo,List.set_cons_succ,List.set_cons_zero]
  rw [hb]
  refine e.trans ?_
  rw [List.flatMap_cons,List.append_assoc]
def axT (Ls:List (Nat×List (List At))) (ks gs:List Nat) (qs:List AP) (x:Nat):List (Nat×At×At):=((Ls.getD x (0,[])).2).flatMap (ZdL qs x (ks.getD x 0) (gs.getD x 0) (Ls.getD x (0,[])).2)
theorem Zj5 {α β:Type} (f:α→List β) (n:Nat):∀ (l:List α),(∀ a∈l,(f a).length≤n)→(l.flatMap f).length≤n * l.length
 | [],_=>by simp
 | a::l,h=>by
  have ih:=Zj5 f n l fun b hb=>h b (List.mem_cons_of_mem _ hb)
  have h1:=h a List.mem_cons_self
  rw [List.flatMap_cons,List.length_append,List.length_cons,Nat.mul_add]
  omega
theorem pr3 (s3:Sl) (Ls:List (Nat×List (List At))) (ks gs:List Nat) (hkl:ks.length=Ls.length) (hgl:gs.length=Ls.length) (qs:List AP) (h:ZcO Ls) (hk:Zca Ls ks) (hg:Zca Ls gs) (SM:D) (hsm:∀ (x w:Nat) (la:List (List At)),Ls[x]?=some (w,la)→ixD SM (.int (x:Int))=some (.lst (((la.filter (ZD qs x)).map hd0).map aD))):∀ (xs:List Nat) (acc:List (Nat×At×At)) (s6 s7 s8 s9 s10 s11 s12:Sl),(∀ x∈xs,x<Ls.length)→acc.length+64 * xs.length≤500 →
  ∃ s6' s7' s8' s9' s10' s11' s12',ZJ (Zo 6) Zcj (xs.map fun (k:Nat)=>D.int (k:Int)) [.val (LD Ls),.val (GD ks),.val (GD gs),s3,.val SM,.own (acc.map trD),s6,s7,s8,s9,s10,s11,s12]=.next [.val (LD Ls),.val (GD ks),.val (GD gs),s3,.val SM,.own ((acc++xs.flatMap (axT Ls ks gs qs)).map trD),s6',s7',s8',s9',s10',s11',s12']
 | [],acc,s6,s7,s8,s9,s10,s11,s12,_,_=>⟨s6,s7,s8,s9,s10,s11,s12,by simp [ZJ]⟩
 | x::xs,acc,s6,s7,s8,s9,s10,s11,s12,hm,hz=>by
  simp only [List.length_cons] at hz
  have hxl:=hm x List.mem_cons_self
  obtain ⟨w,la,hx⟩:∃ w la,Ls[x]?=some (w,la):=⟨(Ls[x]).1,(Ls[x]).2,by rw [List.getElem?_eq_getElem hxl]⟩
  have hmem:=List.mem_of_getElem? hx
  have hla:ZaW w la:=h.la _ hmem
  have h8:la.length≤8:=h.l8 _ hmem
  have hax:axT Ls ks gs qs x=la.flatMap (ZdL qs x (ks.getD x 0) (gs.getD x 0) la):=by
   unfold axT
   simp [List.getD,hx]
  obtain ⟨x7,x8,x9,x10,x11,x12,e1⟩:=pr2 s3 Ls ks gs hkl hgl qs x w la hx hla h8 (hk.2 x w la hx) (hg.2 x w la hx) SM (hsm x w la hx) la acc s7 s8 s9 s10 s11 s12 (fun m hm=>hm) (by omega)
  rw [← hax] at e1
  have hal:(axT Ls ks gs qs x).length≤64:=by
   rw [hax]
   have:=Zj5 (ZdL qs x (ks.getD x 0) (gs.getD x 0) la) 8 la fun o _=>Nat.le_trans (ZjN _ _ _ _ _ _) h8
   omega
  obtain ⟨s6',s7',s8',s9',s10',s11',s12',e⟩:=pr3 s3 Ls ks gs hkl hgl qs h hk hg SM hsm xs (acc++axT Ls ks gs qs x) (.val (.int (x:Int))) x7 x8 x9 x10 x11 x12 (fun y hy=>hm y (List.mem_cons_of_mem _ hy)) (by rw [List.length_append];omega)
  refine ⟨s6',s7',s8',s9',s10',s11',s12',?_⟩
  have hi:=Zfk hx
  have hb:Zcj [.val (LD Ls),.val (GD ks),.val (GD gs),s3,.val SM,.own (acc.map trD),.val (.int (x:Int)),s7,s8,s9,s10,s11,s12]=.next [.val (LD Ls),.val (GD ks),.val (GD gs),s3,.val SM,.own ((acc++axT Ls ks gs qs x).map trD),.val (.int (x:Int)),x7,x8,x9,x10,x11,x12]:=by
   generalize (acc++axT Ls ks gs qs x).map trD=A2 at *
   generalize acc.map trD=A at *
   generalize la.map lnD=LA at *
   generalize LD Ls=L at *
   generalize GD ks=KK at *
   generalize GD gs=GG at *
   simp only [Zcj,ZT,hi,ZA,e1,Zf,Zt,asB,Zd,sl3,rdP,rdV,rdA,Zk,Zc,Zi,Zp,Zw,Zu,ZB,pks,pk,asI,Zq,Zv,List.getElem?_cons_succ,List.getElem?_cons_zero,List.set_cons_succ,List.set_cons_zero,Option.bind,Option.map]
  simp only [List.map_cons,ZJ,Zo,List.set_cons_succ,List.set_cons_zero]
  rw [hb]
  refine e.trans ?_
  rw [List.flatMap_cons,List.append_assoc]
theorem Zi6 (ms:List (List At)):inD false (.lst []) (.lst (ms.map fun m=>D.lst (m.map aD)))=some (.bl (ms.any fun m=>m.isEmpty)):=by
 have h1:okD Z1 (.lst [])=true:=rfl
 have h2:(ms.map fun m=>D.lst (m.map aD)).all (okD Z1)=true:=by
  rw [List.all_map,List.all_eq_true]
  intro m _
  show (m.map aD).all (okD 11)=true
  rw [List.all_map,List.all_eq_true]
  exact fun a _=>ZdD 11 a
 have h3:ZcK (.lst []) (ms.map fun m=>D.lst (m.map aD))=ms.any fun m=>m.isEmpty:=by
  unfold ZcK
  rw [List.any_map]
  congr 1
  funext m
  cases m<;>rfl
 simp only [inD,h1,h2,h3,Bool.and_self,if_true,Bool.false_eq_true,if_false]
def Zbg (Ls:List (Nat×List (List At))) (qs:List AP):Bool:=(List.range Ls.length).any fun x=>(((Ls.getD x (0,[])).2).filter (ZD qs x)).isEmpty
theorem Zhb {Ls:List (Nat×List (List At))} {x:Nat} (hx:x<Ls.length):∃ w la,Ls[x]?=some (w,la)∧(Ls.getD x (0,[])).2=la:=⟨(Ls[x]).1,(Ls[x]).2,by rw [List.getElem?_eq_getElem hx],by simp [List.getD,List.getElem?_eq_getElem hx]⟩
theorem Zne {Ls:List (Nat×List (List At))} (h:ZcO Ls) (ks gs:List Nat) (hk:Zca Ls ks) (hg:Zca Ls gs) (qs:List AP) (hq:∀ q∈qs,ZgB Ls q):F_law_pairs [.val (LD Ls),.val (GD ks),.val (GD gs),.val (.lst (qs.map pkD))]=some (.own ((if Zbg Ls qs=true then [] else (List.range Ls.length).flatMap (axT Ls ks gs qs)).map trD)):=by
 have h3:=h.few
 have hc:=Zan (b:=Zo 0) (e:=Zc9) (ρ:=[.no,.val (LD Ls),.val (.lst (qs.map pkD))]) (fun (k:Nat)=>D.int (k:Int)) (fun x=>D.lst (((((Ls.getD x (0,[])).2).filter (ZD qs x)).map hd0).map aD)) (List.range Ls.length) fun x hx=>⟨[.val (.int (x:Int)),.val (LD Ls),.val (.lst (qs.map pkD))],rfl,by
  obtain ⟨w,la,hx1,hx2⟩:=Zhb (List.mem_range.mp hx)
  have hs:=Zo4 h qs hq x w la hx1
  rw [hx2]
  generalize ((la.filter (ZD qs x)).map hd0).map aD=S at *
  generalize LD Ls=L at *
  generalize qs.map pkD=Q at *
  simp only [Zc9,hs,Za3,Zf,Zt,asB,Zd,sl3,rdP,rdV,rdA,Zk,Zc,Zi,Zp,Zw,Zu,ZB,pks,pk,asI,Zq,Zv,List.getElem?_cons_succ,List.getElem?_cons_zero,List.set_cons_succ,List.set_cons_zero,Option.bind,Option.map]⟩
 have hin:ZZ 1 [0,3] [.val (LD Ls),.val (GD ks),.val (GD gs),.val (.lst (qs.map pkD)),.no,.no,.no,.no,.no,.no,.no,.no,.no]=[.no,.val (LD Ls),.val (.lst (qs.map pkD))]:=rfl
 have ln:=ZhK Ls
 have r1:=ZaH Ls.length (by omega)
 have q1:Zr (some ((List.range Ls.length).map fun (k:Nat)=>D.int (k:Int)))=some ((List.range Ls.length).map fun (k:Nat)=>D.int (k:Int)):=ZN _ (by simp;omega)
 have hsh:Zr (some ([]:List D))=some []:=rfl
 have hem:=Zi6 ((List.range Ls.length).map fun x=>(((Ls.getD x (0,[])).2).filter (ZD qs x)).map hd0)
 rw [List.map_map] at hem
 have hemB:(((List.range Ls.length).map fun x=>(((Ls.getD x (0,[])).2).filter (ZD qs x)).map hd0).any fun m=>m.isEmpty)=Zbg Ls qs:=by
  rw [List.any_map]
  unfold Zbg
  congr 1
  funext x
  show ((((Ls.getD x (0,[])).2).filter (ZD qs x)).map hd0).isEmpty=_
  rw [List.isEmpty_map]
 rw [hemB] at hem
 have hsm:∀ (x w:Nat) (la:List (List At)),Ls[x]?=some (w,la)→ixD (.lst ((List.range Ls.length).map fun x=>D.lst (((((Ls.getD x (0,[])).2).filter (ZD qs x)).map hd0).map aD))) (.int (x:Int))=some (.lst (((la.filter (ZD qs x)).map hd0).map aD)):=fun x w la hx=>Zb3 (by
  have hxl:x<Ls.length:=(List.getElem?_eq_some_iff.mp hx).1
  rw [List.getElem?_map,List.getElem?_range hxl]
  simp [List.getD,hx])
 obtain ⟨x6,x7,x8,x9,x10,x11,x12,e⟩:=pr3 (.val (.lst (qs.map pkD))) Ls ks gs hk.1 hg.1 qs h hk hg _ hsm (List.range Ls.length) [] .no .no .no .no .no .no .no (fun x hx=>List.mem_range.mp hx) (by simp;omega)
 rw [List.nil_append,List.map_nil] at e
 have hem':inD false (.lst []) (.lst ((List.range Ls.length).map fun x=>D.lst (((((Ls.getD x (0,[])).2).filter (ZD qs x)).map hd0).map aD)))=some (.bl (Zbg Ls qs)):=hem
 refine Zah rfl ?_
 show Zch [.val (LD Ls),.val (GD ks),.val (GD gs),.val (.lst (qs.map pkD)),.no,.no,.no,.no,.no,.no,.no,.no,.no]=_
 generalize ((List.range Ls.length).map fun x=>D.lst (((((Ls.getD x (0,[])).2).filter (ZD qs x)).map hd0).map aD))=SM at *
 generalize ((List.range Ls.length).map fun (k:Nat)=>D.int (k:Int))=R at *
 generalize (Ls.length:Int)=N at *
 cases hE:Zbg Ls qs with
 | true =>
  rw [hE] at hem'
  rw [if_pos rfl,List.map_nil]
  generalize LD Ls=L at *
  generalize GD ks=KK at *
  generalize GD gs=GG at *
  generalize qs.map pkD=Q at *
  simp only [Zch,Zdb,Zc8,Zc4,Zdc,Zc5,ln,r1,ZX,q1,hin,hc,Zae,hsh,hem',rdO,Zaw,Zf,Zt,asB,Zd,sl3,rdP,rdV,rdA,Zk,Zc,Zi,Zp,Zw,Zu,ZB,pks,pk,asI,Zq,Zv,List.getElem?_cons_succ,List.getElem?_cons_zero,List.set_cons_succ,List.set_cons_zero,Option.bind,Option.map]
 | false =>
  rw [hE] at hem'
  rw [if_neg (by decide)]
  generalize ((List.range Ls.length).flatMap (axT Ls ks gs qs)).map trD=TT at *
  generalize LD Ls=L at *
  generalize GD ks=KK at *
  generalize GD gs=GG at *
  generalize qs.map pkD=Q at *
  simp only [Zch,Zdb,Zc8,Zc4,Zdc,Zc5,ZfL,ZfI,ZfD,Zfu,ln,r1,ZX,q1,hin,hc,Zae,hsh,hem',ZT,e,rdO,Zaw,Zf,Zt,asB,Zd,sl3,rdP,rdV,rdA,Zk,Zc,Zi,Zp,Zw,Zu,ZB,pks,pk,asI,Zq,Zv,List.getElem?_cons_succ,List.getElem?_cons_zero,List.set_cons_succ,List.set_cons_zero,Option.bind,Option.map]
def ZcR:D:=.tup [.str "out",.non]
def Zie (a:At):D:=.tup [.str "in",aD a]
def Zd2 (o:Option At):D:=match o with
 | some a=>Zie a
 | none=>ZcR
def Zib (o:Option At):List At:=match o with
 | some a=>[.str "in",a]
 | none=>[.str "out",.non]
theorem ZmF (o:Option At):Zd2 o=lnD (Zib o):=by cases o<;>rfl
theorem ZoB (o p:Option At):neO (Zd2 o) (Zd2 p)=some (.bl (!decide (o=p))):=by
 have oi:¬ (At.str "out"=At.str "in"):=fun z=>by
  have h:¬ (Str.ofString "out"=Str.ofString "in"):=by decide +kernel
  exact h (by injection z)
 rw [ZmF,ZmF,Zmc]
 have:(Zib o=Zib p)↔o=p:=by
  cases o with
  | none=>cases p with
   | none=>simp
   | some b =>
    simp only [Zib,List.cons.injEq,reduceCtorEq,iff_false]
    exact fun z=>oi z.1
  | some a=>cases p with
   | none =>
    simp only [Zib,List.cons.injEq,reduceCtorEq,iff_false]
    exact fun z=>oi z.1.symm
   | some b=>simp [Zib]
 simp only [this]
def Zlv (la:List (List At)) (f:List At→Option At) (kvs:KDs):Prop:=(∀ p∈kvs,ZbJ p.1=true)∧kvs.length≤100∧∀ l∈la,ZP kvs (.at (hd0 l))=some (Zd2 (f l))
theorem ZgF (s0:Sl) (w g:Nat) (la:List (List At)) (h:ZaW w la) (h8:la.length≤8) (ch:List At):∀ (ms done:List (List At)) (kvs:KDs) (s4:Sl),la=done++ms→(∀ p∈kvs,ZbJ p.1=true)→kvs.length≤8+done.length→(∀ l∈la,ZP kvs (.at (hd0 l))=some (if l∈done∧hd0 l∈ch then Zie (l.getD g .non) else ZcR)) →
  ∃ (kvs':KDs) (s4':Sl),Zlv la (fun l=>if hd0 l∈ch then some (l.getD g .non) else none) kvs'∧ZJ (Zo 4) Zbi (ms.map lnD) [s0,.val (.int (g:Int)),.val (.lst (ch.map aD)),.own (Zy kvs) true,s4]=.next [s0,.val (.int (g:Int)),.val (.lst (ch.map aD)),.own (Zy kvs') true,s4']
 | [],done,kvs,s4,he,h1,h2,h3=>⟨kvs,s4,⟨h1,by rw [List.append_nil] at he;subst he;omega,fun l hl=>by
   rw [List.append_nil] at he
   subst he
   rw [h3 l hl]
   show _=some (Zd2 (if hd0 l∈ch then some (l.getD g .non) else none))
   by_cases hc:hd0 l∈ch
   ·rw [if_pos ⟨hl,hc⟩,if_pos hc];rfl
   ·rw [if_neg (fun z=>hc z.2),if_neg hc];rfl⟩,rfl⟩
 | l::ms,done,kvs,s4,he,h1,h2,h3=>by
  have hl:l∈la:=by rw [he];simp
  have hne:l≠[]:=fun z=>by have q1:=h.len l hl;have q2:=h.w0;rw [z] at q1;simp at q1;omega
  have h0:=Zfl l hne
  have hin:=(Zcc (hd0 l) ch).1
  have hla:=Zfs l g (by have q1:=h.len l hl;have q2:=h.w4;omega)
  have hdl:done.length+ms.length+1=la.length:=by rw [he];simp;omega
  have hmemd:∀ m∈la,hd0 m=hd0 l→m=l:=fun m hm e=>Zh2 h.nd hm hl e
  simp only [List.map_cons,ZJ,Zo,List.set_cons_succ,List.set_cons_zero]
  by_cases hc:hd0 l∈ch
  ·rw [decide_eq_true hc] at hin
   have hok:=Zb5 (hd0 l)
   have hh:=Zb4 (hd0 l) h1
   have hzk:decide (kvs.length<sizeLine)=true:=decide_eq_true (Nat.lt_of_lt_of_le (show kvs.length<1000 by omega) (by decide))
   have hun:=ZeL kvs
   have hpl:=ZdZ kvs (.at (hd0 l)) (Zie (l.getD g .non))
   obtain ⟨kvs',s4',g1,e⟩:=ZgF s0 w g la h h8 ch ms (done++[l]) (Zao kvs (.at (hd0 l)) (Zie (l.getD g .non))) (.val (lnD l)) (by rw [he];simp) (ZeB h1) (by rw [List.length_append,List.length_cons,List.length_nil];omega) (fun m hm=>by
    rw [ZcN]
    by_cases hml:m=l
    ·subst hml
     rw [if_pos rfl,if_pos ⟨by simp,hc⟩]
    ·have hne2:¬ KT.at (hd0 l)=KT.at (hd0 m):=fun z=>hml (hmemd m hm (by injection z with z;exact z.symm))
     rw [if_neg hne2,h3 m hm]
     have:(m∈done++[l]∧hd0 m∈ch)↔(m∈done∧hd0 m∈ch):=by simp [hml]
     simp only [this])
   refine ⟨kvs',s4',g1,?_⟩
   have sh2:∀ a b:D,Zr (some [a,b])=some [a,b]:=fun _ _=>ZN _ (by simp)
   have hb:Zbi [s0,.val (.int (g:Int)),.val (.lst (ch.map aD)),.own (Zy kvs) true,.val (lnD l)]=.next [s0,.val (.int (g:Int)),.val (.lst (ch.map aD)),.own (Zy (Zao kvs (.at (hd0 l)) (Zie (l.getD g .non)))) true,.val (lnD l)]:=by
    unfold Zie
    generalize aD (l.getD g .non)=LG at *
    generalize aD (hd0 l)=HL at *
    generalize ch.map aD=CH at *
    generalize Zy kvs=FK at *
    simp only [Zbi,h0,hin,hla,Zap,sh2,Zef,rdG,hun,hok,hh,hzk,Bool.and_self,if_true,Zf,Zt,asB,Zd,sl3,rdP,rdV,rdA,Zk,Zc,Zi,Zp,Zw,Zu,ZB,pks,pk,asI,Zq,Zv,List.getElem?_cons_succ,List.getElem?_cons_zero,List.set_cons_succ,List.set_cons_zero,Option.bind,Option.map]
   rw [hb]
   exact e
  ·rw [decide_eq_false hc] at hin
   obtain ⟨kvs',s4',g1,e⟩:=ZgF s0 w g la h h8 ch ms (done++[l]) kvs (.val (lnD l)) (by rw [he];simp) h1 (by rw [List.length_append];omega) (fun m hm=>by
    rw [h3 m hm]
    have:(m∈done++[l]∧hd0 m∈ch)↔(m∈done∧hd0 m∈ch):=by
     by_cases hml:m=l
     ·subst hml;simp [hc]
     ·simp [hml]
    simp only [this])
   refine ⟨kvs',s4',g1,?_⟩
   have hb:Zbi [s0,.val (.int (g:Int)),.val (.lst (ch.map aD)),.own (Zy kvs) true,.val (lnD l)]=.next [s0,.val (.int (g:Int)),.val (.lst (ch.map aD)),.own (Zy kvs) true,.val (lnD l)]:=by
    generalize aD (hd0 l)=HL at *
    generalize ch.map aD=CH at *
    generalize Zy kvs=FK at *
    simp only [Zbi,h0,hin,Zf,Zt,asB,Zd,sl3,rdP,rdV,rdA,Zk,Zc,Zi,Zp,Zw,Zu,ZB,pks,pk,asI,Zq,Zv,List.getElem?_cons_succ,List.getElem?_cons_zero,List.set_cons_succ,List.set_cons_zero,Option.bind,Option.map]
   rw [hb]
   exact e
theorem Zm1 {w:Nat} {la:List (List At)} (h:ZaW w la) (h8:la.length≤8) (g:Nat) (ch:List At):∃ kvs,Zlv la (fun l=>if hd0 l∈ch then some (l.getD g .non) else none) kvs∧F_asked_of [.val (.lst (la.map lnD)),.val (.int (g:Int)),.val (.lst (ch.map aD))]=some (.own (Zy kvs) true):=by
 have hne:∀ l∈la,l≠[]:=fun l hl z=>by have q1:=h.len l hl;have q2:=h.w0;rw [z] at q1;simp at q1;omega
 have hc:=Zan (b:=Zo 0) (e:=ZdO) (ρ:=[.no]) lnD (fun l=>D.tup [aD (hd0 l),ZcR]) la fun l hl=>⟨[.val (lnD l)],rfl,by
  have h0:=Zfl l (hne l hl)
  have sh2:∀ a b:D,Zr (some [a,b])=some [a,b]:=fun _ _=>ZN _ (by simp)
  unfold ZcR
  simp only [ZdO,h0,sh2,Zf,Zt,asB,Zd,sl3,rdP,rdV,rdA,Zk,Zc,Zi,Zp,Zw,Zu,ZB,pks,pk,asI,Zq,Zv,List.getElem?_cons_succ,List.getElem?_cons_zero,List.set_cons_succ,List.set_cons_zero,Option.bind,Option.map]⟩
 have hfp:=Zfb (la.map fun l=>(hd0 l,ZcR)) [] (fun _ h=>nomatch h) (by simp;omega)
 rw [List.map_map] at hfp
 have hfp':Zb0 [] (la.map fun l=>D.tup [aD (hd0 l),ZcR])=some (mkD [] (la.map fun l=>(hd0 l,ZcR))):=hfp
 have hnd:((la.map fun l=>(hd0 l,ZcR)).map (·.1)).Nodup:=by rw [List.map_map];exact h.nd
 have hml:=ZkF (la.map fun l=>(hd0 l,ZcR)) []
 obtain ⟨kvs,s4',g1,e⟩:=ZgF (.val (.lst (la.map lnD))) w g la h h8 ch la [] (mkD [] (la.map fun l=>(hd0 l,ZcR))) .no rfl (ZhG _ _ (fun _ h=>nomatch h)) (by simp at hml ⊢;omega) (fun l hl=>by
  rw [ZhZ (v:=ZcR) _ _ hnd (List.mem_map.mpr ⟨l,hl,rfl⟩)]
  simp)
 refine ⟨kvs,g1,?_⟩
 have q1:Zr (some (la.map lnD))=some (la.map lnD):=ZN _ (by simp;omega)
 refine Zah rfl ?_
 show Zdi [.val (.lst (la.map lnD)),.val (.int (g:Int)),.val (.lst (ch.map aD)),.no,.no]=_
 have hin:ZZ 1 [] [.val (.lst (la.map lnD)),.val (.int (g:Int)),.val (.lst (ch.map aD)),.no,.no]=[.no]:=rfl
 generalize (la.map fun l=>D.tup [aD (hd0 l),ZcR])=PL at *
 generalize mkD [] (la.map fun l=>(hd0 l,ZcR))=MK at *
 generalize la.map lnD=LA at *
 generalize ch.map aD=CH at *
 simp only [Zdi,Zft,ZX,hin,rdQ,ZA,q1,hc,hfp',ZbF,ZT,e,rdG,ZjO,Zf,Zt,asB,Zd,sl3,rdP,rdV,rdA,Zk,Zc,Zi,Zp,Zw,Zu,ZB,pks,pk,asI,Zq,Zv,List.getElem?_cons_succ,List.getElem?_cons_zero,List.set_cons_succ,List.set_cons_zero,Option.bind,Option.map]
def ZbG (k:Nat) (done:List (List At)) (v:At):Option (List At):=done.find? fun l=>decide (l.getD k .non=v)
theorem Ze3 (k:Nat) (l:List At) (v:At):List.find? (fun l=>decide (l.getD k .non=v)) [l]=if l.getD k .non=v then some l else none:=by
 by_cases h:l.getD k .non=v
 ·rw [if_pos h,List.find?_cons_of_pos (p:=fun l=>decide (l.getD k .non=v)) (a:=l) (decide_eq_true h)]
 ·rw [if_neg h,List.find?_cons_of_neg (p:=fun l=>decide (l.getD k .non=v)) (a:=l) (fun z=>h (of_decide_eq_true z)),List.find?_nil]
theorem Zl7 (s1 s2 s3:Sl) (w k:Nat) (hkk:s1=.val (.int (k:Int))) (la:List (List At)) (h:ZaW w la) (h8:la.length≤8) (f:List At→Option At) (kvs:KDs) (hA:Zlv la f kvs) (s0:Sl):∀ (ms done:List (List At)) (fk:KDs) (s6 s7:Sl),la=done++ms→(∀ p∈fk,ZbJ p.1=true)→fk.length≤done.length→(∀ v,ZP fk (.at v)=(ZbG k done v).map fun l=>aD (hd0 l)) →
  (∃ l1 l2,l1∈la∧l2∈la∧l1.getD k .non=l2.getD k .non∧f l1≠f l2∧ZJ (Zo 6) ZaS (ms.map lnD) [s0,s1,s2,s3,.val (.lst (Zy kvs) true),.own (Zy fk) true,s6,s7]=.ret (.val (.tup [aD (hd0 l1),aD (hd0 l2)]))) ∨
  ((∀ l∈ms,∃ l1,ZbG k la (l.getD k .non)=some l1∧f l1=f l)∧∃ ρ,ZJ (Zo 6) ZaS (ms.map lnD) [s0,s1,s2,s3,.val (.lst (Zy kvs) true),.own (Zy fk) true,s6,s7]=.next ρ)
 | [],done,fk,s6,s7,he,h1,h2,h3=>.inr ⟨fun _ h=>(nomatch h),_,rfl⟩
 | l::ms,done,fk,s6,s7,he,h1,h2,h3=>by
  subst hkk
  have hl:l∈la:=by rw [he];simp
  have hne:l≠[]:=fun z=>by have q1:=h.len l hl;have q2:=h.w0;rw [z] at q1;simp at q1;omega
  have h0:=Zfl l hne
  have hla:=Zfs l k (by have q1:=h.len l hl;have q2:=h.w4;omega)
  have hdl:done.length+ms.length+1=la.length:=by rw [he];simp;omega
  have hok:=Zb5 (l.getD k .non)
  have hh:=Zb4 (l.getD k .non) h1
  have hzk:decide (fk.length<sizeLine)=true:=decide_eq_true (Nat.lt_of_lt_of_le (show fk.length<1000 by omega) (by decide))
  have hun:=ZeL fk
  have hv:=h3 (l.getD k .non)
  -- the first one,and the dict behind
  obtain ⟨l1,hl1,hl1k,fk',hfs,g1,g2,g3,hsd⟩:∃ l1,l1∈la∧l1.getD k .non=l.getD k .non∧∃ fk':KDs,ZbG k (done++[l]) (l.getD k .non)=some l1∧(∀ p∈fk',ZbJ p.1=true)∧fk'.length≤done.length+1∧(∀ v,ZP fk' (.at v)=(ZbG k (done++[l]) v).map fun l=>aD (hd0 l)) ∧
    sdX 5 (Zk F_line_at (fun ρ=>Zc (rdA ρ 6) (Zc (rdA ρ 1) (some [])))) (Zd ixD (fun ρ=>rdP ρ 6) (fun _=>some (.int (0)))) [s0,.val (.int (k:Int)),s2,s3,.val (.lst (Zy kvs) true),.own (Zy fk) true,.val (lnD l),s7]=some (aD (hd0 l1),[s0,.val (.int (k:Int)),s2,s3,.val (.lst (Zy kvs) true),.own (Zy fk') true,.val (lnD l),s7]):=by
   have hsdx:sdX 5 (Zk F_line_at (fun ρ=>Zc (rdA ρ 6) (Zc (rdA ρ 1) (some [])))) (Zd ixD (fun ρ=>rdP ρ 6) (fun _=>some (.int (0)))) [s0,.val (.int (k:Int)),s2,s3,.val (.lst (Zy kvs) true),.own (Zy fk) true,.val (lnD l),s7]=(match ZP fk (.at (l.getD k .non)) with
    | some v=>some (v,[s0,.val (.int (k:Int)),s2,s3,.val (.lst (Zy kvs) true),.own (Zy fk) true,.val (lnD l),s7])
    | none=>some (aD (hd0 l),[s0,.val (.int (k:Int)),s2,s3,.val (.lst (Zy kvs) true),.own (Zy (Zao fk (.at (l.getD k .non)) (aD (hd0 l)))) true,.val (lnD l),s7])):=by
    generalize hKV:Sl.val (.lst (Zy kvs) true)=KV at *
    simp only [sdX,rdG,Zk,Zc,rdA,rdP,Zd,List.getElem?_cons_succ,List.getElem?_cons_zero,Option.bind,Option.map,hla,Zap,h0,hun,hok,hh,hzk,Bool.and_self,if_true,List.set_cons_succ,List.set_cons_zero]
    all_goals (cases ZP fk (.at (l.getD k .non))<;>rfl)
   cases hf:ZbG k done (l.getD k .non) with
   | some l1 =>
    rw [hf] at hv
    have hp:=List.find?_some hf
    have hm:l1∈la:=by rw [he];exact List.mem_append_left _ (List.mem_of_find?_eq_some hf)
    refine ⟨l1,hm,by simpa using hp,fk,?_,h1,by omega,fun v=>?_,?_⟩
    ·unfold ZbG at hf ⊢
     rw [List.find?_append,hf];rfl
    ·rw [h3 v]
     unfold ZbG
     rw [List.find?_append]
     cases hfv:done.find? (fun l=>decide (l.getD k .non=v)) with
     | some m=>rfl
     | none =>
      by_cases hlv:l.getD k .non=v
      ·subst hlv
       unfold ZbG at hf
       rw [hf] at hfv;cases hfv
      ·rw [Ze3,if_neg hlv];rfl
    ·rw [hsdx,hv];rfl
   | none =>
    rw [hf] at hv
    have hpl:=ZdZ fk (.at (l.getD k .non)) (aD (hd0 l))
    refine ⟨l,hl,rfl,Zao fk (.at (l.getD k .non)) (aD (hd0 l)),?_,ZeB h1,by omega,fun v=>?_,?_⟩
    ·unfold ZbG at hf ⊢
     rw [List.find?_append,hf,Ze3,if_pos rfl];rfl
    ·rw [ZcN]
     unfold ZbG
     rw [List.find?_append]
     by_cases hlv:l.getD k .non=v
     ·subst hlv
      unfold ZbG at hf
      rw [if_pos rfl,hf,Ze3,if_pos rfl];rfl
     ·have hne2:¬ KT.at (l.getD k .non)=KT.at v:=fun z=>hlv (by injection z)
      rw [if_neg hne2,h3 v]
      unfold ZbG
      cases hfv:done.find? (fun l=>decide (l.getD k .non=v)) with
      | some m=>rfl
      | none=>rw [Ze3,if_neg hlv];rfl
    ·rw [hsdx,hv];rfl
  have hfla:ZbG k la (l.getD k .non)=some l1:=by
   unfold ZbG at hfs ⊢
   rw [he,show done++l::ms=(done++[l])++ms by simp,List.find?_append,hfs];rfl
  have hd1:Zbs (.lst (Zy kvs) true) (aD (hd0 l1))=some (Zd2 (f l1)):=by
   rw [Zdf,Zb5]
   have q1:=Zb4 (hd0 l1) hA.1
   have q2:=hA.2.2 l1 hl1
   simp [q1,q2]
  have hd2:Zbs (.lst (Zy kvs) true) (aD (hd0 l))=some (Zd2 (f l)):=by
   rw [Zdf,Zb5]
   have q1:=Zb4 (hd0 l) hA.1
   have q2:=hA.2.2 l hl
   simp [q1,q2]
  have hne3:=ZoB (f l1) (f l)
  have sh2:∀ a b:D,Zr (some [a,b])=some [a,b]:=fun _ _=>ZN _ (by simp)
  simp only [List.map_cons,ZJ,Zo,List.set_cons_succ,List.set_cons_zero]
  by_cases hfe:f l1=f l
  ·rw [decide_eq_true hfe] at hne3
   have hb:ZaS [s0,.val (.int (k:Int)),s2,s3,.val (.lst (Zy kvs) true),.own (Zy fk) true,.val (lnD l),s7]=.next [s0,.val (.int (k:Int)),s2,s3,.val (.lst (Zy kvs) true),.own (Zy fk') true,.val (lnD l),.val (aD (hd0 l1))]:=by
    unfold ZaS
    rw [hsd]
    generalize aD (hd0 l1)=H1 at *
    generalize aD (hd0 l)=H2 at *
    generalize D.lst (Zy kvs) true=KV at *
    generalize Zd2 (f l1)=A1 at *
    generalize Zd2 (f l)=A2 at *
    simp only [Zjk,hd1,hd2,h0,hne3,Bool.not_true,Zf,Zt,asB,Zd,sl3,rdP,rdV,rdA,Zk,Zc,Zi,Zp,Zw,Zu,ZB,pks,pk,asI,Zq,Zv,List.getElem?_cons_succ,List.getElem?_cons_zero,List.set_cons_succ,List.set_cons_zero,Option.bind,Option.map]
   rw [hb]
   rcases Zl7 (.val (.int (k:Int))) s2 s3 w k rfl la h h8 f kvs hA s0 ms (done++[l]) fk' (.val (lnD l)) (.val (aD (hd0 l1))) (by rw [he];simp) g1 (by simpa using g2) g3 with r | ⟨r1,r2⟩
   ·exact .inl r
   ·refine .inr ⟨fun m hm=>?_,r2⟩
    rcases List.mem_cons.mp hm with rfl | hm
    ·exact ⟨l1,hfla,hfe⟩
    ·exact r1 m hm
  ·rw [decide_eq_false hfe] at hne3
   refine .inl ⟨l1,l,hl1,hl,hl1k,hfe,?_⟩
   have hb:ZaS [s0,.val (.int (k:Int)),s2,s3,.val (.lst (Zy kvs) true),.own (Zy fk) true,.val (lnD l),s7]=.ret (.val (.tup [aD (hd0 l1),aD (hd0 l)])):=by
    unfold ZaS
    rw [hsd]
    generalize aD (hd0 l1)=H1 at *
    generalize aD (hd0 l)=H2 at *
    generalize D.lst (Zy kvs) true=KV at *
    generalize Zd2 (f l1)=A1 at *
    generalize Zd2 (f l)=A2 at *
    simp only [Zjk,hd1,hd2,h0,hne3,Bool.not_false,sh2,Zf,Zt,asB,Zd,sl3,rdP,rdV,rdA,Zk,Zc,Zi,Zp,Zw,Zu,ZB,pks,pk,asI,Zq,Zv,List.getElem?_cons_succ,List.getElem?_cons_zero,List.set_cons_succ,List.set_cons_zero,Option.bind,Option.map]
   rw [hb]
theorem Zkb {w:Nat} {la:List (List At)} (h:ZaW w la) (h8:la.length≤8) (k g:Nat) (ch:List At) :
  (∃ l1 l2,l1∈la∧l2∈la∧l1.getD k .non=l2.getD k .non∧(if hd0 l1∈ch then some (l1.getD g .non) else none)≠(if hd0 l2∈ch then some (l2.getD g .non) else none)∧F_apart_on [.val (.lst (la.map lnD)),.val (.int (k:Int)),.val (.int (g:Int)),.val (.lst (ch.map aD))]=some (.val (.tup [aD (hd0 l1),aD (hd0 l2)]))) ∨
  ((∀ l1∈la,∀ l2∈la,l1.getD k .non=l2.getD k .non→(if hd0 l1∈ch then some (l1.getD g .non) else none)=(if hd0 l2∈ch then some (l2.getD g .non) else none))∧F_apart_on [.val (.lst (la.map lnD)),.val (.int (k:Int)),.val (.int (g:Int)),.val (.lst (ch.map aD))]=some (.val .non)):=by
 obtain ⟨kvs,hA,ha⟩:=Zm1 h h8 g ch
 have hfn:F_apart_on [.val (.lst (la.map lnD)),.val (.int (k:Int)),.val (.int (g:Int)),.val (.lst (ch.map aD))]=match Zct [.val (.lst (la.map lnD)),.val (.int (k:Int)),.val (.int (g:Int)),.val (.lst (ch.map aD)),.no,.no,.no,.no] with
  | .ret r=>some r
  | .next _=>some (.val .non)
  | _=>none:=rfl
 rw [hfn]
 rcases Zl7 (.val (.int (k:Int))) (.val (.int (g:Int))) (.val (.lst (ch.map aD))) w k rfl la h h8 (fun l=>if hd0 l∈ch then some (l.getD g .non) else none) kvs hA (.val (.lst (la.map lnD))) la [] [] .no .no rfl (fun _ h=>nomatch h) (by simp) (fun v=>rfl) with ⟨l1,l2,m1,m2,e1,e2,e3⟩ | ⟨r1,ρ,r2⟩
 ·refine .inl ⟨l1,l2,m1,m2,e1,e2,?_⟩
  rw [show Zy ([]:KDs)=[] from rfl] at e3
  generalize la.map lnD=LA at *
  generalize ch.map aD=CH at *
  simp only [Zct,ZdM,ZdQ,ZdC,ZdV,ZdU,ha,Za3,ZbF,ZT,rdQ,ZA,e3,Zf,Zt,asB,Zd,sl3,rdP,rdV,rdA,Zk,Zc,Zi,Zp,Zw,Zu,ZB,pks,pk,asI,Zq,Zv,List.getElem?_cons_succ,List.getElem?_cons_zero,List.set_cons_succ,List.set_cons_zero,Option.bind,Option.map]
 ·refine .inr ⟨fun l1 h1 l2 h2 e=>?_,?_⟩
  ·obtain ⟨a,ha1,ha2⟩:=r1 l1 h1
   obtain ⟨b,hb1,hb2⟩:=r1 l2 h2
   rw [e,hb1] at ha1
   cases ha1
   exact ha2.symm.trans hb2
  ·rw [show Zy ([]:KDs)=[] from rfl] at r2
   generalize la.map lnD=LA at *
   generalize ch.map aD=CH at *
   simp only [Zct,ZdM,ZdQ,ZdC,ZdV,ZdU,Zgb,Zf2,ha,Za3,ZbF,ZT,rdQ,ZA,r2,Zf,Zt,asB,Zd,sl3,rdP,rdV,rdA,Zk,Zc,Zi,Zp,Zw,Zu,ZB,pks,pk,asI,Zq,Zv,List.getElem?_cons_succ,List.getElem?_cons_zero,List.set_cons_succ,List.set_cons_zero,Option.bind,Option.map]
def Bad (Ls:List (Nat×List (List At))) (ks gs:List Nat) (qs:List AP) (t:Nat×At×At):Prop:=∃ w la one other,Ls[t.1]?=some (w,la)∧one∈la∧other∈la∧Zfm qs t.1 (ks.getD t.1 0) (gs.getD t.1 0) one other=true∧t.2.1=hd0 one∧t.2.2=hd0 other
theorem ZkY {Ls:List (Nat×List (List At))} (ks gs:List Nat) (qs:List AP) (t:Nat×At×At):t∈(List.range Ls.length).flatMap (axT Ls ks gs qs)↔Bad Ls ks gs qs t:=by
 rw [List.mem_flatMap]
 constructor
 ·rintro ⟨x,hx,ht⟩
  obtain ⟨w,la,h1,h2⟩:=Zhb (List.mem_range.mp hx)
  unfold axT at ht
  rw [h2,List.mem_flatMap] at ht
  obtain ⟨one,ho,ht⟩:=ht
  unfold ZdL at ht
  obtain ⟨other,hm,rfl⟩:=List.mem_map.mp ht
  obtain ⟨m1,m2⟩:=List.mem_filter.mp hm
  exact ⟨w,la,one,other,h1,ho,m1,m2,rfl,rfl⟩
 ·rintro ⟨w,la,one,other,h1,ho,m1,m2,e1,e2⟩
  obtain ⟨x,a,b⟩:=t
  dsimp only at h1 m2 e1 e2
  subst e1 e2
  have hxl:x<Ls.length:=(List.getElem?_eq_some_iff.mp h1).1
  refine ⟨x,List.mem_range.mpr hxl,?_⟩
  unfold axT
  have h2:(Ls.getD x (0,[])).2=la:=by simp [List.getD,h1]
  rw [h2,List.mem_flatMap]
  exact ⟨one,ho,List.mem_map.mpr ⟨other,List.mem_filter.mpr ⟨m1,m2⟩,rfl⟩⟩
theorem ZpQ {w:Nat} {la:List (List At)} (h:ZaW w la) (qs:List AP) (x:Nat) {l:List At} (hl:l∈la):hd0 l∈Zaf ltA ((la.filter (ZD qs x)).map hd0)↔ZD qs x l=true:=by
 rw [(ZbO ltA _).mem_iff]
 have:=ZhY h (ZD qs x) hl
 rw [Bool.eq_iff_iff,decide_eq_true_eq] at this
 exact this
theorem ZmE (s0 s1 s2 s3:Sl) (Ls:List (Nat×List (List At))) (h:ZcO Ls) (ks gs:List Nat) (hk:Zca Ls ks) (hg:Zca Ls gs) (e1:s1=.val (GD ks)) (e2:s2=.val (GD gs)) (qs:List AP) (CH:D) (hch:∀ (x w:Nat) (la:List (List At)),Ls[x]?=some (w,la)→ixD CH (.int (x:Int))=some (.lst ((Zaf ltA ((la.filter (ZD qs x)).map hd0)).map aD))):∀ (ms:List (Nat×List (List At))) (x:Nat) (s5 s6 s7:Sl),Ls.drop x=ms→x+ms.length=Ls.length →
  (∃ t,Bad Ls ks gs qs t∧ZJ (Zb8 2 (Z0 (Zo 5) (Z0 (Zo 6) Zcn))) ZbL (ZbH x (ms.map fun p=>D.lst (p.2.map lnD))) [s0,s1,s2,s3,.val CH,s5,s6,s7]=.ret (.val (trD t))) ∨
  ((∀ t,x≤t.1→¬ Bad Ls ks gs qs t)∧∃ ρ,ZJ (Zb8 2 (Z0 (Zo 5) (Z0 (Zo 6) Zcn))) ZbL (ZbH x (ms.map fun p=>D.lst (p.2.map lnD))) [s0,s1,s2,s3,.val CH,s5,s6,s7]=.next ρ)
 | [],x,s5,s6,s7,hd,hl=>.inr ⟨fun t ht hb=>by
   obtain ⟨w,la,_,_,h1,_⟩:=hb
   have:=(List.getElem?_eq_some_iff.mp h1).1
   simp at hl
   omega,_,rfl⟩
 | (w,la)::ms,x,s5,s6,s7,hd,hl=>by
  subst e1 e2
  simp only [List.length_cons] at hl
  have hx:Ls[x]?=some (w,la):=by
   have:(Ls.drop x)[0]?=some (w,la):=by rw [hd];rfl
   rw [List.getElem?_drop] at this
   simpa using this
  have hd':Ls.drop (x+1)=ms:=by
   have:(Ls.drop x).drop 1=ms:=by rw [hd];rfl
   rw [List.drop_drop] at this
   exact this
  have hm:=List.mem_of_getElem? hx
  have hla:ZaW w la:=h.la _ hm
  have h8:la.length≤8:=h.l8 _ hm
  have hxl:x<Ls.length:=(List.getElem?_eq_some_iff.mp hx).1
  have k1:=ZhC (gs:=ks) (x:=x) (by rw [hk.1];exact hxl)
  have g1:=ZhC (gs:=gs) (x:=x) (by rw [hg.1];exact hxl)
  have c1:=hch x w la hx
  have hak:∀ l∈la,(if hd0 l∈Zaf ltA ((la.filter (ZD qs x)).map hd0) then some (l.getD (gs.getD x 0) .non) else none)=Zjy qs x (gs.getD x 0) l:=fun l hl=>by
   unfold Zjy
   have:=ZpQ hla qs x hl
   by_cases ha:ZD qs x l=true
   ·rw [if_pos (this.mpr ha),if_pos ha]
   ·rw [if_neg (fun z=>ha (this.mp z)),if_neg ha]
  simp only [List.map_cons,ZbH,ZJ,Zb8,Z0,Zo,Zcn,List.length_cons,List.length_nil,List.set_cons_succ,List.set_cons_zero,Option.bind,if_pos]
  rcases Zkb hla h8 (ks.getD x 0) (gs.getD x 0) (Zaf ltA ((la.filter (ZD qs x)).map hd0)) with ⟨l1,l2,m1,m2,q1,q2,q3⟩ | ⟨q1,q2⟩
  ·rw [hak l1 m1,hak l2 m2] at q2
   refine .inl ⟨(x,hd0 l1,hd0 l2),⟨w,la,l1,l2,hx,m1,m2,?_,rfl,rfl⟩,?_⟩
   ·unfold Zfm
    rw [decide_eq_true q1,decide_eq_false q2];rfl
   ·have sh:∀ a b c:D,Zr (some [a,b,c])=some [a,b,c]:=fun _ _ _=>ZN _ (by simp)
    have i0:∀ a b:D,ixD (.tup [a,b]) (.int 0)=some a:=fun _ _=>rfl
    have i1:∀ a b:D,ixD (.tup [a,b]) (.int 1)=some b:=fun _ _=>rfl
    have hb:ZbL [s0,.val (GD ks),.val (GD gs),s3,.val CH,.val (.int (x:Int)),.val (.lst (la.map lnD)),s7]=.ret (.val (trD (x,hd0 l1,hd0 l2))):=by
     unfold trD
     dsimp only
     generalize (Zaf ltA ((la.filter (ZD qs x)).map hd0)).map aD=S at *
     generalize la.map lnD=LA at *
     generalize GD ks=KK at *
     generalize GD gs=GG at *
     generalize aD (hd0 l1)=H1 at *
     generalize aD (hd0 l2)=H2 at *
     simp only [ZbL,k1,g1,c1,q3,Zap,ZaX,Zda,isN,Bool.not_false,i0,i1,sh,Zf,Zt,asB,Zd,sl3,rdP,rdV,rdA,Zk,Zc,Zi,Zp,Zw,Zu,ZB,pks,pk,asI,Zq,Zv,List.getElem?_cons_succ,List.getElem?_cons_zero,List.set_cons_succ,List.set_cons_zero,Option.bind,Option.map]
    rw [hb]
  ·have hb:ZbL [s0,.val (GD ks),.val (GD gs),s3,.val CH,.val (.int (x:Int)),.val (.lst (la.map lnD)),s7]=.next [s0,.val (GD ks),.val (GD gs),s3,.val CH,.val (.int (x:Int)),.val (.lst (la.map lnD)),.val .non]:=by
    generalize (Zaf ltA ((la.filter (ZD qs x)).map hd0)).map aD=S at *
    generalize la.map lnD=LA at *
    generalize GD ks=KK at *
    generalize GD gs=GG at *
    simp only [ZbL,k1,g1,c1,q2,Zap,ZaX,Zda,isN,Bool.not_true,Zf,Zt,asB,Zd,sl3,rdP,rdV,rdA,Zk,Zc,Zi,Zp,Zw,Zu,ZB,pks,pk,asI,Zq,Zv,List.getElem?_cons_succ,List.getElem?_cons_zero,List.set_cons_succ,List.set_cons_zero,Option.bind,Option.map]
   rw [hb]
   rcases ZmE s0 (.val (GD ks)) (.val (GD gs)) s3 Ls h ks gs hk hg rfl rfl qs CH hch ms (x+1) (.val (.int (x:Int))) (.val (.lst (la.map lnD))) (.val .non) hd' (by omega) with r | ⟨r1,r2⟩
   ·exact .inl r
   ·refine .inr ⟨fun t ht hbad=>?_,r2⟩
    by_cases hxt:x=t.1
    ·obtain ⟨w',la',one,other,h1,ho,ho2,hbb,_,_⟩:=hbad
     rw [← hxt] at h1 hbb
     rw [hx] at h1
     cases h1
     have:=q1 one ho other ho2
     rw [hak one ho,hak other ho2] at this
     unfold Zfm at hbb
     rw [Bool.and_eq_true,decide_eq_true_eq] at hbb
     rw [decide_eq_true (this hbb.1)] at hbb
     exact absurd hbb.2 (by decide)
    ·exact r1 t (by omega) hbad
theorem Znu {Ls:List (Nat×List (List At))} (h:ZcO Ls) (ks gs:List Nat) (hk:Zca Ls ks) (hg:Zca Ls gs) (qs:List AP) (hq:∀ q∈qs,ZgB Ls q) :
  (∃ t,Zbg Ls qs=false∧Bad Ls ks gs qs t∧F_apart [.val (LD Ls),.val (GD ks),.val (GD gs),.val (.lst (qs.map pkD))]=some (.val (trD t))) ∨
  ((Zbg Ls qs=true∨∀ t,¬ Bad Ls ks gs qs t)∧F_apart [.val (LD Ls),.val (GD ks),.val (GD gs),.val (.lst (qs.map pkD))]=some (.val .non)):=by
 have h3:=h.few
 have hc:=Zan (b:=Zo 0) (e:=Zbj) (ρ:=[.no,.val (LD Ls),.val (.lst (qs.map pkD))]) (fun (k:Nat)=>D.int (k:Int)) (fun x=>D.lst ((Zaf ltA ((((Ls.getD x (0,[])).2).filter (ZD qs x)).map hd0)).map aD)) (List.range Ls.length) fun x hx=>⟨[.val (.int (x:Int)),.val (LD Ls),.val (.lst (qs.map pkD))],rfl,by
  obtain ⟨w,la,hx1,hx2⟩:=Zhb (List.mem_range.mp hx)
  have hs:=ZlJ (LD Ls) qs x w la (Zfk hx1) (h.la _ (List.mem_of_getElem? hx1)) fun q hm=>(hq q hm).1
  rw [hx2]
  generalize (Zaf ltA ((la.filter (ZD qs x)).map hd0)).map aD=S at *
  generalize LD Ls=L at *
  generalize qs.map pkD=Q at *
  simp only [Zbj,hs,Za3,Zf,Zt,asB,Zd,sl3,rdP,rdV,rdA,Zk,Zc,Zi,Zp,Zw,Zu,ZB,pks,pk,asI,Zq,Zv,List.getElem?_cons_succ,List.getElem?_cons_zero,List.set_cons_succ,List.set_cons_zero,Option.bind,Option.map]⟩
 have hin:ZZ 1 [0,1] [.val (LD Ls),.val (.lst (qs.map pkD))]=[.no,.val (LD Ls),.val (.lst (qs.map pkD))]:=rfl
 have ln:=ZhK Ls
 have r1:=ZaH Ls.length (by omega)
 have q1:Zr (some ((List.range Ls.length).map fun (k:Nat)=>D.int (k:Int)))=some ((List.range Ls.length).map fun (k:Nat)=>D.int (k:Int)):=ZN _ (by simp;omega)
 have hpe:F_picked_everywhere [.val (LD Ls),.val (.lst (qs.map pkD))]=some (.own ((List.range Ls.length).map fun x=>D.lst ((Zaf ltA ((((Ls.getD x (0,[])).2).filter (ZD qs x)).map hd0)).map aD))):=by
  refine Zah rfl ?_
  show ZaU [.val (LD Ls),.val (.lst (qs.map pkD))]=_
  generalize ((List.range Ls.length).map fun x=>D.lst ((Zaf ltA ((((Ls.getD x (0,[])).2).filter (ZD qs x)).map hd0)).map aD))=SM at *
  generalize ((List.range Ls.length).map fun (k:Nat)=>D.int (k:Int))=R at *
  generalize (Ls.length:Int)=N at *
  generalize LD Ls=L at *
  generalize qs.map pkD=Q at *
  simp only [ZaU,ln,r1,ZX,q1,hin,hc,Zaw,Zf,Zt,asB,Zd,sl3,rdP,rdV,rdA,Zk,Zc,Zi,Zp,Zw,Zu,ZB,pks,pk,asI,Zq,Zv,List.getElem?_cons_succ,List.getElem?_cons_zero,List.set_cons_succ,List.set_cons_zero,Option.bind,Option.map]
 have hem:=Zi6 ((List.range Ls.length).map fun x=>Zaf ltA ((((Ls.getD x (0,[])).2).filter (ZD qs x)).map hd0))
 rw [List.map_map] at hem
 have hemB:(((List.range Ls.length).map fun x=>Zaf ltA ((((Ls.getD x (0,[])).2).filter (ZD qs x)).map hd0)).any fun m=>m.isEmpty)=Zbg Ls qs:=by
  rw [List.any_map]
  unfold Zbg
  congr 1
  funext x
  show (Zaf ltA ((((Ls.getD x (0,[])).2).filter (ZD qs x)).map hd0)).isEmpty=_
  have hp:=(ZbO ltA ((((Ls.getD x (0,[])).2).filter (ZD qs x)).map hd0)).length_eq
  rw [List.length_map] at hp
  rw [Bool.eq_iff_iff,List.isEmpty_iff_length_eq_zero,List.isEmpty_iff_length_eq_zero,hp]
 rw [hemB] at hem
 have hem':inD false (.lst []) (.lst ((List.range Ls.length).map fun x=>D.lst ((Zaf ltA ((((Ls.getD x (0,[])).2).filter (ZD qs x)).map hd0)).map aD)))=some (.bl (Zbg Ls qs)):=hem
 have hch:∀ (x w:Nat) (la:List (List At)),Ls[x]?=some (w,la)→ixD (.lst ((List.range Ls.length).map fun x=>D.lst ((Zaf ltA ((((Ls.getD x (0,[])).2).filter (ZD qs x)).map hd0)).map aD))) (.int (x:Int))=some (.lst ((Zaf ltA ((la.filter (ZD qs x)).map hd0)).map aD)):=fun x w la hx=>Zb3 (by
  have hxl:x<Ls.length:=(List.getElem?_eq_some_iff.mp hx).1
  rw [List.getElem?_map,List.getElem?_range hxl]
  simp [List.getD,hx])
 have hfn:F_apart [.val (LD Ls),.val (GD ks),.val (GD gs),.val (.lst (qs.map pkD))]=match Zc1 [.val (LD Ls),.val (GD ks),.val (GD gs),.val (.lst (qs.map pkD)),.no,.no,.no,.no] with
  | .ret r=>some r
  | .next _=>some (.val .non)
  | _=>none:=rfl
 rw [hfn]
 have hsh:Zr (some ([]:List D))=some []:=rfl
 have hzi:Zdr (LD Ls)=some (Ls.map fun p=>D.lst (p.2.map lnD)):=rfl
 have hout:=ZmE (.val (LD Ls)) (.val (GD ks)) (.val (GD gs)) (.val (.lst (qs.map pkD))) Ls h ks gs hk hg rfl rfl qs _ hch Ls 0 .no .no .no rfl (by omega)
 generalize ((List.range Ls.length).map fun x=>D.lst ((Zaf ltA ((((Ls.getD x (0,[])).2).filter (ZD qs x)).map hd0)).map aD))=SM at *
 cases hE:Zbg Ls qs with
 | true =>
  rw [hE] at hem'
  refine .inr ⟨.inl rfl,?_⟩
  generalize LD Ls=L at *
  generalize GD ks=KK at *
  generalize GD gs=GG at *
  generalize qs.map pkD=Q at *
  simp only [Zc1,Zek,Zej,Zec,hpe,Za3,hsh,hem',Zf,Zt,asB,Zd,sl3,rdP,rdV,rdA,Zk,Zc,Zi,Zp,Zw,Zu,ZB,pks,pk,asI,Zq,Zv,List.getElem?_cons_succ,List.getElem?_cons_zero,List.set_cons_succ,List.set_cons_zero,Option.bind,Option.map]
 | false =>
  rw [hE] at hem'
  rcases hout with ⟨t,hb,e⟩ | ⟨hno,ρ,e⟩
  ·refine .inl ⟨t,rfl,hb,?_⟩
   generalize (Ls.map fun p=>D.lst (p.2.map lnD))=EN at *
   generalize trD t=TT at *
   generalize LD Ls=L at *
   generalize GD ks=KK at *
   generalize GD gs=GG at *
   generalize qs.map pkD=Q at *
   simp only [Zc1,Zek,Zej,Zec,Zgc,Zf5,hpe,Za3,hsh,hem',ZT,Zd9,rdQ,hzi,e,Zf,Zt,asB,Zd,sl3,rdP,rdV,rdA,Zk,Zc,Zi,Zp,Zw,Zu,ZB,pks,pk,asI,Zq,Zv,List.getElem?_cons_succ,List.getElem?_cons_zero,List.set_cons_succ,List.set_cons_zero,Option.bind,Option.map]
  ·refine .inr ⟨.inr fun t=>hno t (Nat.zero_le _),?_⟩
   generalize (Ls.map fun p=>D.lst (p.2.map lnD))=EN at *
   generalize LD Ls=L at *
   generalize GD ks=KK at *
   generalize GD gs=GG at *
   generalize qs.map pkD=Q at *
   simp only [Zc1,Zek,Zej,Zec,Zgc,Zf5,Zix,Ziu,hpe,Za3,hsh,hem',ZT,Zd9,rdQ,hzi,e,Zf,Zt,asB,Zd,sl3,rdP,rdV,rdA,Zk,Zc,Zi,Zp,Zw,Zu,ZB,pks,pk,asI,Zq,Zv,List.getElem?_cons_succ,List.getElem?_cons_zero,List.set_cons_succ,List.set_cons_zero,Option.bind,Option.map]
theorem ZpY (t:Nat×At×At):okD 11 (trD t)=true:=by
 obtain ⟨x,a,b⟩:=t
 cases a<;>cases b<;>rfl
theorem Zli (t:Nat×At×At):trD t=lnD [.int (t.1:Int),t.2.1,t.2.2]:=rfl
theorem Zna:F_law_good [.val .non,.val (.lst [])]=some (.val (.bl true)):=by
 have hsh:Zr (some ([]:List D))=some []:=rfl
 have e:eqO (.lst []) (.lst [])=some (.bl true):=rfl
 refine Zah rfl ?_
 show ZbK [.val .non,.val (.lst []),.no]=_
 simp only [ZbK,Zd6,hsh,e,blO,Zda,isN,Zf,Zt,asB,Zd,sl3,rdP,rdV,rdA,Zk,Zc,Zi,Zp,Zw,Zu,ZB,pks,pk,asI,Zq,Zv,List.getElem?_cons_succ,List.getElem?_cons_zero,List.set_cons_succ,List.set_cons_zero,Option.bind,Option.map]
theorem Zn7 (T:List (Nat×At×At)) (t:Nat×At×At) (ht:t∈T) (h1:t.2.1≠.non) (h2:t.2.2≠.non):F_law_good [.val (trD t),.val (.lst (T.map trD))]=some (.val (.bl true)):=by
 have hsh:Zr (some ([]:List D))=some []:=rfl
 have hok:okD Z1 (.lst (T.map trD))=true:=by
  show (T.map trD).all (okD 11)=true
  rw [List.all_map,List.all_eq_true]
  exact fun x _=>ZpY x
 have e:eqO (.lst (T.map trD)) (.lst [])=some (.bl false):=by
  have ho2:okD Z1 (.lst [])=true:=rfl
  have he:eqD (.lst (T.map trD)) (.lst [])=false:=by
   cases T with
   | nil=>cases ht
   | cons a b=>rfl
  simp only [eqO,hok,ho2,he,Bool.and_self,if_true]
 have hin:inD false (trD t) (.lst (T.map trD))=some (.bl true):=by
  have o1:okD Z1 (trD t)=true:=by rw [Zli];exact Zdn 11 _
  have o2:(T.map trD).all (okD Z1)=true:=by
   rw [List.all_map,List.all_eq_true]
   intro x _
   show okD Z1 (trD x)=true
   rw [Zli];exact Zdn 11 _
  have o3:ZcK (trD t) (T.map trD)=true:=by
   unfold ZcK
   rw [List.any_map,List.any_eq_true]
   exact ⟨t,ht,Zhh 12 _ (by rw [Zli];exact Zdn 11 _)⟩
  simp only [inD,o1,o2,o3,Bool.and_self,if_true,Bool.false_eq_true,if_false]
 have hty:∀ a:At,a≠.non→isD [aD a,.ty "bool"]=some (.bl false)∧isD [aD a,.tup [.ty "int",.ty "str"]]=some (.bl true):=fun a ha=>by
  cases a with
  | non=>exact absurd rfl ha
  | int i=>exact ⟨rfl,rfl⟩
  | str z=>exact ⟨rfl,rfl⟩
 obtain ⟨x,a,b⟩:=t
 dsimp only at h1 h2
 obtain ⟨a1,a2⟩:=hty a h1
 obtain ⟨b1,b2⟩:=hty b h2
 have sh2:∀ a b:D,Zr (some [a,b])=some [a,b]:=fun _ _=>ZN _ (by simp)
 have c1:isD [.tup [.int (x:Int),aD a,aD b],.ty "tuple"]=some (.bl true):=rfl
 have c2:Z6 [.tup [.int (x:Int),aD a,aD b]]=some (.int 3):=rfl
 have c3:neO (.int 3) (.int 3)=some (.bl false):=rfl
 have c4:ixD (.tup [.int (x:Int),aD a,aD b]) (.int 0)=some (.int (x:Int)):=rfl
 have c5:isD [.int (x:Int),.ty "int"]=some (.bl true):=rfl
 have c6:isD [.int (x:Int),.ty "bool"]=some (.bl false):=rfl
 have c7:slD (.tup [.int (x:Int),aD a,aD b]) (some 1) none=some (.tup [aD a,aD b]):=by
  show some (D.tup (ZcA [.int (x:Int),aD a,aD b] (some 1) none))=_
  rw [Zi1 _ _ (by omega)];rfl
 have hL:∀ (s0 s1:Sl) (d:D),isD [d,.ty "bool"]=some (.bl false)→isD [d,.tup [.ty "int",.ty "str"]]=some (.bl true)→ZcB [s0,s1,.val d]=.next [s0,s1,.val d]:=fun s0 s1 d q1 q2=>by
  simp only [ZcB,q1,q2,sh2,Zat,orB,ZaX,Bool.not_true,Zf,Zt,asB,Zd,sl3,rdP,rdV,rdA,Zk,Zc,Zi,Zp,Zw,Zu,ZB,pks,pk,asI,Zq,Zv,List.getElem?_cons_succ,List.getElem?_cons_zero,List.set_cons_succ,List.set_cons_zero,Option.bind,Option.map]
 have hfor:∀ s0 s1 s2:Sl,ZJ (Zo 2) ZcB [aD a,aD b] [s0,s1,s2]=.next [s0,s1,.val (aD b)]:=fun s0 s1 s2=>by
  simp only [ZJ,Zo,List.set_cons_succ,List.set_cons_zero,hL s0 s1 (aD a) a1 a2,hL s0 s1 (aD b) b1 b2]
 refine Zah rfl ?_
 show ZbK [.val (trD (x,a,b)),.val (.lst (T.map trD)),.no]=_
 have htr:trD (x,a,b)=.tup [.int (x:Int),aD a,aD b]:=rfl
 rw [htr] at hin ⊢
 generalize T.map trD=TT at *
 generalize aD a=A at *
 generalize aD b=B at *
 simp only [ZbK,Zd6,Zga,Zgu,Zgz,Zf6,ZgJ,Zf1,ZfU,Zgk,hsh,e,c1,c2,c3,c4,c5,c6,c7,Zat,orB,ZaX,Bool.not_true,ZT,ZA,hfor,hin,Zf,Zt,asB,Zd,sl3,rdP,rdV,rdA,Zk,Zc,Zi,Zp,Zw,Zu,ZB,pks,pk,asI,Zq,Zv,List.getElem?_cons_succ,List.getElem?_cons_zero,List.set_cons_succ,List.set_cons_zero,Option.bind,Option.map]
theorem Bad.ne {Ls:List (Nat×List (List At))} (h:ZcO Ls) {ks gs:List Nat} {qs:List AP} {t:Nat×At×At} (hb:Bad Ls ks gs qs t):t.2.1≠.non∧t.2.2≠.non:=by
 obtain ⟨w,la,one,other,h1,m1,m2,_,e1,e2⟩:=hb
 have hla:ZaW w la:=h.la _ (List.mem_of_getElem? h1)
 have key:∀ l∈la,hd0 l≠.non:=fun l hl=>by
  have q1:=hla.len l hl
  have q2:=hla.w0
  cases l with
  | nil=>simp at q1;omega
  | cons a r=>exact hla.vs _ hl a List.mem_cons_self
 rw [e1,e2]
 exact ⟨key one m1,key other m2⟩
theorem ZnM {Ls:List (Nat×List (List At))} (h:ZcO Ls) (ks gs:List Nat) (hk:Zca Ls ks) (hg:Zca Ls gs) (qs:List AP) (hq:∀ q∈qs,ZgB Ls q):∃ r P,F_apart [.val (LD Ls),.val (GD ks),.val (GD gs),.val (.lst (qs.map pkD))]=some (.val r)∧F_law_pairs [.val (LD Ls),.val (GD ks),.val (GD gs),.val (.lst (qs.map pkD))]=some (.own P)∧F_law_good [.val r,.val (.lst P)]=some (.val (.bl true)):=by
 have hp:=Zne h ks gs hk hg qs hq
 rcases Znu h ks gs hk hg qs hq with ⟨t,hE,hb,ha⟩ | ⟨hE,ha⟩
 ·rw [hE,if_neg (by decide)] at hp
  exact ⟨_,_,ha,hp,Zn7 _ t ((ZkY ks gs qs t).mpr hb) (Bad.ne h hb).1 (Bad.ne h hb).2⟩
 ·have hnil:(if Zbg Ls qs=true then [] else (List.range Ls.length).flatMap (axT Ls ks gs qs))=[]:=by
   cases hEE:Zbg Ls qs with
   | true=>rfl
   | false =>
    rw [if_neg (by decide)]
    rcases hE with hE | hE
    ·rw [hE] at hEE;cases hEE
    ·exact List.eq_nil_iff_forall_not_mem.mpr fun t ht=>hE t ((ZkY ks gs qs t).mp ht)
  rw [hnil] at hp
  exact ⟨.non,[],ha,hp,Zna⟩
theorem Zmy (ns:List Int):∀ (xs:List Nat),∃ Ls:List (Nat×List (List At)),Ls.length=xs.length∧(∀ p∈Ls,ZaW p.1 p.2)∧(∀ p∈Ls,p.2.length≤8)∧ZaV (Zo 0) (fun _=>some true) ZgK [.no,.val (.lst (ns.map D.int))] (xs.map fun (k:Nat)=>D.int (k:Int))=some (Ls.map fun p=>D.lst (p.2.map lnD))
 | []=>⟨[],rfl,fun _ h=>(nomatch h),fun _ h=>(nomatch h),rfl⟩
 | x::xs=>by
  obtain ⟨Ls,h1,h2,h3,e⟩:=Zmy ns xs
  have hc:=Zfo (.val (.lst (ns.map D.int))) ns (.inl rfl) (1+(x:Int)) (by omega)
  generalize ns.getD (1+(x:Int)).toNat 0=c at *
  obtain ⟨w,la,hla,h8,hl⟩:=Zmk c
  refine ⟨(w,la)::Ls,by simp [h1],fun p hp=>?_,fun p hp=>?_,?_⟩
  ·rcases List.mem_cons.mp hp with rfl | hp
   ·exact hla
   ·exact h2 p hp
  ·rcases List.mem_cons.mp hp with rfl | hp
   ·exact h8
   ·exact h3 p hp
  ·have hb:ZgK [.val (.int (x:Int)),.val (.lst (ns.map D.int))]=some (.lst (la.map lnD)):=by
    have a1:=Za9 1 (x:Int)
    generalize la.map lnD=LA at *
    generalize ns.map D.int=NS at *
    simp only [ZgK,a1,hc,Zap,hl,Zf,Zt,asB,Zd,sl3,rdP,rdV,rdA,Zk,Zc,Zi,Zp,Zw,Zu,ZB,pks,pk,asI,Zq,Zv,List.getElem?_cons_succ,List.getElem?_cons_zero,List.set_cons_succ,List.set_cons_zero,Option.bind,Option.map]
   simp only [List.map_cons,ZaV,Zo,List.set_cons_zero,hb,e,Zc,Option.bind]
theorem Zma (ns:List Int) {Ls:List (Nat×List (List At))} (h:ZcO Ls):∀ (xs:List Nat),∃ qs:List AP,qs.length=xs.length∧(∀ q∈qs,ZgB Ls q)∧ZaV (Zo 0) (fun _=>some true) ZgS [.no,.val (.lst (ns.map D.int)),.val (LD Ls)] (xs.map fun (k:Nat)=>D.int (k:Int))=some (qs.map pkD)
 | []=>⟨[],rfl,fun _ h=>(nomatch h),rfl⟩
 | x::xs=>by
  obtain ⟨qs,h1,h2,e⟩:=Zma ns h xs
  have hc:=Zfo (.val (.lst (ns.map D.int))) ns (.inl rfl) (6+(x:Int)) (by omega)
  generalize ns.getD (6+(x:Int)).toNat 0=c at *
  obtain ⟨q,hq,hp⟩:=Zon h c
  refine ⟨q::qs,by simp [h1],fun p hp=>?_,?_⟩
  ·rcases List.mem_cons.mp hp with rfl | hp
   ·exact hq
   ·exact h2 p hp
  ·have hb:ZgS [.val (.int (x:Int)),.val (.lst (ns.map D.int)),.val (LD Ls)]=some (pkD q):=by
    have a1:=Za9 6 (x:Int)
    generalize LD Ls=L at *
    generalize pkD q=PQ at *
    generalize ns.map D.int=NS at *
    simp only [ZgS,a1,hc,Zap,hp,Zf,Zt,asB,Zd,sl3,rdP,rdV,rdA,Zk,Zc,Zi,Zp,Zw,Zu,ZB,pks,pk,asI,Zq,Zv,List.getElem?_cons_succ,List.getElem?_cons_zero,List.set_cons_succ,List.set_cons_zero,Option.bind,Option.map]
   simp only [List.map_cons,ZaV,Zo,List.set_cons_zero,hb,e,Zc,Option.bind]
theorem ZpP (q:AP):okD 11 (pkD q)=true:=by
 obtain ⟨a,lv,tp,vs⟩:=q
 have h:∀ n,(vs.map aD).all (okD n)=true:=fun n=>by
  rw [List.all_map,List.all_eq_true]
  exact fun a _=>ZdD n a
 cases tp
 ·show ([D.int (a:Int),.int (lv:Int),.lst (vs.map aD)]).all (okD 10)=true
  have h2:okD 10 (.lst (vs.map aD))=true:=h 9
  simp only [List.all_cons,List.all_nil,h2];rfl
 ·show ([D.int (a:Int),.int (lv:Int),.tup (vs.map aD)]).all (okD 10)=true
  have h2:okD 10 (.tup (vs.map aD))=true:=h 9
  simp only [List.all_cons,List.all_nil,h2];rfl
theorem Zk6 {d:D} (h:okD 12 d=true):eqO d d=some (.bl true):=by
 have h2:=Zhh 12 d h
 simp [Z1,h,h2]
theorem ZrH (Ls:List (Nat×List (List At))):okD 12 (LD Ls)=true:=by
 show (Ls.map fun p=>D.lst (p.2.map lnD)).all (okD 11)=true
 rw [List.all_map,List.all_eq_true]
 intro p _
 show (p.2.map lnD).all (okD 10)=true
 rw [List.all_map,List.all_eq_true]
 exact fun l _=>Zdn 9 l
theorem Znt:∀ ns:List Int,ns.length≤63→F_law [.val (.lst (ns.map D.int))]=some (.val (.bl true)):=by
 intro ns hl
 have hcell:=fun k (h0:(0:Int)≤k)=>Zfo (.val (.lst (ns.map D.int))) ns (.inl rfl) k h0
 have h0:=hcell 0 (by decide)
 have h4:=hcell 4 (by decide)
 have h5:=hcell 5 (by decide)
 have h10:=hcell 10 (by decide)
 clear hcell
 generalize ns.getD (0:Int).toNat 0=c0 at *
 generalize ns.getD (4:Int).toNat 0=c4 at *
 generalize ns.getD (5:Int).toNat 0=c5 at *
 generalize ns.getD (10:Int).toNat 0=c10 at *
 obtain ⟨ws,hr,hw⟩:=Zgl c0 3 (by omega)
 have x0:=ZaN (xs:=ws) (i:=0) (by omega) (by omega)
 have x1:=ZaN (xs:=ws) (i:=1) (by omega) (by omega)
 generalize ws.getD (0:Int).toNat 0=y0 at *
 generalize ws.getD (1:Int).toNat 0=y1 at *
 obtain ⟨n,hn,hn3⟩:∃ n:Nat,y0%3=(n:Int)∧n<3:=⟨(y0%3).toNat,by omega,by omega⟩
 obtain ⟨m,hm,hm5⟩:∃ m:Nat,y1%5=(m:Int)∧m<5:=⟨(y1%5).toNat,by omega,by omega⟩
 have m3:=ZR y0 3 (by decide)
 have m5:=ZR y1 5 (by decide)
 rw [hn] at m3
 rw [hm] at m5
 obtain ⟨Ls,e1,e2,e3,e4⟩:=Zmy ns (List.range (n+1))
 rw [List.length_range] at e1
 have hLs:ZcO Ls:=⟨by omega,by omega,e2,e3⟩
 obtain ⟨ks,hk,ek⟩:=ZjQ hLs c4
 obtain ⟨gs0,hg0,eg0⟩:=ZjQ hLs c5
 obtain ⟨gs,hg,eg⟩:=Zpd hLs ks gs0 hk hg0 c10
 obtain ⟨qs,q1,q2,q3⟩:=Zma ns hLs (List.range m)
 rw [List.length_range] at q1
 have hcp:=Zmf qs (by omega)
 obtain ⟨r1,P1,a1,a2,a3⟩:=ZnM hLs ks gs hk hg qs q2
 have hq1:∀ q∈qs.drop 1,ZgB Ls q:=fun q hq=>q2 q (List.mem_of_mem_drop hq)
 obtain ⟨r2,P2,b1,b2,b3⟩:=ZnM hLs gs ks hg hk (qs.drop 1) hq1
 have hsl:slD (.lst (qs.map pkD)) (some 1) none=some (.lst ((qs.drop 1).map pkD)):=by
  show some (D.lst (ZcA (qs.map pkD) (some 1) none))=_
  rw [ZmH,Zi1 _ _ (by omega)];rfl
 have hokq:okD 12 (.lst (qs.map pkD))=true:=by
  show (qs.map pkD).all (okD 11)=true
  rw [List.all_map,List.all_eq_true]
  exact fun q _=>ZpP q
 have eq1:=Zk6 hokq
 have eq2:=Zk6 (ZrH Ls)
 have hcw:ZaV (Zo 0) (fun _=>some true) ZhP [.no] (Ls.map fun p=>D.lst (p.2.map lnD))=some (Ls.map fun p=>D.lst (p.2.map lnD)):=Zan (b:=Zo 0) (e:=ZhP) (ρ:=[.no]) (fun p:Nat×List (List At)=>D.lst (p.2.map lnD)) (fun p=>D.lst (p.2.map lnD)) Ls fun p _=>⟨[.val (.lst (p.2.map lnD))],rfl,rfl⟩
 have rn:=ZaH (n+1) (by omega)
 have rm:=ZaH m (by omega)
 have hc1:ZW (.int 1) (.int (n:Int))=some (.int ((n+1:Nat):Int)):=by rw [Za9,show (1:Int)+(n:Int)=((n+1:Nat):Int) by omega]
 have sn:Zr (some ((List.range (n+1)).map fun (k:Nat)=>D.int (k:Int)))=some ((List.range (n+1)).map fun (k:Nat)=>D.int (k:Int)):=ZN _ (by simp;omega)
 have sm:Zr (some ((List.range m).map fun (k:Nat)=>D.int (k:Int)))=some ((List.range m).map fun (k:Nat)=>D.int (k:Int)):=ZN _ (by simp;omega)
 have sl:Zr (some (Ls.map fun p=>D.lst (p.2.map lnD)))=some (Ls.map fun p=>D.lst (p.2.map lnD)):=ZN _ (by simp;omega)
 have hLD:LD Ls=.lst (Ls.map fun p=>D.lst (p.2.map lnD)):=rfl
 have hr':F_law_row [.val (.int c0),.val (.int 3)]=some (.own (ws.map D.int)):=hr
 rw [hLD] at ek eg0 eg q3 a1 a2 b1 b2 eq2
 generalize (Ls.map fun p=>D.lst (p.2.map lnD))=LL at *
 generalize (qs.drop 1).map pkD=Q1 at *
 generalize qs.map pkD=Q at *
 generalize GD ks=KK at *
 generalize GD gs=GG at *
 generalize GD gs0=G0 at *
 generalize ((List.range (n+1)).map fun (k:Nat)=>D.int (k:Int))=RN at *
 generalize ((List.range m).map fun (k:Nat)=>D.int (k:Int))=RM at *
 generalize ((n+1:Nat):Int)=N1 at *
 generalize (m:Int)=MM at *
 generalize ns.map D.int=NS at *
 generalize ws.map D.int=W at *
 have hin1:ZZ 1 [0] [.val (.lst NS),.val (.lst W),.no,.no,.no,.no,.no,.no,.no]=[.no,.val (.lst NS)]:=rfl
 have hin2:ZZ 1 [] [.val (.lst NS),.val (.lst W),.val (.lst LL),.no,.no,.no,.no,.no,.no]=[.no]:=rfl
 have hin3:ZZ 1 [0,3] [.val (.lst NS),.val (.lst W),.val (.lst LL),.val (.lst LL),.val KK,.val GG,.no,.no,.no]=[.no,.val (.lst NS),.val (.lst LL)]:=rfl
 have t8:Zid [.val (.lst NS),.val (.lst W),.val (.lst LL),.val (.lst LL),.val KK,.val GG,.val (.lst Q),.val (.lst Q),.val (.lst P1)]=.ret (.val (.bl true)):=by
  simp only [Zid,Zku,Zk3,ZkX,ZjB,Zj8,Zjg,ZjH,a1,Zap,Za3,a3,Zat,ZaX,Bool.not_true,hsl,b1,b2,b3,eq1,eq2,Zbm,blO,Zf,Zt,asB,Zd,sl3,rdP,rdV,rdA,Zk,Zc,Zi,Zp,Zw,Zu,ZB,pks,pk,asI,Zq,Zv,List.getElem?_cons_succ,List.getElem?_cons_zero,List.set_cons_succ,List.set_cons_zero,Option.bind,Option.map]
 refine Zah rfl ?_
 show ZhQ [.val (.lst NS),.no,.no,.no,.no,.no,.no,.no,.no]=_
 simp only [ZhQ,ZkL,Zkx,Zla,Zk7,Zkz,ZkM,ZkH,Zkv,Zky,Zk8,ZkT,ZkV,ZkO,ZkK,ZkI,h0,h4,h5,h10,Zap,Za3,hr',x0,m3,hc1,rn,ZX,sn,hin1,e4,rdQ,ZA,sl,hin2,hcw,ek,eg0,eg,x1,m5,rm,sm,hin3,q3,hcp,a2,t8,Zf,Zt,asB,Zd,sl3,rdP,rdV,rdA,Zk,Zc,Zi,Zp,Zw,Zu,ZB,pks,pk,asI,Zq,Zv,List.getElem?_cons_succ,List.getElem?_cons_zero,List.set_cons_succ,List.set_cons_zero,Option.bind,Option.map]
def top (i:Nat):Stmt:=PySem.Challenge.pw_cubebook_k24_apart.main.body.getD i (.Pass ⟨0,0,0,0⟩)
abbrev ZbW:Stmt:=top 1
abbrev Zbl:Stmt:=top 3
abbrev Zbu:Stmt:=top 4
abbrev Zb1:Stmt:=top 5
abbrev Zcq:Stmt:=top 7
abbrev Z8:Stmt:=top 8
abbrev Zbt:Stmt:=top 10
abbrev Zaa:Stmt:=top 11
abbrev Zbr:Stmt:=top 13
abbrev Zb7:Stmt:=top 14
abbrev Zdo:Stmt:=top 15
abbrev Za1:Stmt:=top 17
abbrev Zcp:Stmt:=top 18
abbrev ZbA:Stmt:=top 19
abbrev Zbz:Stmt:=top 20
abbrev Zby:Stmt:=top 21
abbrev ZaE:Stmt:=top 22
abbrev ZcL:Stmt:=top 23
abbrev Zba:Stmt:=top 24
abbrev ZaF:Stmt:=top 25
abbrev Zbp:Stmt:=top 26
abbrev Zbh:Stmt:=top 27
abbrev ZbV:Stmt:=top 28
abbrev Za5:Stmt:=top 29
abbrev ZbY:Stmt:=top 30
abbrev Zb6:Stmt:=top 31
abbrev Zdg:Stmt:=top 32
structure AD where
 a_is_whole:Addr
 d_is_whole:FuncData
 a_value_rank:Addr
 d_value_rank:FuncData
 a_key_rank:Addr
 d_key_rank:FuncData
 a_in_order:Addr
 d_in_order:FuncData
 a_line_at:Addr
 d_line_at:FuncData
 a_values_in_order:Addr
 d_values_in_order:FuncData
 a_picked:Addr
 d_picked:FuncData
 a_picked_everywhere:Addr
 d_picked_everywhere:FuncData
 a_asked_of:Addr
 d_asked_of:FuncData
 a_apart_on:Addr
 d_apart_on:FuncData
 a_apart:Addr
 d_apart:FuncData
 a_law_cell_at:Addr
 d_law_cell_at:FuncData
 a_law_row:Addr
 d_law_row:FuncData
 a_law_thing:Addr
 d_law_thing:FuncData
 a_law_fresh:Addr
 d_law_fresh:FuncData
 a_law_lasts:Addr
 d_law_lasts:FuncData
 a_law_ladder:Addr
 d_law_ladder:FuncData
 a_law_at:Addr
 d_law_at:FuncData
 a_law_grain:Addr
 d_law_grain:FuncData
 a_law_values_at:Addr
 d_law_values_at:FuncData
 a_law_pick:Addr
 d_law_pick:FuncData
 a_law_copied:Addr
 d_law_copied:FuncData
 a_law_some:Addr
 d_law_some:FuncData
 a_law_pairs:Addr
 d_law_pairs:FuncData
 a_law_good:Addr
 d_law_good:FuncData
 a_law_near:Addr
 d_law_near:FuncData
 a_law:Addr
 d_law:FuncData
structure Tx (K:PySem.W.Frag) (mg:Str→Option Value) (d:AD):Prop where
 m_is_whole:mg "is_whole"=some (.ref d.a_is_whole)
 F_is_whole:Fun K "is_whole" "is_whole" ZbW d.a_is_whole d.d_is_whole
 b_is_whole:Binds K d.d_is_whole ["thing"] []
 m_value_rank:mg "value_rank"=some (.ref d.a_value_rank)
 F_value_rank:Fun K "value_rank" "value_rank" Zbl d.a_value_rank d.d_value_rank
 b_value_rank:Binds K d.d_value_rank ["thing"] []
 m_key_rank:mg "key_rank"=some (.ref d.a_key_rank)
 F_key_rank:Fun K "key_rank" "key_rank" Zbu d.a_key_rank d.d_key_rank
 b_key_rank:Binds K d.d_key_rank ["key"] []
 m_in_order:mg "in_order"=some (.ref d.a_in_order)
 F_in_order:Fun K "in_order" "in_order" Zb1 d.a_in_order d.d_in_order
 b_in_order:Binds K d.d_in_order ["keys"] []
 m_line_at:mg "line_at"=some (.ref d.a_line_at)
 F_line_at:Fun K "line_at" "line_at" Zcq d.a_line_at d.d_line_at
 b_line_at:Binds K d.d_line_at ["line","level"] []
 m_values_in_order:mg "values_in_order"=some (.ref d.a_values_in_order)
 F_values_in_order:Fun K "values_in_order" "values_in_order" Z8 d.a_values_in_order d.d_values_in_order
 b_values_in_order:Binds K d.d_values_in_order ["values"] []
 m_picked:mg "picked"=some (.ref d.a_picked)
 F_picked:Fun K "picked" "picked" Zbt d.a_picked d.d_picked
 b_picked:Binds K d.d_picked ["ladders","picks","axis"] []
 m_picked_everywhere:mg "picked_everywhere"=some (.ref d.a_picked_everywhere)
 F_picked_everywhere:Fun K "picked_everywhere" "picked_everywhere" Zaa d.a_picked_everywhere d.d_picked_everywhere
 b_picked_everywhere:Binds K d.d_picked_everywhere ["ladders","picks"] []
 m_asked_of:mg "asked_of"=some (.ref d.a_asked_of)
 F_asked_of:Fun K "asked_of" "asked_of" Zbr d.a_asked_of d.d_asked_of
 b_asked_of:Binds K d.d_asked_of ["ladder","level","chosen"] []
 m_apart_on:mg "apart_on"=some (.ref d.a_apart_on)
 F_apart_on:Fun K "apart_on" "apart_on" Zb7 d.a_apart_on d.d_apart_on
 b_apart_on:Binds K d.d_apart_on ["ladder","kept_level","level","chosen"] []
 m_apart:mg "apart"=some (.ref d.a_apart)
 F_apart:Fun K "apart" "apart" Zdo d.a_apart d.d_apart
 b_apart:Binds K d.d_apart ["ladders","kept","grain","picks"] []
 m_law_cell_at:mg "_law_cell_at"=some (.ref d.a_law_cell_at)
 F_law_cell_at:Fun K "_law_cell_at" "_law_cell_at" Za1 d.a_law_cell_at d.d_law_cell_at
 b_law_cell_at:Binds K d.d_law_cell_at ["_law_script","_law_k"] []
 m_law_row:mg "_law_row"=some (.ref d.a_law_row)
 F_law_row:Fun K "_law_row" "_law_row" Zcp d.a_law_row d.d_law_row
 b_law_row:Binds K d.d_law_row ["_law_cell","_law_many"] []
 m_law_thing:mg "_law_thing"=some (.ref d.a_law_thing)
 F_law_thing:Fun K "_law_thing" "_law_thing" ZbA d.a_law_thing d.d_law_thing
 b_law_thing:Binds K d.d_law_thing ["_law_x"] []
 m_law_fresh:mg "_law_fresh"=some (.ref d.a_law_fresh)
 F_law_fresh:Fun K "_law_fresh" "_law_fresh" Zbz d.a_law_fresh d.d_law_fresh
 b_law_fresh:Binds K d.d_law_fresh ["_law_x","_law_used"] []
 m_law_lasts:mg "_law_lasts"=some (.ref d.a_law_lasts)
 F_law_lasts:Fun K "_law_lasts" "_law_lasts" Zby d.a_law_lasts d.d_law_lasts
 b_law_lasts:Binds K d.d_law_lasts ["_law_lines"] []
 m_law_ladder:mg "_law_ladder"=some (.ref d.a_law_ladder)
 F_law_ladder:Fun K "_law_ladder" "_law_ladder" ZaE d.a_law_ladder d.d_law_ladder
 b_law_ladder:Binds K d.d_law_ladder ["_law_cell","_law_most"] []
 m_law_at:mg "_law_at"=some (.ref d.a_law_at)
 F_law_at:Fun K "_law_at" "_law_at" ZcL d.a_law_at d.d_law_at
 b_law_at:Binds K d.d_law_at ["_law_line","_law_level"] []
 m_law_grain:mg "_law_grain"=some (.ref d.a_law_grain)
 F_law_grain:Fun K "_law_grain" "_law_grain" Zba d.a_law_grain d.d_law_grain
 b_law_grain:Binds K d.d_law_grain ["_law_cell","_law_ladders"] []
 m_law_values_at:mg "_law_values_at"=some (.ref d.a_law_values_at)
 F_law_values_at:Fun K "_law_values_at" "_law_values_at" ZaF d.a_law_values_at d.d_law_values_at
 b_law_values_at:Binds K d.d_law_values_at ["_law_ladder_here","_law_level"] []
 m_law_pick:mg "_law_pick"=some (.ref d.a_law_pick)
 F_law_pick:Fun K "_law_pick" "_law_pick" Zbp d.a_law_pick d.d_law_pick
 b_law_pick:Binds K d.d_law_pick ["_law_cell","_law_ladders"] []
 m_law_copied:mg "_law_copied"=some (.ref d.a_law_copied)
 F_law_copied:Fun K "_law_copied" "_law_copied" Zbh d.a_law_copied d.d_law_copied
 b_law_copied:Binds K d.d_law_copied ["_law_picks"] []
 m_law_some:mg "_law_some"=some (.ref d.a_law_some)
 F_law_some:Fun K "_law_some" "_law_some" ZbV d.a_law_some d.d_law_some
 b_law_some:Binds K d.d_law_some ["_law_ladders","_law_picks","_law_axis"] []
 m_law_pairs:mg "_law_pairs"=some (.ref d.a_law_pairs)
 F_law_pairs:Fun K "_law_pairs" "_law_pairs" Za5 d.a_law_pairs d.d_law_pairs
 b_law_pairs:Binds K d.d_law_pairs ["_law_ladders","_law_kept","_law_goal","_law_picks"] []
 m_law_good:mg "_law_good"=some (.ref d.a_law_good)
 F_law_good:Fun K "_law_good" "_law_good" ZbY d.a_law_good d.d_law_good
 b_law_good:Binds K d.d_law_good ["_law_found","_law_pairs_here"] []
 m_law_near:mg "_law_near"=some (.ref d.a_law_near)
 F_law_near:Fun K "_law_near" "_law_near" Zb6 d.a_law_near d.d_law_near
 b_law_near:Binds K d.d_law_near ["_law_kept","_law_goal","_law_ladders","_law_cell"] []
 m_law:mg "law"=some (.ref d.a_law)
 F_law:Fun K "law" "law" Zdg d.a_law d.d_law
 b_law:Binds K d.d_law ["_law_script"] []
 n_bool:mg "bool"=none
 n_dict:mg "dict"=none
 n_enumerate:mg "enumerate"=none
 n_int:mg "int"=none
 n_isinstance:mg "isinstance"=none
 n_len:mg "len"=none
 n_list:mg "list"=none
 n_max:mg "max"=none
 n_min:mg "min"=none
 n_range:mg "range"=none
 n_sorted:mg "sorted"=none
 n_str:mg "str"=none
 n_tuple:mg "tuple"=none
section
variable {P:Program} {w:World} {K:PySem.W.Frag} {mg:Str→Option Value} {base:Heap} {d:AD}
theorem Zkh:ZL ["thing"] ["thing"] (Zn ZbW):=⟨rfl,rfl,rfl,by decide +kernel,rfl,by decide +kernel,by decide +kernel⟩
theorem Zj9 (T:Tx K mg d):FnOk P w K mg base CX0 1 d.a_is_whole d.d_is_whole ["thing"] (spD K F_is_whole) :=
 by
 refine Z3 (N:=["thing"]) (ps:=["thing"]) T.F_is_whole Zkh (by decide) (g:=ZeT) (fun cdv A outer s H E M H0 hr=>?_)
 refine Z2 (Zb (ZI (Zjh (ZF ZbM Zee (by rfl) T.n_isinstance (by rfl) (Za (Zz 0) (Za (Zl (Zbq (n:="int") (by rfl) T.n_int (by rfl))) Ze))) (ZjS (Zns (ZF ZbM Zee (by rfl) T.n_isinstance (by rfl) (Za (Zz 0) (Za (Zl (Zbq (n:="bool") (by rfl) T.n_bool (by rfl))) Ze)))))))
   Zh) ?_
 rfl
theorem Zlp:ZL ["line","level"] ["line","level"] (Zn Zcq):=⟨rfl,rfl,rfl,by decide +kernel,rfl,by decide +kernel,by decide +kernel⟩
theorem Zfe (T:Tx K mg d):FnOk P w K mg base CX0 1 d.a_line_at d.d_line_at ["line","level"] (spD K F_line_at) :=
 by
 refine Z3 (N:=["line","level"]) (ps:=["line","level"]) T.F_line_at Zlp (by decide) (g:=Zeh) (fun cdv A outer s H E M H0 hr=>?_)
 refine Z2 (Zb (ZI (Zls (ZjT hr.units (Zj 1) (j_p (ZF Zab Zau (by rfl) T.n_len (by rfl) (Za (Zz 0) Ze)))) (Zm (Zj 0) (Zj 1) (fun _ _=>rfl)) ZcP))
   Zh) ?_
 rfl
theorem Zif:ZL ["_law_script","_law_k"] ["_law_script","_law_k"] (Zn Za1):=⟨rfl,rfl,rfl,by decide +kernel,rfl,by decide +kernel,by decide +kernel⟩
theorem ZaQ (T:Tx K mg d):FnOk P w K mg base CX0 1 d.a_law_cell_at d.d_law_cell_at ["_law_script","_law_k"] (spD K F_law_cell_at) :=
 by
 refine Z3 (N:=["_law_script","_law_k"]) (ps:=["_law_script","_law_k"]) T.F_law_cell_at Zif (by decide) (g:=Zcd) (fun cdv A outer s H E M H0 hr=>?_)
 refine Z2 (Zb (ZM (ZjT hr.units (Zj 1) (j_p (ZF Zab Zau (by rfl) T.n_len (by rfl) (Za (Zz 0) Ze))))
   (Zb (ZI (Zm (Zj 0) (Zj 1) (fun _ _=>rfl)))
   Zh)
   Zh)
   (Zb (ZI Zg)
   Zh)) ?_
 rfl
theorem sc_law_row:ZL ["_law_cell","_law_many","_law_rest","_law_found","_law_high","_law_k","_law_one","_law_other"] ["_law_cell","_law_many"] (Zn Zcp):=⟨rfl,rfl,rfl,by decide +kernel,rfl,by decide +kernel,by decide +kernel⟩
theorem ZcD (T:Tx K mg d):FnOk P w K mg base CX0 1 d.a_law_row d.d_law_row ["_law_cell","_law_many"] (spD K F_law_row) :=
 by
 refine Z3 (N:=["_law_cell","_law_many","_law_rest","_law_found","_law_high","_law_k","_law_one","_law_other"]) (ps:=["_law_cell","_law_many"]) T.F_law_row sc_law_row (by decide) (g:=Ziz) (fun cdv A outer s H E M H0 hr=>?_)
 refine Z2 (Zb (ZC (i:=2) sc_law_row.nd rfl (Or.inl rfl) (Zdh (Zj 0) (j_p Zg)))
   (Zb (ZaB (i:=3) sc_law_row.nd rfl (Or.inl rfl) (Zak Ze))
   (Zb (ZC (i:=4) sc_law_row.nd rfl (Or.inl rfl) (Zav 2))
   (Zb (ZU PassesOwn.never rfl (Z5 (by rfl) T.n_range (Za (Zl (Zav 1)) Ze)) (Zx (i:=5) sc_law_row.nd rfl (Or.inl rfl))
   (Zb (ZC (i:=4) sc_law_row.nd rfl (Or.inl rfl) (Zdh (Zj 4) (j_p (ZeY (j_p Zg) (j_p Zg)))))
   Zh))
   (Zb (ZU PassesOwn.never rfl (Z5 (by rfl) T.n_range (Za (Zl (Zav 1)) Ze)) (Zx (i:=5) sc_law_row.nd rfl (Or.inl rfl))
   (Zb (ZM (ZnB hr.units (Zj 4) (j_p Zg))
   (Zb (Z7 (i:=3) rfl (by first | exact Or.inl rfl | exact Or.inr (Or.inl rfl)) (ZS (Zj 2) (j_p (ZeY (j_p Zg) (j_p Zg)))))
   (Zb (ZC (i:=2) sc_law_row.nd rfl (Or.inl rfl) (Zdh (Zj 2) (j_p (ZeY (j_p Zg) (j_p Zg)))))
   Zh))
   (Zb (ZC (i:=6) sc_law_row.nd rfl (Or.inl rfl) (ZS (j_p (Zay (j_p (ZQ (j_p (ZQ (j_p (ZQ (j_p (ZS (Zj 2) (j_p Zg))) (j_p (Zay (j_p Zg) (Zj 5))))) (j_p (Zay (Zj 5) (Zj 5))))) (j_p Zg))) (j_p Zg))) (j_p Zg)))
   (Zb (ZC (i:=7) sc_law_row.nd rfl (Or.inl rfl) (ZS (j_p (Zay (j_p (ZQ (Zj 6) (j_p (Zay (j_p Zg) (Zj 5))))) (j_p Zg))) (j_p Zg)))
   (Zb (Z7 (i:=3) rfl (by first | exact Or.inl rfl | exact Or.inr (Or.inl rfl)) (ZQ (j_p (Zay (Zj 6) (Zj 7))) (j_p (Zdh (Zj 6) (j_p Zg)))))
   Zh))))
   Zh))
   (Zb (Zc0 3)
   Zh)))))) ?_
 rfl
theorem sc_law_thing:ZL ["_law_x","_law_later","_law_rest","_law_word","_law_k"] ["_law_x"] (Zn ZbA):=⟨rfl,rfl,rfl,by decide +kernel,rfl,by decide +kernel,by decide +kernel⟩
theorem Zdv (T:Tx K mg d):FnOk P w K mg base CX0 1 d.a_law_thing d.d_law_thing ["_law_x"] (spD K F_law_thing) :=
 by
 refine Z3 (N:=["_law_x","_law_later","_law_rest","_law_word","_law_k"]) (ps:=["_law_x"]) T.F_law_thing sc_law_thing (by decide) (g:=Zg8) (fun cdv A outer s H E M H0 hr=>?_)
 refine Z2 (Zb (ZM (Za6 hr.units (j_p (ZS (Zj 0) (j_p Zg))) (j_p Zg))
   (Zb (ZI (Zay (j_p (ZbI (Zj 0) (j_p Zg))) (j_p (Zjp (j_p Zg) (j_p (Zay (j_p Zg) (j_p (ZS (j_p (ZbI (Zj 0) (j_p Zg))) (j_p Zg)))))))))
   Zh)
   Zh)
   (Zb (ZC (i:=1) sc_law_thing.nd rfl (Or.inl rfl) Zhj)
   (Zb (ZC (i:=2) sc_law_thing.nd rfl (Or.inl rfl) (ZbI (Zj 0) (j_p Zg)))
   (Zb (ZC (i:=3) sc_law_thing.nd rfl (Or.inl rfl) (Zm (Zj 1) (j_p (ZQ (j_p Zg) (j_p (ZS (Zj 2) (j_p Zg))))) (fun _ _=>rfl)))
   (Zb (ZC (i:=2) sc_law_thing.nd rfl (Or.inl rfl) (ZbI (Zj 2) (j_p Zg)))
   (Zb (ZU PassesOwn.never rfl (Z5 (by rfl) T.n_range (Za (Zl (ZS (j_p (ZbI (Zj 0) (j_p Zg))) (j_p Zg))) Ze)) (Zx (i:=4) sc_law_thing.nd rfl (Or.inl rfl))
   (Zb (ZC (i:=3) sc_law_thing.nd rfl (Or.inl rfl) (ZQ (Zj 3) (j_p (Zm (Zj 1) (j_p (ZS (Zj 2) (j_p Zg))) (fun _ _=>rfl)))))
   (Zb (ZC (i:=2) sc_law_thing.nd rfl (Or.inl rfl) (ZbI (Zj 2) (j_p Zg)))
   Zh)))
   (Zb (ZI (Zav 3))
   Zh))))))) ?_
 rfl
theorem sc_law_lasts:ZL ["_law_lines","_law_seen","_law_line"] ["_law_lines"] (Zn Zby):=⟨rfl,rfl,rfl,by decide +kernel,rfl,by decide +kernel,by decide +kernel⟩
theorem ZjI (T:Tx K mg d):FnOk P w K mg base CX0 1 d.a_law_lasts d.d_law_lasts ["_law_lines"] (spD K F_law_lasts) :=
 by
 refine Z3 (N:=["_law_lines","_law_seen","_law_line"]) (ps:=["_law_lines"]) T.F_law_lasts sc_law_lasts (by decide) (g:=ZcV) (fun cdv A outer s H E M H0 hr=>?_)
 refine Z2 (Zb (ZaB (i:=1) sc_law_lasts.nd rfl (Or.inl rfl) (Zak Ze))
   (Zb (ZU PassesOwn.never rfl (ZV (Zb9 0)) (Zx (i:=2) sc_law_lasts.nd rfl (Or.inl rfl))
   (Zb (ZM (ZcZ hr.units (j_p (Zm (Zj 2) (j_p (Zfj (j_p Zg))) (fun _ _=>rfl))) (Zj 1))
   (Zb (Z7 (i:=1) rfl (by first | exact Or.inl rfl | exact Or.inr (Or.inl rfl)) (Zm (Zj 2) (j_p (Zfj (j_p Zg))) (fun _ _=>rfl)))
   Zh)
   Zh)
   Zh))
   (Zb (Zc0 1)
   Zh))) ?_
 rfl
theorem Zmp:ZL ["_law_line","_law_level"] ["_law_line","_law_level"] (Zn ZcL):=⟨rfl,rfl,rfl,by decide +kernel,rfl,by decide +kernel,by decide +kernel⟩
theorem ZaO (T:Tx K mg d):FnOk P w K mg base CX0 1 d.a_law_at d.d_law_at ["_law_line","_law_level"] (spD K F_law_at) :=
 by
 refine Z3 (N:=["_law_line","_law_level"]) (ps:=["_law_line","_law_level"]) T.F_law_at Zmp (by decide) (g:=ZeZ) (fun cdv A outer s H E M H0 hr=>?_)
 refine Z2 (Zb (ZM (Za6 hr.units (Zj 1) (j_p (ZF Zab Zau (by rfl) T.n_len (by rfl) (Za (Zz 0) Ze))))
   (Zb (ZI ZcP)
   Zh)
   Zh)
   (Zb (ZI (Zm (Zj 0) (Zj 1) (fun _ _=>rfl)))
   Zh)) ?_
 rfl
theorem sc_law_copied:ZL ["_law_picks","_law_found","_law_axis","_law_level","_law_values"] ["_law_picks"] (Zn Zbh):=⟨rfl,rfl,rfl,by decide +kernel,rfl,by decide +kernel,by decide +kernel⟩
theorem ZiL (T:Tx K mg d):FnOk P w K mg base CX0 1 d.a_law_copied d.d_law_copied ["_law_picks"] (spD K F_law_copied) :=
 by
 refine Z3 (N:=["_law_picks","_law_found","_law_axis","_law_level","_law_values"]) (ps:=["_law_picks"]) T.F_law_copied sc_law_copied (by decide) (g:=Zcv) (fun cdv A outer s H E M H0 hr=>?_)
 refine Z2 (Zb (ZaB (i:=1) sc_law_copied.nd rfl (Or.inl rfl) (Zak Ze))
   (Zb (ZU PassesOwn.never rfl (ZV (Zb9 0)) (Zfg (n:=3) rfl (ZaA (Zx (i:=2) sc_law_copied.nd rfl (Or.inl rfl)) (ZaA (Zx (i:=3) sc_law_copied.nd rfl (Or.inl rfl)) (ZaA (Zx (i:=4) sc_law_copied.nd rfl (Or.inl rfl)) Zd8))))
   (Zb (ZM (Zal (j_p (ZF ZbM Zee (by rfl) T.n_isinstance (by rfl) (Za (Zz 4) (Za (Zl (Zbq (n:="list") (by rfl) T.n_list (by rfl))) Ze)))))
   (Zb (Z7 (i:=1) rfl (by first | exact Or.inl rfl | exact Or.inr (Or.inl rfl)) (Z9 (Za (Zl (Zav 2)) (Za (Zl (Zav 3)) (Za (Zl (Zcm (Zg2 Zgy ZkZ (by rfl) T.n_list (by rfl) (Za (Zz 4) Ze)))) Ze)))))
   Zh)
   (Zb (Z7 (i:=1) rfl (by first | exact Or.inl rfl | exact Or.inr (Or.inl rfl)) (Z9 (Za (Zl (Zav 2)) (Za (Zl (Zav 3)) (Za (Zl (Zav 4)) Ze)))))
   Zh))
   Zh))
   (Zb (Zc0 1)
   Zh))) ?_
 rfl
theorem sc_law_good:ZL ["_law_found","_law_pairs_here","_law_value"] ["_law_found","_law_pairs_here"] (Zn ZbY):=⟨rfl,rfl,rfl,by decide +kernel,rfl,by decide +kernel,by decide +kernel⟩
theorem Zep (T:Tx K mg d):FnOk P w K mg base CX0 1 d.a_law_good d.d_law_good ["_law_found","_law_pairs_here"] (spD K F_law_good) :=
 by
 refine Z3 (N:=["_law_found","_law_pairs_here","_law_value"]) (ps:=["_law_found","_law_pairs_here"]) T.F_law_good sc_law_good (by decide) (g:=ZhD) (fun cdv A outer s H E M H0 hr=>?_)
 refine Z2 (Zb (ZM (Za6 hr.units (Zj 1) (j_p (Zcm (Zak Ze))))
   (Zb (ZI (ZmG (Zj 0)))
   Zh)
   Zh)
   (Zb (ZM (Zfn (Zer (Zcl (Zal (j_p (ZF ZbM Zee (by rfl) T.n_isinstance (by rfl) (Za (Zz 0) (Za (Zl (Zbq (n:="tuple") (by rfl) T.n_tuple (by rfl))) Ze)))))) (Zdt (ZeW hr.units (j_p (ZF Zab Zau (by rfl) T.n_len (by rfl) (Za (Zz 0) Ze))) (j_p Zg)))))
   (Zb (ZI ZbX)
   Zh)
   Zh)
   (Zb (ZM (Zfn (Zer (Zcl (Zal (j_p (ZF ZbM Zee (by rfl) T.n_isinstance (by rfl) (Za (Zl (Zm (Zj 0) (j_p Zg) (fun _ _=>rfl))) (Za (Zl (Zbq (n:="int") (by rfl) T.n_int (by rfl))) Ze)))))) (Zdt (Zal (j_p (ZF ZbM Zee (by rfl) T.n_isinstance (by rfl) (Za (Zl (Zm (Zj 0) (j_p Zg) (fun _ _=>rfl))) (Za (Zl (Zbq (n:="bool") (by rfl) T.n_bool (by rfl))) Ze))))))))
   (Zb (ZI ZbX)
   Zh)
   Zh)
   (Zb (ZU PassesOwn.never rfl (ZV (j_q (ZeU (Zj 0) (Zgn (j_p Zg)) Zf8))) (Zx (i:=2) sc_law_good.nd rfl (Or.inl rfl))
   (Zb (ZM (Zfn (Zer (Zal (j_p (ZF ZbM Zee (by rfl) T.n_isinstance (by rfl) (Za (Zz 2) (Za (Zl (Zbq (n:="bool") (by rfl) T.n_bool (by rfl))) Ze))))) (Zdt (Zcl (Zal (j_p (ZF ZbM Zee (by rfl) T.n_isinstance (by rfl) (Za (Zz 2) (Za (Zl (Z9 (Za (Zl (Zbq (n:="int") (by rfl) T.n_int (by rfl))) (Za (Zl (Zbq (n:="str") (by rfl) T.n_str (by rfl))) Ze)))) Ze)))))))))
   (Zb (ZI ZbX)
   Zh)
   Zh)
   Zh))
   (Zb (ZI (ZhU hr.units (Zj 0) (Zj 1)))
   Zh))))) ?_
 rfl
theorem ZiT:ZL ["thing"] ["thing"] (Zn Zbl):=⟨rfl,rfl,rfl,by decide +kernel,rfl,by decide +kernel,by decide +kernel⟩
theorem ZiQ (T:Tx K mg d):FnOk P w K mg base CX0 2 d.a_value_rank d.d_value_rank ["thing"] (spD K F_value_rank) :=
 by
 refine Z3 (N:=["thing"]) (ps:=["thing"]) T.F_value_rank ZiT (by decide) (g:=ZdE) (fun cdv A outer s H E M H0 hr=>?_)
 refine Z2 (Zb (ZM (ZmN (Zj 0))
   (Zb (ZI (Z9 (Za (Zl Zg) (Za (Zl Zg) Ze))))
   Zh)
   Zh)
   (Zb (ZM (Zal (j_p (Zs (Zj9 T) (hr.mono (by decide)) (by rfl) T.m_is_whole T.F_is_whole.kp T.b_is_whole (E:=E0) ZH (Za (Zz 0) Ze))))
   (Zb (ZI (Z9 (Za (Zl Zg) (Za (Zl (Zav 0)) Ze))))
   Zh)
   Zh)
   (Zb (ZI (Z9 (Za (Zl Zg) (Za (Zl (Zav 0)) Ze))))
   Zh))) ?_
 rfl
theorem sc_asked_of:ZL ["ladder","level","chosen","asked","line"] ["ladder","level","chosen"] (Zn Zbr):=⟨rfl,rfl,rfl,by decide +kernel,rfl,by decide +kernel,by decide +kernel⟩
theorem Zkg (T:Tx K mg d):FnOk P w K mg base CX0 2 d.a_asked_of d.d_asked_of ["ladder","level","chosen"] (spD K F_asked_of) :=
 by
 refine Z3 (N:=["ladder","level","chosen","asked","line"]) (ps:=["ladder","level","chosen"]) T.F_asked_of sc_asked_of (by decide) (g:=Zdi) (fun cdv A outer s H E M H0 hr=>?_)
 refine Z2 (Zb (Zei (i:=3) sc_asked_of.nd rfl (Or.inl rfl) (ZkE rfl hr.units (by rfl) T.n_dict (j_p (Zcm (ZaP ["line"] [] [] (show Zag ["line"] [] _ (Zn Zbr) from ⟨rfl,by decide +kernel,by decide +kernel,by decide +kernel,by decide +kernel,by decide +kernel⟩) rfl rfl  (ZV (Zb9 0)) (fun _ _ _ _ _ _ _=>(Zx (i:=0) (show ((["line"]:List Str)++([]:List Str)).Nodup by decide +kernel) rfl (Or.inl rfl))) (fun _ _ _ _ _ _ _=>Zaq) (fun _ _ _ _ _ _ _=>(Z9 (Za (Zl (Zm (Zj 0) (j_p Zg) (fun _ _=>rfl))) (Za (Zl (Z9 (Za (Zl Zhj) (Za (Zl ZcP) Ze)))) Ze)))) (by decide))))))
   (Zb (ZU PassesOwn.never rfl (ZV (Zb9 0)) (Zx (i:=4) sc_asked_of.nd rfl (Or.inl rfl))
   (Zb (ZM (Ze7 hr.units (j_p (Zm (Zj 4) (j_p Zg) (fun _ _=>rfl))) (Zj 2))
   (Zb (Zii (i:=3) hr.units (j_p (Zm (Zj 4) (j_p Zg) (fun _ _=>rfl))) (Z9 (Za (Zl Zhj) (Za (Zl (Zs (Zfe T) (hr.mono (by decide)) (by rfl) T.m_line_at T.F_line_at.kp T.b_line_at (E:=E0) ZH (Za (Zz 4) (Za (Zz 1) Ze)))) Ze))))
   Zh)
   Zh)
   Zh))
   (Zb (Zo6 3)
   Zh))) ?_
 rfl
theorem sc_law_fresh:ZL ["_law_x","_law_used","_law_k"] ["_law_x","_law_used"] (Zn Zbz):=⟨rfl,rfl,rfl,by decide +kernel,rfl,by decide +kernel,by decide +kernel⟩
theorem Zgq (T:Tx K mg d):FnOk P w K mg base CX0 2 d.a_law_fresh d.d_law_fresh ["_law_x","_law_used"] (spD K F_law_fresh) :=
 by
 refine Z3 (N:=["_law_x","_law_used","_law_k"]) (ps:=["_law_x","_law_used"]) T.F_law_fresh sc_law_fresh (by decide) (g:=ZcY) (fun cdv A outer s H E M H0 hr=>?_)
 refine Z2 (Zb (ZU PassesOwn.never rfl (Z5 (by rfl) T.n_range (Za (Zl (ZQ (j_p (Zay (j_p Zg) (j_p (ZF Zab Zau (by rfl) T.n_len (by rfl) (Za (Zz 1) Ze))))) (j_p Zg))) Ze)) (Zx (i:=2) sc_law_fresh.nd rfl (Or.inl rfl))
   (Zb (ZM (ZcZ hr.units (j_p (Zs (Zdv T) (hr.mono (by decide)) (by rfl) T.m_law_thing T.F_law_thing.kp T.b_law_thing (E:=E0) ZH (Za (Zl (ZQ (Zj 0) (j_p (Zay (j_p Zg) (Zj 2))))) Ze))) (Zj 1))
   (Zb (ZI (Zs (Zdv T) (hr.mono (by decide)) (by rfl) T.m_law_thing T.F_law_thing.kp T.b_law_thing (E:=E0) ZH (Za (Zl (ZQ (Zj 0) (j_p (Zay (j_p Zg) (Zj 2))))) Ze)))
   Zh)
   Zh)
   Zh))
   (Zb (ZI (ZeY (j_p Zg) (j_p Zg)))
   Zh)) ?_
 rfl
theorem sc_law_grain:ZL ["_law_cell","_law_ladders","_law_row_here"] ["_law_cell","_law_ladders"] (Zn Zba):=⟨rfl,rfl,rfl,by decide +kernel,rfl,by decide +kernel,by decide +kernel⟩
theorem ZfV (T:Tx K mg d):FnOk P w K mg base CX0 2 d.a_law_grain d.d_law_grain ["_law_cell","_law_ladders"] (spD K F_law_grain) :=
 by
 refine Z3 (N:=["_law_cell","_law_ladders","_law_row_here"]) (ps:=["_law_cell","_law_ladders"]) T.F_law_grain sc_law_grain (by decide) (g:=ZcU) (fun cdv A outer s H E M H0 hr=>?_)
 refine Z2 (Zb (ZC (i:=2) sc_law_grain.nd rfl (Or.inr rfl) (Zs (ZcD T) (hr.mono (by decide)) (by rfl) T.m_law_row T.F_law_row.kp T.b_law_row (E:=E0) ZH (Za (Zz 0) (Za (Zl Zg) Ze))))
   (Zb (ZI (ZcW Zcg Ze2 (by rfl) T.n_tuple (by rfl) (Za (Zl (Zcm (ZaP ["_law_k"] ["_law_row_here","_law_ladders"] [2,1] (show Zag ["_law_k"] ["_law_row_here","_law_ladders"] _ (Zn Zba) from ⟨rfl,by decide +kernel,by decide +kernel,by decide +kernel,by decide +kernel,by decide +kernel⟩) rfl rfl  (Z5 (by rfl) T.n_range (Za (Zl (ZF Zab Zau (by rfl) T.n_len (by rfl) (Za (Zz 1) Ze))) Ze)) (fun _ _ _ _ _ _ _=>(Zx (i:=0) (show ((["_law_k"]:List Str)++(["_law_row_here","_law_ladders"]:List Str)).Nodup by decide +kernel) rfl (Or.inl rfl))) (fun _ _ _ _ _ _ _=>Zaq) (fun _ _ _ _ _ _ _=>(ZS (j_p (Zm (Zj 1) (Zj 0) (fun _ _=>rfl))) (j_p (ZQ (j_p (ZF Zab Zau (by rfl) T.n_len (by rfl) (Za (Zl (Zm (j_p (Zm (Zj 2) (Zj 0) (fun _ _=>rfl))) (j_p Zg) (fun _ _=>rfl))) Ze))) (j_p Zg))))) (by decide)))) Ze)))
   Zh)) ?_
 rfl
theorem sc_law_values_at:ZL ["_law_ladder_here","_law_level","_law_known","_law_line"] ["_law_ladder_here","_law_level"] (Zn ZaF):=⟨rfl,rfl,rfl,by decide +kernel,rfl,by decide +kernel,by decide +kernel⟩
theorem Zhg (T:Tx K mg d):FnOk P w K mg base CX0 2 d.a_law_values_at d.d_law_values_at ["_law_ladder_here","_law_level"] (spD K F_law_values_at) :=
 by
 refine Z3 (N:=["_law_ladder_here","_law_level","_law_known","_law_line"]) (ps:=["_law_ladder_here","_law_level"]) T.F_law_values_at sc_law_values_at (by decide) (g:=ZbE) (fun cdv A outer s H E M H0 hr=>?_)
 refine Z2 (Zb (ZaB (i:=2) sc_law_values_at.nd rfl (Or.inl rfl) (Zak Ze))
   (Zb (ZU PassesOwn.never rfl (ZV (Zb9 0)) (Zx (i:=3) sc_law_values_at.nd rfl (Or.inl rfl))
   (Zb (ZM (ZcZ hr.units (j_p (Zs (ZaO T) (hr.mono (by decide)) (by rfl) T.m_law_at T.F_law_at.kp T.b_law_at (E:=E0) ZH (Za (Zz 3) (Za (Zz 1) Ze)))) (Zj 2))
   (Zb (Z7 (i:=2) rfl (by first | exact Or.inl rfl | exact Or.inr (Or.inl rfl)) (Zs (ZaO T) (hr.mono (by decide)) (by rfl) T.m_law_at T.F_law_at.kp T.b_law_at (E:=E0) ZH (Za (Zz 3) (Za (Zz 1) Ze))))
   Zh)
   Zh)
   Zh))
   (Zb (Zc0 2)
   Zh))) ?_
 rfl
theorem sc_law_some:ZL ["_law_ladders","_law_picks","_law_axis","_law_found","_law_line","_law_good_here","_law_at_here","_law_level","_law_values"] ["_law_ladders","_law_picks","_law_axis"] (Zn ZbV):=⟨rfl,rfl,rfl,by decide +kernel,rfl,by decide +kernel,by decide +kernel⟩
theorem Zkd (T:Tx K mg d):FnOk P w K mg base CX0 2 d.a_law_some d.d_law_some ["_law_ladders","_law_picks","_law_axis"] (spD K F_law_some) :=
 by
 refine Z3 (N:=["_law_ladders","_law_picks","_law_axis","_law_found","_law_line","_law_good_here","_law_at_here","_law_level","_law_values"]) (ps:=["_law_ladders","_law_picks","_law_axis"]) T.F_law_some sc_law_some (by decide) (g:=Zdk) (fun cdv A outer s H E M H0 hr=>?_)
 refine Z2 (Zb (ZaB (i:=3) sc_law_some.nd rfl (Or.inl rfl) (Zak Ze))
   (Zb (ZU PassesOwn.never rfl (ZV (j_q (Zm (Zj 0) (Zj 2) (fun _ _=>rfl)))) (Zx (i:=4) sc_law_some.nd rfl (Or.inl rfl))
   (Zb (ZC (i:=5) sc_law_some.nd rfl (Or.inl rfl) ZbX)
   (Zb (ZU PassesOwn.never rfl (ZV (Zb9 1)) (Zfg (n:=3) rfl (ZaA (Zx (i:=6) sc_law_some.nd rfl (Or.inl rfl)) (ZaA (Zx (i:=7) sc_law_some.nd rfl (Or.inl rfl)) (ZaA (Zx (i:=8) sc_law_some.nd rfl (Or.inl rfl)) Zd8))))
   (Zb (ZM (Zfn (ZeN (Za6 hr.units (Zj 6) (Zj 2)) (Zeg (ZcZ hr.units (j_p (Zs (ZaO T) (hr.mono (by decide)) (by rfl) T.m_law_at T.F_law_at.kp T.b_law_at (E:=E0) ZH (Za (Zz 4) (Za (Zz 7) Ze)))) (Zj 8)))))
   (Zb (ZC (i:=5) sc_law_some.nd rfl (Or.inl rfl) ZbX)
   Zh)
   Zh)
   Zh))
   (Zb (ZM (Zal (Zj 5))
   (Zb (Z7 (i:=3) rfl (by first | exact Or.inl rfl | exact Or.inr (Or.inl rfl)) (Zm (Zj 4) (j_p Zg) (fun _ _=>rfl)))
   Zh)
   Zh)
   Zh))))
   (Zb (Zc0 3)
   Zh))) ?_
 rfl
theorem sc_law_near:ZL ["_law_kept","_law_goal","_law_ladders","_law_cell","_law_row_here","_law_found","_law_k"] ["_law_kept","_law_goal","_law_ladders","_law_cell"] (Zn Zb6):=⟨rfl,rfl,rfl,by decide +kernel,rfl,by decide +kernel,by decide +kernel⟩
theorem Zkm (T:Tx K mg d):FnOk P w K mg base CX0 2 d.a_law_near d.d_law_near ["_law_kept","_law_goal","_law_ladders","_law_cell"] (spD K F_law_near) :=
 by
 refine Z3 (N:=["_law_kept","_law_goal","_law_ladders","_law_cell","_law_row_here","_law_found","_law_k"]) (ps:=["_law_kept","_law_goal","_law_ladders","_law_cell"]) T.F_law_near sc_law_near (by decide) (g:=Zhu) (fun cdv A outer s H E M H0 hr=>?_)
 refine Z2 (Zb (ZC (i:=4) sc_law_near.nd rfl (Or.inl rfl) (Zs (ZcD T) (hr.mono (by decide)) (by rfl) T.m_law_row T.F_law_row.kp T.b_law_row (E:=E0) ZH (Za (Zz 3) (Za (Zl Zg) Ze))))
   (Zb (ZaB (i:=5) sc_law_near.nd rfl (Or.inl rfl) (Zak Ze))
   (Zb (ZU PassesOwn.never rfl (Z5 (by rfl) T.n_range (Za (Zl (ZF Zab Zau (by rfl) T.n_len (by rfl) (Za (Zz 0) Ze))) Ze)) (Zx (i:=6) sc_law_near.nd rfl (Or.inl rfl))
   (Zb (Z7 (i:=5) rfl (by first | exact Or.inl rfl | exact Or.inr (Or.inl rfl)) (ZF (ZmD rfl) ZoR (by rfl) T.n_max (by rfl) (Za (Zl Zg) (Za (Zl (ZF (ZlY rfl) Zo8 (by rfl) T.n_min (by rfl) (Za (Zl (ZF Zab Zau (by rfl) T.n_len (by rfl) (Za (Zl (Zm (j_p (Zm (Zj 2) (Zj 6) (fun _ _=>rfl))) (j_p Zg) (fun _ _=>rfl))) Ze))) (Za (Zl (Zjp (j_p (ZQ (j_p (Zm (Zj 0) (Zj 6) (fun _ _=>rfl))) (j_p (ZS (j_p (Zm (Zj 4) (Zj 6) (fun _ _=>rfl))) (j_p Zg))))) (j_p (ZS (j_p (Zm (Zj 4) (j_p Zg) (fun _ _=>rfl))) (j_p Zg))))) Ze)))) Ze))))
   Zh))
   (Zb (ZI (Zm (j_p (Zcm (Zak (Za (Zl (Zav 1)) (Za (Zl (ZcW Zcg Ze2 (by rfl) T.n_tuple (by rfl) (Za (Zz 5) Ze))) Ze))))) (j_p (ZS (j_p (ZbI (j_p (Zm (Zj 4) (j_p Zg) (fun _ _=>rfl))) (j_p Zg))) (j_p Zg))) (fun _ _=>rfl)))
   Zh)))) ?_
 rfl
theorem Zkl:ZL ["key"] ["key"] (Zn Zbu):=⟨rfl,rfl,rfl,by decide +kernel,rfl,by decide +kernel,by decide +kernel⟩
theorem Zkq (T:Tx K mg d):FnOk P w K mg base CX0 3 d.a_key_rank d.d_key_rank ["key"] (spD K F_key_rank) :=
 by
 refine Z3 (N:=["key"]) (ps:=["key"]) T.F_key_rank Zkl (by decide) (g:=Zfi) (fun cdv A outer s H E M H0 hr=>?_)
 refine Z2 (Zb (ZI (ZcW Zcg Ze2 (by rfl) T.n_tuple (by rfl) (Za (Zl (Zcm (ZaP ["thing"] [] [] (show Zag ["thing"] [] _ (Zn Zbu) from ⟨rfl,by decide +kernel,by decide +kernel,by decide +kernel,by decide +kernel,by decide +kernel⟩) rfl rfl  (ZV (Zb9 0)) (fun _ _ _ _ _ _ _=>(Zx (i:=0) (show ((["thing"]:List Str)++([]:List Str)).Nodup by decide +kernel) rfl (Or.inl rfl))) (fun _ _ _ _ _ _ _=>Zaq) (fun _ _ _ _ _ _ _=>(Zs (ZiQ T) (hr.mono (by decide)) (by rfl) T.m_value_rank T.F_value_rank.kp T.b_value_rank (E:=E0) ZH (Za (Zz 0) Ze))) (by decide)))) Ze)))
   Zh) ?_
 rfl
theorem sc_apart_on:ZL ["ladder","kept_level","level","chosen","asked","firsts","line","first"] ["ladder","kept_level","level","chosen"] (Zn Zb7):=⟨rfl,rfl,rfl,by decide +kernel,rfl,by decide +kernel,by decide +kernel⟩
theorem Zkk (T:Tx K mg d):FnOk P w K mg base CX0 3 d.a_apart_on d.d_apart_on ["ladder","kept_level","level","chosen"] (spD K F_apart_on) :=
 by
 refine Z3 (N:=["ladder","kept_level","level","chosen","asked","firsts","line","first"]) (ps:=["ladder","kept_level","level","chosen"]) T.F_apart_on sc_apart_on (by decide) (g:=ZhM) (fun cdv A outer s H E M H0 hr=>?_)
 refine Z2 (Zb (ZC (i:=4) sc_apart_on.nd rfl (Or.inl rfl) (Zs (Zkg T) (hr.mono (by decide)) (by rfl) T.m_asked_of T.F_asked_of.kp T.b_asked_of (E:=E0) ZH (Za (Zz 0) (Za (Zz 2) (Za (Zz 3) Ze)))))
   (Zb (Zei (i:=5) sc_apart_on.nd rfl (Or.inl rfl) Zi4)
   (Zb (ZU PassesOwn.never rfl (ZV (Zb9 0)) (Zx (i:=6) sc_apart_on.nd rfl (Or.inl rfl))
   (Zb (Zl3 (i:=7) sc_apart_on.nd rfl (Or.inl rfl) (Zpn (i:=5) hr.units (j_p (Zs (Zfe T) (hr.mono (by decide)) (by rfl) T.m_line_at T.F_line_at.kp T.b_line_at (E:=E0) ZH (Za (Zz 6) (Za (Zz 1) Ze)))) (Zm (Zj 6) (j_p Zg) (fun _ _=>rfl))))
   (Zb (ZM (ZeW hr.units (j_p (Zhe hr.units (Zj 4) (Zj 7) (fun _ _=>rfl))) (j_p (Zhe hr.units (Zj 4) (j_p (Zm (Zj 6) (j_p Zg) (fun _ _=>rfl))) (fun _ _=>rfl))))
   (Zb (ZI (Z9 (Za (Zl (Zav 7)) (Za (Zl (Zm (Zj 6) (j_p Zg) (fun _ _=>rfl))) Ze))))
   Zh)
   Zh)
   Zh)))
   (Zb (ZI ZcP)
   Zh)))) ?_
 rfl
theorem sc_law_ladder:ZL ["_law_cell","_law_most","_law_row_here","_law_first","_law_k","_law_lines","_law_place","_law_parents","_law_known","_law_value","_law_at_here","_law_way"] ["_law_cell","_law_most"] (Zn ZaE):=⟨rfl,rfl,rfl,by decide +kernel,rfl,by decide +kernel,by decide +kernel⟩
theorem ZiS (T:Tx K mg d):FnOk P w K mg base CX0 3 d.a_law_ladder d.d_law_ladder ["_law_cell","_law_most"] (spD K F_law_ladder) :=
 by
 refine Z3 (N:=["_law_cell","_law_most","_law_row_here","_law_first","_law_k","_law_lines","_law_place","_law_parents","_law_known","_law_value","_law_at_here","_law_way"]) (ps:=["_law_cell","_law_most"]) T.F_law_ladder sc_law_ladder (by decide) (g:=Zgo) (fun cdv A outer s H E M H0 hr=>?_)
 refine Z2 (Zb (ZC (i:=2) sc_law_ladder.nd rfl (Or.inl rfl) (Zs (ZcD T) (hr.mono (by decide)) (by rfl) T.m_law_row T.F_law_row.kp T.b_law_row (E:=E0) ZH (Za (Zz 0) (Za (Zl Zg) Ze))))
   (Zb (ZaB (i:=3) sc_law_ladder.nd rfl (Or.inl rfl) (Zak Ze))
   (Zb (ZU PassesOwn.never rfl (Z5 (by rfl) T.n_range (Za (Zl (ZQ (j_p Zg) (j_p (ZS (j_p (Zm (Zj 2) (j_p Zg) (fun _ _=>rfl))) (Zj 1))))) Ze)) (Zx (i:=4) sc_law_ladder.nd rfl (Or.inl rfl))
   (Zb (Z7 (i:=3) rfl (by first | exact Or.inl rfl | exact Or.inr (Or.inl rfl)) (Zs (Zgq T) (hr.mono (by decide)) (by rfl) T.m_law_fresh T.F_law_fresh.kp T.b_law_fresh (E:=E0) ZH (Za (Zl (Zm (Zj 2) (j_p (ZQ (j_p Zg) (Zj 4))) (fun _ _=>rfl))) (Za (Zz 3) Ze))))
   Zh))
   (Zb (Zju 3 (ZaZ (i:=5) ["_law_value"] [] [] (show Zag ["_law_value"] [] _ (Zn ZaE) from ⟨rfl,by decide +kernel,by decide +kernel,by decide +kernel,by decide +kernel,by decide +kernel⟩) rfl rfl sc_law_ladder.nd rfl rfl (ZV (Zb9 3)) (fun _ _ _ _ _ _ _=>(Zx (i:=0) (show ((["_law_value"]:List Str)++([]:List Str)).Nodup by decide +kernel) rfl (Or.inl rfl))) (fun _ _ _ _ _ _ _=>Zaq) (fun _ _ _ _ _ _ _=>(Z9 (Za (Zl (Zav 0)) Ze))) (by decide)))
   (Zb (ZU PassesOwn.never rfl (Z5 (by rfl) T.n_range (Za (Zl (ZS (j_p (Zm (Zj 2) (j_p Zg) (fun _ _=>rfl))) (j_p Zg))) Ze)) (Zx (i:=6) sc_law_ladder.nd rfl (Or.inl rfl))
   (Zb (Zei (i:=7) sc_law_ladder.nd rfl (Or.inr rfl) Zi4)
   (Zb (ZaB (i:=8) sc_law_ladder.nd rfl (Or.inl rfl) (Zak Ze))
   (Zb (ZU PassesOwn.never rfl (ZiA (by rfl) T.n_enumerate (j_q (Zs (ZjI T) (hr.mono (by decide)) (by rfl) T.m_law_lasts T.F_law_lasts.kp T.b_law_lasts (E:=E0) ZH (Za (Zz 5) Ze)))) (Zfg (n:=2) rfl (ZaA (Zx (i:=4) sc_law_ladder.nd rfl (Or.inl rfl)) (ZaA (Zx (i:=9) sc_law_ladder.nd rfl (Or.inl rfl)) Zd8)))
   (Zb (ZC (i:=10) sc_law_ladder.nd rfl (Or.inl rfl) (ZQ (j_p (ZQ (j_p Zg) (j_p (Zay (j_p Zg) (Zj 6))))) (j_p (Zay (j_p Zg) (Zj 4)))))
   (Zb (ZC (i:=11) sc_law_ladder.nd rfl (Or.inl rfl) (ZS (j_p (Zm (Zj 2) (Zj 10) (fun _ _=>rfl))) (j_p (ZQ (j_p (ZF Zab Zau (by rfl) T.n_len (by rfl) (Za (Zz 8) Ze))) (j_p Zg)))))
   (Zb (ZM (Za6 hr.units (Zj 11) (j_p (ZF Zab Zau (by rfl) T.n_len (by rfl) (Za (Zz 8) Ze))))
   (Zb (Z7 (i:=8) rfl (by first | exact Or.inl rfl | exact Or.inr (Or.inl rfl)) (Zs (Zgq T) (hr.mono (by decide)) (by rfl) T.m_law_fresh T.F_law_fresh.kp T.b_law_fresh (E:=E0) ZH (Za (Zl (Zm (Zj 2) (j_p (ZQ (Zj 10) (j_p Zg))) (fun _ _=>rfl))) (Za (Zz 8) Ze))))
   Zh)
   Zh)
   (Zb (Zii (i:=7) hr.units (Zj 9) (Zm (Zj 8) (Zj 11) (fun _ _=>rfl)))
   Zh)))))
   (Zb (ZaZ (i:=5) ["_law_line"] ["_law_parents"] [7] (show Zag ["_law_line"] ["_law_parents"] _ (Zn ZaE) from ⟨rfl,by decide +kernel,by decide +kernel,by decide +kernel,by decide +kernel,by decide +kernel⟩) rfl rfl sc_law_ladder.nd rfl rfl (ZV (Zb9 5)) (fun _ _ _ _ _ _ _=>(Zx (i:=0) (show ((["_law_line"]:List Str)++(["_law_parents"]:List Str)).Nodup by decide +kernel) rfl (Or.inl rfl))) (fun _ _ _ _ _ _ _=>Zaq) (fun _ _ _ _ _ _ _=>(ZQ (Zj 0) (j_p (Z9 (Za (Zl (Zhe hr.units (Zj 1) (j_p (Zm (Zj 0) (j_p (Zfj (j_p Zg))) (fun _ _=>rfl))) (fun _ _=>rfl))) Ze))))) (by decide))
   Zh)))))
   (Zb (ZI (Zav 5))
   Zh)))))) ?_
 rfl
theorem sc_law_pick:ZL ["_law_cell","_law_ladders","_law_row_here","_law_axis","_law_upper","_law_lower","_law_above","_law_values","_law_line"] ["_law_cell","_law_ladders"] (Zn Zbp):=⟨rfl,rfl,rfl,by decide +kernel,rfl,by decide +kernel,by decide +kernel⟩
theorem Zko (T:Tx K mg d):FnOk P w K mg base CX0 3 d.a_law_pick d.d_law_pick ["_law_cell","_law_ladders"] (spD K F_law_pick) :=
 by
 refine Z3 (N:=["_law_cell","_law_ladders","_law_row_here","_law_axis","_law_upper","_law_lower","_law_above","_law_values","_law_line"]) (ps:=["_law_cell","_law_ladders"]) T.F_law_pick sc_law_pick (by decide) (g:=ZhB) (fun cdv A outer s H E M H0 hr=>?_)
 refine Z2 (Zb (ZC (i:=2) sc_law_pick.nd rfl (Or.inr rfl) (Zs (ZcD T) (hr.mono (by decide)) (by rfl) T.m_law_row T.F_law_row.kp T.b_law_row (E:=E0) ZH (Za (Zz 0) (Za (Zl Zg) Ze))))
   (Zb (ZC (i:=3) sc_law_pick.nd rfl (Or.inl rfl) (ZS (j_p (Zm (Zj 2) (j_p Zg) (fun _ _=>rfl))) (j_p (ZF Zab Zau (by rfl) T.n_len (by rfl) (Za (Zz 1) Ze)))))
   (Zb (ZC (i:=4) sc_law_pick.nd rfl (Or.inl rfl) (ZS (j_p (Zm (Zj 2) (j_p Zg) (fun _ _=>rfl))) (j_p (ZQ (j_p (ZF Zab Zau (by rfl) T.n_len (by rfl) (Za (Zl (Zm (j_p (Zm (Zj 1) (Zj 3) (fun _ _=>rfl))) (j_p Zg) (fun _ _=>rfl))) Ze))) (j_p Zg)))))
   (Zb (ZC (i:=5) sc_law_pick.nd rfl (Or.inl rfl) (Zav 4))
   (Zb (ZM (Za6 hr.units (j_p (ZS (j_p (Zm (Zj 2) (j_p Zg) (fun _ _=>rfl))) (j_p Zg))) (j_p Zg))
   (Zb (ZC (i:=5) sc_law_pick.nd rfl (Or.inl rfl) (ZS (j_p (Zm (Zj 2) (j_p Zg) (fun _ _=>rfl))) (j_p (ZQ (Zj 4) (j_p Zg)))))
   Zh)
   Zh)
   (Zb (ZC (i:=6) sc_law_pick.nd rfl (Or.inr rfl) (Zs (Zhg T) (hr.mono (by decide)) (by rfl) T.m_law_values_at T.F_law_values_at.kp T.b_law_values_at (E:=E0) ZH (Za (Zl (Zm (Zj 1) (Zj 3) (fun _ _=>rfl))) (Za (Zz 4) Ze))))
   (Zb (ZC (i:=6) sc_law_pick.nd rfl (Or.inr rfl) (Zcm (ZaP ["_law_k"] ["_law_above","_law_row_here"] [6,2] (show Zag ["_law_k"] ["_law_above","_law_row_here"] _ (Zn Zbp) from ⟨rfl,by decide +kernel,by decide +kernel,by decide +kernel,by decide +kernel,by decide +kernel⟩) rfl rfl  (Z5 (by rfl) T.n_range (Za (Zl (ZF Zab Zau (by rfl) T.n_len (by rfl) (Za (Zz 6) Ze))) Ze)) (fun _ _ _ _ _ _ _=>(Zx (i:=0) (show ((["_law_k"]:List Str)++(["_law_above","_law_row_here"]:List Str)).Nodup by decide +kernel) rfl (Or.inl rfl))) (fun _ _ _ _ _ _ _=>(Zj6 (Za6 hr.units (j_p (ZS (j_p (Zm (Zj 2) (j_p (ZQ (j_p Zg) (Zj 0))) (fun _ _=>rfl))) (j_p Zg))) (j_p Zg)))) (fun _ _ _ _ _ _ _=>(Zm (Zj 1) (Zj 0) (fun _ _=>rfl))) (by decide))))
   (Zb (ZaB (i:=7) sc_law_pick.nd rfl (Or.inl rfl) (Zak Ze))
   (Zb (ZU PassesOwn.never rfl (ZV (j_q (Zm (Zj 1) (Zj 3) (fun _ _=>rfl)))) (Zx (i:=8) sc_law_pick.nd rfl (Or.inl rfl))
   (Zb (ZM (Zfn (ZeN (Ze7 hr.units (j_p (Zs (ZaO T) (hr.mono (by decide)) (by rfl) T.m_law_at T.F_law_at.kp T.b_law_at (E:=E0) ZH (Za (Zz 8) (Za (Zz 4) Ze)))) (Zj 6)) (Zeg (ZcZ hr.units (j_p (Zs (ZaO T) (hr.mono (by decide)) (by rfl) T.m_law_at T.F_law_at.kp T.b_law_at (E:=E0) ZH (Za (Zz 8) (Za (Zz 5) Ze)))) (Zj 7)))))
   (Zb (Z7 (i:=7) rfl (by first | exact Or.inl rfl | exact Or.inr (Or.inl rfl)) (Zs (ZaO T) (hr.mono (by decide)) (by rfl) T.m_law_at T.F_law_at.kp T.b_law_at (E:=E0) ZH (Za (Zz 8) (Za (Zz 5) Ze))))
   Zh)
   Zh)
   Zh))
   (Zb (ZM (Za6 hr.units (j_p (ZS (j_p (Zm (Zj 2) (j_p Zg) (fun _ _=>rfl))) (j_p Zg))) (j_p Zg))
   (Zb (Zkn (i:=7) (j_p (ZS (j_p (Zm (Zj 2) (j_p Zg) (fun _ _=>rfl))) (j_p (ZQ (j_p (ZF Zab Zau (by rfl) T.n_len (by rfl) (Za (Zz 7) Ze))) (j_p Zg))))) (Zs (Zdv T) (hr.mono (by decide)) (by rfl) T.m_law_thing T.F_law_thing.kp T.b_law_thing (E:=E0) ZH (Za (Zl (Zm (Zj 2) (j_p Zg) (fun _ _=>rfl))) Ze)))
   Zh)
   Zh)
   (Zb (ZM (Za6 hr.units (j_p (ZS (j_p (Zm (Zj 2) (j_p Zg) (fun _ _=>rfl))) (j_p Zg))) (j_p Zg))
   (Zb (ZI (Z9 (Za (Zl (Zav 3)) (Za (Zl (Zav 5)) (Za (Zl (ZcW Zcg Ze2 (by rfl) T.n_tuple (by rfl) (Za (Zz 7) Ze))) Ze)))))
   Zh)
   Zh)
   (Zb (Zju 7 (ZI (Z9 (Za (Zl (Zav 3)) (Za (Zl (Zav 5)) (Za (Zl (Zav 7)) Ze))))))
   Zh)))))))))))) ?_
 rfl
theorem sc_law_pairs:ZL ["_law_ladders","_law_kept","_law_goal","_law_picks","_law_somes","_law_pairs_here","_law_axis","_law_one","_law_other","_law_alike","_law_mine","_law_yours","_law_unlike"] ["_law_ladders","_law_kept","_law_goal","_law_picks"] (Zn Za5):=⟨rfl,rfl,rfl,by decide +kernel,rfl,by decide +kernel,by decide +kernel⟩
theorem Zgw (T:Tx K mg d):FnOk P w K mg base CX0 3 d.a_law_pairs d.d_law_pairs ["_law_ladders","_law_kept","_law_goal","_law_picks"] (spD K F_law_pairs) :=
 by
 refine Z3 (N:=["_law_ladders","_law_kept","_law_goal","_law_picks","_law_somes","_law_pairs_here","_law_axis","_law_one","_law_other","_law_alike","_law_mine","_law_yours","_law_unlike"]) (ps:=["_law_ladders","_law_kept","_law_goal","_law_picks"]) T.F_law_pairs sc_law_pairs (by decide) (g:=Zha) (fun cdv A outer s H E M H0 hr=>?_)
 refine Z2 (Zb (ZaZ (i:=4) ["_law_axis"] ["_law_ladders","_law_picks"] [0,3] (show Zag ["_law_axis"] ["_law_ladders","_law_picks"] _ (Zn Za5) from ⟨rfl,by decide +kernel,by decide +kernel,by decide +kernel,by decide +kernel,by decide +kernel⟩) rfl rfl sc_law_pairs.nd rfl rfl (Z5 (by rfl) T.n_range (Za (Zl (ZF Zab Zau (by rfl) T.n_len (by rfl) (Za (Zz 0) Ze))) Ze)) (fun _ _ _ _ _ _ _=>(Zx (i:=0) (show ((["_law_axis"]:List Str)++(["_law_ladders","_law_picks"]:List Str)).Nodup by decide +kernel) rfl (Or.inl rfl))) (fun _ _ _ _ _ _ _=>Zaq) (fun _ _ _ _ _ _ _=>(Zs (Zkd T) (hr.mono (by decide)) (by rfl) T.m_law_some T.F_law_some.kp T.b_law_some (E:=E0) ZH (Za (Zz 1) (Za (Zz 2) (Za (Zz 0) Ze))))) (by decide))
   (Zb (ZaB (i:=5) sc_law_pairs.nd rfl (Or.inl rfl) (Zak Ze))
   (Zb (ZM (Ze7 hr.units (j_p (Zcm (Zak Ze))) (Zj 4))
   (Zb (Zc0 5)
   Zh)
   Zh)
   (Zb (ZU PassesOwn.never rfl (Z5 (by rfl) T.n_range (Za (Zl (ZF Zab Zau (by rfl) T.n_len (by rfl) (Za (Zz 0) Ze))) Ze)) (Zx (i:=6) sc_law_pairs.nd rfl (Or.inl rfl))
   (Zb (ZU PassesOwn.never rfl (ZV (j_q (Zm (Zj 0) (Zj 6) (fun _ _=>rfl)))) (Zx (i:=7) sc_law_pairs.nd rfl (Or.inl rfl))
   (Zb (ZU PassesOwn.never rfl (ZV (j_q (Zm (Zj 0) (Zj 6) (fun _ _=>rfl)))) (Zx (i:=8) sc_law_pairs.nd rfl (Or.inl rfl))
   (Zb (ZC (i:=9) sc_law_pairs.nd rfl (Or.inl rfl) (Zh3 hr.units (j_p (Zs (ZaO T) (hr.mono (by decide)) (by rfl) T.m_law_at T.F_law_at.kp T.b_law_at (E:=E0) ZH (Za (Zz 7) (Za (Zl (Zm (Zj 1) (Zj 6) (fun _ _=>rfl))) Ze)))) (j_p (Zs (ZaO T) (hr.mono (by decide)) (by rfl) T.m_law_at T.F_law_at.kp T.b_law_at (E:=E0) ZH (Za (Zz 8) (Za (Zl (Zm (Zj 1) (Zj 6) (fun _ _=>rfl))) Ze))))))
   (Zb (ZC (i:=10) sc_law_pairs.nd rfl (Or.inl rfl) (ZhU hr.units (j_p (Zm (Zj 7) (j_p Zg) (fun _ _=>rfl))) (j_p (Zm (Zj 4) (Zj 6) (fun _ _=>rfl)))))
   (Zb (ZC (i:=11) sc_law_pairs.nd rfl (Or.inl rfl) (ZhU hr.units (j_p (Zm (Zj 8) (j_p Zg) (fun _ _=>rfl))) (j_p (Zm (Zj 4) (Zj 6) (fun _ _=>rfl)))))
   (Zb (ZC (i:=12) sc_law_pairs.nd rfl (Or.inl rfl) (Zoo hr.units (j_p (Zs (ZaO T) (hr.mono (by decide)) (by rfl) T.m_law_at T.F_law_at.kp T.b_law_at (E:=E0) ZH (Za (Zz 7) (Za (Zl (Zm (Zj 2) (Zj 6) (fun _ _=>rfl))) Ze)))) (j_p (Zs (ZaO T) (hr.mono (by decide)) (by rfl) T.m_law_at T.F_law_at.kp T.b_law_at (E:=E0) ZH (Za (Zz 8) (Za (Zl (Zm (Zj 2) (Zj 6) (fun _ _=>rfl))) Ze))))))
   (Zb (ZM (Zfn (ZeN (Zal (Zj 9)) (Zeg (Zfn (Zer (ZeW hr.units (Zj 10) (Zj 11)) (Zdt (Zfn (ZeN (Zal (Zj 10)) (Zeg (Zal (Zj 12)))))))))))
   (Zb (Z7 (i:=5) rfl (by first | exact Or.inl rfl | exact Or.inr (Or.inl rfl)) (Z9 (Za (Zl (Zav 6)) (Za (Zl (Zm (Zj 7) (j_p Zg) (fun _ _=>rfl))) (Za (Zl (Zm (Zj 8) (j_p Zg) (fun _ _=>rfl))) Ze)))))
   Zh)
   Zh)
   Zh))))))
   Zh))
   Zh))
   (Zb (Zc0 5)
   Zh))))) ?_
 rfl
theorem sc_in_order:ZL ["keys","told","key"] ["keys"] (Zn Zb1):=⟨rfl,rfl,rfl,by decide +kernel,rfl,by decide +kernel,by decide +kernel⟩
theorem Zkf (T:Tx K mg d):FnOk P w K mg base CX0 6 d.a_in_order d.d_in_order ["keys"] (spD K F_in_order) :=
 by
 refine Z3 (N:=["keys","told","key"]) (ps:=["keys"]) T.F_in_order sc_in_order (by decide) (g:=Zdj) (fun cdv A outer s H E M H0 hr=>?_)
 refine Z2 (Zb (ZaB (i:=1) sc_in_order.nd rfl (Or.inl rfl) (Zak Ze))
   (Zb (ZU PassesOwn.never rfl (ZV (j_q (Zcm (Zlz (Zkq T) (hr.mono (by decide)) (by rfl) T.n_sorted (by rfl) (by rfl) T.m_key_rank T.b_key_rank (Zj 0))))) (Zx (i:=2) sc_in_order.nd rfl (Or.inl rfl))
   (Zb (ZM (Zfn (Zer (Zcl (Zal (Zj 1))) (Zdt (ZeW hr.units (j_p (Zm (Zj 1) (j_p (Zfj (j_p Zg))) (fun _ _=>rfl))) (Zj 2)))))
   (Zb (Z7 (i:=1) rfl (by first | exact Or.inl rfl | exact Or.inr (Or.inl rfl)) (Zav 2))
   Zh)
   Zh)
   Zh))
   (Zb (Zc0 1)
   Zh))) ?_
 rfl
theorem ZgG:ZL ["values"] ["values"] (Zn Z8):=⟨rfl,rfl,rfl,by decide +kernel,rfl,by decide +kernel,by decide +kernel⟩
theorem Zgm (T:Tx K mg d):FnOk P w K mg base CX0 7 d.a_values_in_order d.d_values_in_order ["values"] (spD K F_values_in_order) :=
 by
 refine Z3 (N:=["values"]) (ps:=["values"]) T.F_values_in_order ZgG (by decide) (g:=Zbc) (fun cdv A outer s H E M H0 hr=>?_)
 refine Z2 (Zb (ZfZ (ZaP ["key"] [] [] (show Zag ["key"] [] _ (Zn Z8) from ⟨rfl,by decide +kernel,by decide +kernel,by decide +kernel,by decide +kernel,by decide +kernel⟩) rfl rfl  (ZV (j_q (Zs (Zkf T) (hr.mono (by decide)) (by rfl) T.m_in_order T.F_in_order.kp T.b_in_order (E:=E0) ZH (Za (Zl (Zcm (ZaP ["value"] [] [] (show Zag ["value"] [] _ (Zn Z8) from ⟨rfl,by decide +kernel,by decide +kernel,by decide +kernel,by decide +kernel,by decide +kernel⟩) rfl rfl  (ZV (Zb9 0)) (fun _ _ _ _ _ _ _=>(Zx (i:=0) (show ((["value"]:List Str)++([]:List Str)).Nodup by decide +kernel) rfl (Or.inl rfl))) (fun _ _ _ _ _ _ _=>Zaq) (fun _ _ _ _ _ _ _=>(Z9 (Za (Zl (Zav 0)) Ze))) (by decide)))) Ze)))) (fun _ _ _ _ _ _ _=>(Zx (i:=0) (show ((["key"]:List Str)++([]:List Str)).Nodup by decide +kernel) rfl (Or.inl rfl))) (fun _ _ _ _ _ _ _=>Zaq) (fun _ _ _ _ _ _ _=>(Zm (Zj 0) (j_p Zg) (fun _ _=>rfl))) (by decide)))
   Zh) ?_
 rfl
theorem sc_picked:ZL ["ladders","picks","axis","lines","pick","among"] ["ladders","picks","axis"] (Zn Zbt):=⟨rfl,rfl,rfl,by decide +kernel,rfl,by decide +kernel,by decide +kernel⟩
theorem ZmC (T:Tx K mg d):FnOk P w K mg base CX0 8 d.a_picked d.d_picked ["ladders","picks","axis"] (spD K F_picked) :=
 by
 refine Z3 (N:=["ladders","picks","axis","lines","pick","among"]) (ps:=["ladders","picks","axis"]) T.F_picked sc_picked (by decide) (g:=Zfd) (fun cdv A outer s H E M H0 hr=>?_)
 refine Z2 (Zb (ZC (i:=3) sc_picked.nd rfl (Or.inl rfl) (Zm (Zj 0) (Zj 2) (fun _ _=>rfl)))
   (Zb (ZU PassesOwn.never rfl (ZV (Zb9 1)) (Zx (i:=4) sc_picked.nd rfl (Or.inr rfl))
   (Zb (ZM (Za6 hr.units (j_p (Zm (Zj 4) (j_p Zg) (fun _ _=>rfl))) (Zj 2))
   (Zb (Zei (i:=5) sc_picked.nd rfl (Or.inr rfl) (ZkE rfl hr.units (by rfl) T.n_dict (j_p (Zcm (ZaP ["value"] [] [] (show Zag ["value"] [] _ (Zn Zbt) from ⟨rfl,by decide +kernel,by decide +kernel,by decide +kernel,by decide +kernel,by decide +kernel⟩) rfl rfl  (ZV (j_q (Zm (Zj 4) (j_p Zg) (fun _ _=>rfl)))) (fun _ _ _ _ _ _ _=>(Zx (i:=0) (show ((["value"]:List Str)++([]:List Str)).Nodup by decide +kernel) rfl (Or.inl rfl))) (fun _ _ _ _ _ _ _=>Zaq) (fun _ _ _ _ _ _ _=>(Z9 (Za (Zl (Zav 0)) (Za (Zl ZbX) Ze)))) (by decide))))))
   (Zb (ZaZ (i:=3) ["line"] ["pick","among"] [4,5] (show Zag ["line"] ["pick","among"] _ (Zn Zbt) from ⟨rfl,by decide +kernel,by decide +kernel,by decide +kernel,by decide +kernel,by decide +kernel⟩) rfl rfl sc_picked.nd rfl rfl (ZV (Zb9 3)) (fun _ _ _ _ _ _ _=>(Zx (i:=0) (show ((["line"]:List Str)++(["pick","among"]:List Str)).Nodup by decide +kernel) rfl (Or.inl rfl))) (fun _ _ _ _ _ _ _=>(Zj6 (ZlN hr.units (j_p (Zs (Zfe T) (hr.mono (by decide)) (by rfl) T.m_line_at T.F_line_at.kp T.b_line_at (E:=E0) ZH (Za (Zz 0) (Za (Zl (Zm (Zj 1) (j_p Zg) (fun _ _=>rfl))) Ze)))) (Zj 2)))) (fun _ _ _ _ _ _ _=>(Zav 0)) (by decide))
   Zh))
   Zh)
   Zh))
   (Zb (ZfZ (ZlW (Zgm T) (hr.mono (by decide)) (by rfl) T.m_values_in_order T.F_values_in_order.kp T.b_values_in_order (E:=E0) ZH (Za (Zl (Zcm (ZaP ["line"] [] [] (show Zag ["line"] [] _ (Zn Zbt) from ⟨rfl,by decide +kernel,by decide +kernel,by decide +kernel,by decide +kernel,by decide +kernel⟩) rfl rfl  (ZV (Zb9 3)) (fun _ _ _ _ _ _ _=>(Zx (i:=0) (show ((["line"]:List Str)++([]:List Str)).Nodup by decide +kernel) rfl (Or.inl rfl))) (fun _ _ _ _ _ _ _=>Zaq) (fun _ _ _ _ _ _ _=>(Zm (Zj 0) (j_p Zg) (fun _ _=>rfl))) (by decide)))) Ze)))
   Zh))) ?_
 rfl
theorem ZeM:ZL ["ladders","picks"] ["ladders","picks"] (Zn Zaa):=⟨rfl,rfl,rfl,by decide +kernel,rfl,by decide +kernel,by decide +kernel⟩
theorem Ze4 (T:Tx K mg d):FnOk P w K mg base CX0 9 d.a_picked_everywhere d.d_picked_everywhere ["ladders","picks"] (spD K F_picked_everywhere) :=
 by
 refine Z3 (N:=["ladders","picks"]) (ps:=["ladders","picks"]) T.F_picked_everywhere ZeM (by decide) (g:=ZaU) (fun cdv A outer s H E M H0 hr=>?_)
 refine Z2 (Zb (ZfZ (ZaP ["axis"] ["ladders","picks"] [0,1] (show Zag ["axis"] ["ladders","picks"] _ (Zn Zaa) from ⟨rfl,by decide +kernel,by decide +kernel,by decide +kernel,by decide +kernel,by decide +kernel⟩) rfl rfl  (Z5 (by rfl) T.n_range (Za (Zl (ZF Zab Zau (by rfl) T.n_len (by rfl) (Za (Zz 0) Ze))) Ze)) (fun _ _ _ _ _ _ _=>(Zx (i:=0) (show ((["axis"]:List Str)++(["ladders","picks"]:List Str)).Nodup by decide +kernel) rfl (Or.inl rfl))) (fun _ _ _ _ _ _ _=>Zaq) (fun _ _ _ _ _ _ _=>(Zs (ZmC T) (hr.mono (by decide)) (by rfl) T.m_picked T.F_picked.kp T.b_picked (E:=E0) ZH (Za (Zz 1) (Za (Zz 2) (Za (Zz 0) Ze))))) (by decide)))
   Zh) ?_
 rfl
theorem sc_apart:ZL ["ladders","kept","grain","picks","chosen","axis","ladder","two"] ["ladders","kept","grain","picks"] (Zn Zdo):=⟨rfl,rfl,rfl,by decide +kernel,rfl,by decide +kernel,by decide +kernel⟩
theorem Zhd (T:Tx K mg d):FnOk P w K mg base CX0 10 d.a_apart d.d_apart ["ladders","kept","grain","picks"] (spD K F_apart) :=
 by
 refine Z3 (N:=["ladders","kept","grain","picks","chosen","axis","ladder","two"]) (ps:=["ladders","kept","grain","picks"]) T.F_apart sc_apart (by decide) (g:=ZkP) (fun cdv A outer s H E M H0 hr=>?_)
 refine Z2 (Zb (ZC (i:=4) sc_apart.nd rfl (Or.inl rfl) (Zs (Ze4 T) (hr.mono (by decide)) (by rfl) T.m_picked_everywhere T.F_picked_everywhere.kp T.b_picked_everywhere (E:=E0) ZH (Za (Zz 0) (Za (Zz 3) Ze))))
   (Zb (ZM (Ze7 hr.units (j_p (Zcm (Zak Ze))) (Zj 4))
   (Zb (ZI ZcP)
   Zh)
   Zh)
   (Zb (ZU PassesOwn.never rfl (ZiA (by rfl) T.n_enumerate (Zb9 0)) (Zfg (n:=2) rfl (ZaA (Zx (i:=5) sc_apart.nd rfl (Or.inl rfl)) (ZaA (Zx (i:=6) sc_apart.nd rfl (Or.inl rfl)) Zd8)))
   (Zb (ZC (i:=7) sc_apart.nd rfl (Or.inl rfl) (Zs (Zkk T) (hr.mono (by decide)) (by rfl) T.m_apart_on T.F_apart_on.kp T.b_apart_on (E:=E0) ZH (Za (Zz 6) (Za (Zl (Zm (Zj 1) (Zj 5) (fun _ _=>rfl))) (Za (Zl (Zm (Zj 2) (Zj 5) (fun _ _=>rfl))) (Za (Zl (Zm (Zj 4) (Zj 5) (fun _ _=>rfl))) Ze))))))
   (Zb (ZM (Zmt (Zj 7))
   (Zb (ZI (Z9 (Za (Zl (Zav 5)) (Za (Zl (Zm (Zj 7) (j_p Zg) (fun _ _=>rfl))) (Za (Zl (Zm (Zj 7) (j_p Zg) (fun _ _=>rfl))) Ze)))))
   Zh)
   Zh)
   Zh)))
   (Zb (ZI ZcP)
   Zh)))) ?_
 rfl
theorem sc_law:ZL ["_law_script","_law_way","_law_ladders","_law_whole","_law_kept","_law_goal","_law_picks","_law_handed","_law_pairs_here"] ["_law_script"] (Zn Zdg):=⟨rfl,rfl,rfl,by decide +kernel,rfl,by decide +kernel,by decide +kernel⟩
theorem ZqR (T:Tx K mg d):FnOk P w K mg base CX0 11 d.a_law d.d_law ["_law_script"] (spD K F_law) :=
 by
 refine Z3 (N:=["_law_script","_law_way","_law_ladders","_law_whole","_law_kept","_law_goal","_law_picks","_law_handed","_law_pairs_here"]) (ps:=["_law_script"]) T.F_law sc_law (by decide) (g:=ZnP) (fun cdv A outer s H E M H0 hr=>?_)
 refine Z2 (Zb (ZC (i:=1) sc_law.nd rfl (Or.inl rfl) (Zs (ZcD T) (hr.mono (by decide)) (by rfl) T.m_law_row T.F_law_row.kp T.b_law_row (E:=E0) ZH (Za (Zl (Zs (ZaQ T) (hr.mono (by decide)) (by rfl) T.m_law_cell_at T.F_law_cell_at.kp T.b_law_cell_at (E:=E0) ZH (Za (Zz 0) (Za (Zl Zg) Ze)))) (Za (Zl Zg) Ze))))
   (Zb (ZaZ (i:=2) ["_law_k"] ["_law_script"] [0] (show Zag ["_law_k"] ["_law_script"] _ (Zn Zdg) from ⟨rfl,by decide +kernel,by decide +kernel,by decide +kernel,by decide +kernel,by decide +kernel⟩) rfl rfl sc_law.nd rfl rfl (Z5 (by rfl) T.n_range (Za (Zl (ZQ (j_p Zg) (j_p (ZS (j_p (Zm (Zj 1) (j_p Zg) (fun _ _=>rfl))) (j_p Zg))))) Ze)) (fun _ _ _ _ _ _ _=>(Zx (i:=0) (show ((["_law_k"]:List Str)++(["_law_script"]:List Str)).Nodup by decide +kernel) rfl (Or.inl rfl))) (fun _ _ _ _ _ _ _=>Zaq) (fun _ _ _ _ _ _ _=>(Zs (ZiS T) (hr.mono (by decide)) (by rfl) T.m_law_ladder T.F_law_ladder.kp T.b_law_ladder (E:=E0) ZH (Za (Zl (Zs (ZaQ T) (hr.mono (by decide)) (by rfl) T.m_law_cell_at T.F_law_cell_at.kp T.b_law_cell_at (E:=E0) ZH (Za (Zz 1) (Za (Zl (ZQ (j_p Zg) (Zj 0))) Ze)))) (Za (Zl Zg) Ze)))) (by decide))
   (Zb (ZC (i:=3) sc_law.nd rfl (Or.inr rfl) (Zcm (ZaP ["_law_ladder_here"] [] [] (show Zag ["_law_ladder_here"] [] _ (Zn Zdg) from ⟨rfl,by decide +kernel,by decide +kernel,by decide +kernel,by decide +kernel,by decide +kernel⟩) rfl rfl  (ZV (Zb9 2)) (fun _ _ _ _ _ _ _=>(Zx (i:=0) (show ((["_law_ladder_here"]:List Str)++([]:List Str)).Nodup by decide +kernel) rfl (Or.inl rfl))) (fun _ _ _ _ _ _ _=>Zaq) (fun _ _ _ _ _ _ _=>(Zcm (Zg2 Zgy ZkZ (by rfl) T.n_list (by rfl) (Za (Zz 0) Ze)))) (by decide))))
   (Zb (ZC (i:=4) sc_law.nd rfl (Or.inl rfl) (Zs (ZfV T) (hr.mono (by decide)) (by rfl) T.m_law_grain T.F_law_grain.kp T.b_law_grain (E:=E0) ZH (Za (Zl (Zs (ZaQ T) (hr.mono (by decide)) (by rfl) T.m_law_cell_at T.F_law_cell_at.kp T.b_law_cell_at (E:=E0) ZH (Za (Zz 0) (Za (Zl Zg) Ze)))) (Za (Zz 3) Ze))))
   (Zb (ZC (i:=5) sc_law.nd rfl (Or.inl rfl) (Zs (Zkm T) (hr.mono (by decide)) (by rfl) T.m_law_near T.F_law_near.kp T.b_law_near (E:=E0) ZH (Za (Zz 4) (Za (Zl (Zs (ZfV T) (hr.mono (by decide)) (by rfl) T.m_law_grain T.F_law_grain.kp T.b_law_grain (E:=E0) ZH (Za (Zl (Zs (ZaQ T) (hr.mono (by decide)) (by rfl) T.m_law_cell_at T.F_law_cell_at.kp T.b_law_cell_at (E:=E0) ZH (Za (Zz 0) (Za (Zl Zg) Ze)))) (Za (Zz 3) Ze)))) (Za (Zz 3) (Za (Zl (Zs (ZaQ T) (hr.mono (by decide)) (by rfl) T.m_law_cell_at T.F_law_cell_at.kp T.b_law_cell_at (E:=E0) ZH (Za (Zz 0) (Za (Zl Zg) Ze)))) Ze))))))
   (Zb (ZaZ (i:=6) ["_law_k"] ["_law_script","_law_whole"] [0,3] (show Zag ["_law_k"] ["_law_script","_law_whole"] _ (Zn Zdg) from ⟨rfl,by decide +kernel,by decide +kernel,by decide +kernel,by decide +kernel,by decide +kernel⟩) rfl rfl sc_law.nd rfl rfl (Z5 (by rfl) T.n_range (Za (Zl (ZS (j_p (Zm (Zj 1) (j_p Zg) (fun _ _=>rfl))) (j_p Zg))) Ze)) (fun _ _ _ _ _ _ _=>(Zx (i:=0) (show ((["_law_k"]:List Str)++(["_law_script","_law_whole"]:List Str)).Nodup by decide +kernel) rfl (Or.inl rfl))) (fun _ _ _ _ _ _ _=>Zaq) (fun _ _ _ _ _ _ _=>(Zs (Zko T) (hr.mono (by decide)) (by rfl) T.m_law_pick T.F_law_pick.kp T.b_law_pick (E:=E0) ZH (Za (Zl (Zs (ZaQ T) (hr.mono (by decide)) (by rfl) T.m_law_cell_at T.F_law_cell_at.kp T.b_law_cell_at (E:=E0) ZH (Za (Zz 1) (Za (Zl (ZQ (j_p Zg) (Zj 0))) Ze)))) (Za (Zz 2) Ze)))) (by decide))
   (Zb (ZC (i:=7) sc_law.nd rfl (Or.inl rfl) (Zs (ZiL T) (hr.mono (by decide)) (by rfl) T.m_law_copied T.F_law_copied.kp T.b_law_copied (E:=E0) ZH (Za (Zz 6) Ze)))
   (Zb (ZC (i:=8) sc_law.nd rfl (Or.inl rfl) (Zs (Zgw T) (hr.mono (by decide)) (by rfl) T.m_law_pairs T.F_law_pairs.kp T.b_law_pairs (E:=E0) ZH (Za (Zz 3) (Za (Zz 4) (Za (Zz 5) (Za (Zz 6) Ze))))))
   (Zb (ZM (Zcl (Zal (j_p (Zs (Zep T) (hr.mono (by decide)) (by rfl) T.m_law_good T.F_law_good.kp T.b_law_good (E:=E0) ZH (Za (Zl (Zs (Zhd T) (hr.mono (by decide)) (by rfl) T.m_apart T.F_apart.kp T.b_apart (E:=E0) ZH (Za (Zz 2) (Za (Zz 4) (Za (Zz 5) (Za (Zz 7) Ze)))))) (Za (Zz 8) Ze))))))
   (Zb (ZI ZbX)
   Zh)
   Zh)
   (Zb (ZM (Zcl (Zal (j_p (Zs (Zep T) (hr.mono (by decide)) (by rfl) T.m_law_good T.F_law_good.kp T.b_law_good (E:=E0) ZH (Za (Zl (Zs (Zhd T) (hr.mono (by decide)) (by rfl) T.m_apart T.F_apart.kp T.b_apart (E:=E0) ZH (Za (Zz 2) (Za (Zz 5) (Za (Zz 4) (Za (Zl (ZeU (Zj 7) (Zgn (j_p Zg)) Zf8)) Ze)))))) (Za (Zl (Zs (Zgw T) (hr.mono (by decide)) (by rfl) T.m_law_pairs T.F_law_pairs.kp T.b_law_pairs (E:=E0) ZH (Za (Zz 3) (Za (Zz 5) (Za (Zz 4) (Za (Zl (ZeU (Zj 6) (Zgn (j_p Zg)) Zf8)) Ze)))))) Ze))))))
   (Zb (ZI ZbX)
   Zh)
   Zh)
   (Zb (ZM (Zcl (Zal (j_p (Zs (Zep T) (hr.mono (by decide)) (by rfl) T.m_law_good T.F_law_good.kp T.b_law_good (E:=E0) ZH (Za (Zl (Zs (Zhd T) (hr.mono (by decide)) (by rfl) T.m_apart T.F_apart.kp T.b_apart (E:=E0) ZH (Za (Zz 2) (Za (Zz 4) (Za (Zz 5) (Za (Zz 7) Ze)))))) (Za (Zz 8) Ze))))))
   (Zb (ZI ZbX)
   Zh)
   Zh)
   (Zb (ZI (Zjh (Zh3 hr.units (Zj 7) (Zj 6)) (ZjS (Zh3 hr.units (Zj 2) (Zj 3)))))
   Zh)))))))))))) ?_
 rfl
end
theorem all_mk {l:PySem.W.OpenLaw} {w:World} {K:PySem.W.Frag} {h:Heap} {mg:Str→Option Value} {fa:Addr} (X:K.In h) (G:h.Ns mainGlobals mg) (hfa:mg "law"=some (.ref fa))
  {a_is_whole:Addr} {od_is_whole an_is_whole:Option Addr} {sl_is_whole:Array (Option Value)} {oc_is_whole kV_is_whole dc_is_whole pm_is_whole cd_is_whole ct_is_whole:Value}
  {a_value_rank:Addr} {od_value_rank an_value_rank:Option Addr} {sl_value_rank:Array (Option Value)} {oc_value_rank kV_value_rank dc_value_rank pm_value_rank cd_value_rank ct_value_rank:Value}
  {a_key_rank:Addr} {od_key_rank an_key_rank:Option Addr} {sl_key_rank:Array (Option Value)} {oc_key_rank kV_key_rank dc_key_rank pm_key_rank cd_key_rank ct_key_rank:Value}
  {a_in_order:Addr} {od_in_order an_in_order:Option Addr} {sl_in_order:Array (Option Value)} {oc_in_order kV_in_order dc_in_order pm_in_order cd_in_order ct_in_order:Value}
  {a_line_at:Addr} {od_line_at an_line_at:Option Addr} {sl_line_at:Array (Option Value)} {oc_line_at kV_line_at dc_line_at pm_line_at cd_line_at ct_line_at:Value}
  {a_values_in_order:Addr} {od_values_in_order an_values_in_order:Option Addr} {sl_values_in_order:Array (Option Value)} {oc_values_in_order kV_values_in_order dc_values_in_order pm_values_in_order cd_values_in_order ct_values_in_order:Value}
  {a_picked:Addr} {od_picked an_picked:Option Addr} {sl_picked:Array (Option Value)} {oc_picked kV_picked dc_picked pm_picked cd_picked ct_picked:Value}
  {a_picked_everywhere:Addr} {od_picked_everywhere an_picked_everywhere:Option Addr} {sl_picked_everywhere:Array (Option Value)} {oc_picked_everywhere kV_picked_everywhere dc_picked_everywhere pm_picked_everywhere cd_picked_everywhere ct_picked_everywhere:Value}
  {a_asked_of:Addr} {od_asked_of an_asked_of:Option Addr} {sl_asked_of:Array (Option Value)} {oc_asked_of kV_asked_of dc_asked_of pm_asked_of cd_asked_of ct_asked_of:Value}
  {a_apart_on:Addr} {od_apart_on an_apart_on:Option Addr} {sl_apart_on:Array (Option Value)} {oc_apart_on kV_apart_on dc_apart_on pm_apart_on cd_apart_on ct_apart_on:Value}
  {a_apart:Addr} {od_apart an_apart:Option Addr} {sl_apart:Array (Option Value)} {oc_apart kV_apart dc_apart pm_apart cd_apart ct_apart:Value}
  {a_law_cell_at:Addr} {od_law_cell_at an_law_cell_at:Option Addr} {sl_law_cell_at:Array (Option Value)} {oc_law_cell_at kV_law_cell_at dc_law_cell_at pm_law_cell_at cd_law_cell_at ct_law_cell_at:Value}
  {a_law_row:Addr} {od_law_row an_law_row:Option Addr} {sl_law_row:Array (Option Value)} {oc_law_row kV_law_row dc_law_row pm_law_row cd_law_row ct_law_row:Value}
  {a_law_thing:Addr} {od_law_thing an_law_thing:Option Addr} {sl_law_thing:Array (Option Value)} {oc_law_thing kV_law_thing dc_law_thing pm_law_thing cd_law_thing ct_law_thing:Value}
  {a_law_fresh:Addr} {od_law_fresh an_law_fresh:Option Addr} {sl_law_fresh:Array (Option Value)} {oc_law_fresh kV_law_fresh dc_law_fresh pm_law_fresh cd_law_fresh ct_law_fresh:Value}
  {a_law_lasts:Addr} {od_law_lasts an_law_lasts:Option Addr} {sl_law_lasts:Array (Option Value)} {oc_law_lasts kV_law_lasts dc_law_lasts pm_law_lasts cd_law_lasts ct_law_lasts:Value}
  {a_law_ladder:Addr} {od_law_ladder an_law_ladder:Option Addr} {sl_law_ladder:Array (Option Value)} {oc_law_ladder kV_law_ladder dc_law_ladder pm_law_ladder cd_law_ladder ct_law_ladder:Value}
  {a_law_at:Addr} {od_law_at an_law_at:Option Addr} {sl_law_at:Array (Option Value)} {oc_law_at kV_law_at dc_law_at pm_law_at cd_law_at ct_law_at:Value}
  {a_law_grain:Addr} {od_law_grain an_law_grain:Option Addr} {sl_law_grain:Array (Option Value)} {oc_law_grain kV_law_grain dc_law_grain pm_law_grain cd_law_grain ct_law_grain:Value}
  {a_law_values_at:Addr} {od_law_values_at an_law_values_at:Option Addr} {sl_law_values_at:Array (Option Value)} {oc_law_values_at kV_law_values_at dc_law_values_at pm_law_values_at cd_law_values_at ct_law_values_at:Value}
  {a_law_pick:Addr} {od_law_pick an_law_pick:Option Addr} {sl_law_pick:Array (Option Value)} {oc_law_pick kV_law_pick dc_law_pick pm_law_pick cd_law_pick ct_law_pick:Value}
  {a_law_copied:Addr} {od_law_copied an_law_copied:Option Addr} {sl_law_copied:Array (Option Value)} {oc_law_copied kV_law_copied dc_law_copied pm_law_copied cd_law_copied ct_law_copied:Value}
  {a_law_some:Addr} {od_law_some an_law_some:Option Addr} {sl_law_some:Array (Option Value)} {oc_law_some kV_law_some dc_law_some pm_law_some cd_law_some ct_law_some:Value}
  {a_law_pairs:Addr} {od_law_pairs an_law_pairs:Option Addr} {sl_law_pairs:Array (Option Value)} {oc_law_pairs kV_law_pairs dc_law_pairs pm_law_pairs cd_law_pairs ct_law_pairs:Value}
  {a_law_good:Addr} {od_law_good an_law_good:Option Addr} {sl_law_good:Array (Option Value)} {oc_law_good kV_law_good dc_law_good pm_law_good cd_law_good ct_law_good:Value}
  {a_law_near:Addr} {od_law_near an_law_near:Option Addr} {sl_law_near:Array (Option Value)} {oc_law_near kV_law_near dc_law_near pm_law_near cd_law_near ct_law_near:Value}
  {a_law:Addr} {od_law an_law:Option Addr} {sl_law:Array (Option Value)} {oc_law kV_law dc_law pm_law cd_law ct_law:Value}
  (A_is_whole:PySem.W.nsIn K mainGlobals "is_whole"=some (some (.ref a_is_whole)))
  (L_is_whole:K.lookup a_is_whole=some ⟨oc_is_whole,od_is_whole,.func (PySem.W.fnOf "is_whole" "is_whole" (ZO ZbW) (ZK ZbW) (Zn ZbW) .none kV_is_whole dc_is_whole pm_is_whole an_is_whole cd_is_whole ct_is_whole),sl_is_whole⟩)
  (C_is_whole:PySem.W.codeIn K cd_is_whole "is_whole"=true) (k_is_whole:PySem.W.keepIn K (.ref a_is_whole)=true)
  (A_value_rank:PySem.W.nsIn K mainGlobals "value_rank"=some (some (.ref a_value_rank)))
  (L_value_rank:K.lookup a_value_rank=some ⟨oc_value_rank,od_value_rank,.func (PySem.W.fnOf "value_rank" "value_rank" (ZO Zbl) (ZK Zbl) (Zn Zbl) .none kV_value_rank dc_value_rank pm_value_rank an_value_rank cd_value_rank ct_value_rank),sl_value_rank⟩)
  (C_value_rank:PySem.W.codeIn K cd_value_rank "value_rank"=true) (k_value_rank:PySem.W.keepIn K (.ref a_value_rank)=true)
  (A_key_rank:PySem.W.nsIn K mainGlobals "key_rank"=some (some (.ref a_key_rank)))
  (L_key_rank:K.lookup a_key_rank=some ⟨oc_key_rank,od_key_rank,.func (PySem.W.fnOf "key_rank" "key_rank" (ZO Zbu) (ZK Zbu) (Zn Zbu) .none kV_key_rank dc_key_rank pm_key_rank an_key_rank cd_key_rank ct_key_rank),sl_key_rank⟩)
  (C_key_rank:PySem.W.codeIn K cd_key_rank "key_rank"=true) (k_key_rank:PySem.W.keepIn K (.ref a_key_rank)=true)
  (A_in_order:PySem.W.nsIn K mainGlobals "in_order"=some (some (.ref a_in_order)))
  (L_in_order:K.lookup a_in_order=some ⟨oc_in_order,od_in_order,.func (PySem.W.fnOf "in_order" "in_order" (ZO Zb1) (ZK Zb1) (Zn Zb1) .none kV_in_order dc_in_order pm_in_order an_in_order cd_in_order ct_in_order),sl_in_order⟩)
  (C_in_order:PySem.W.codeIn K cd_in_order "in_order"=true) (k_in_order:PySem.W.keepIn K (.ref a_in_order)=true)
  (A_line_at:PySem.W.nsIn K mainGlobals "line_at"=some (some (.ref a_line_at)))
  (L_line_at:K.lookup a_line_at=some ⟨oc_line_at,od_line_at,.func (PySem.W.fnOf "line_at" "line_at" (ZO Zcq) (ZK Zcq) (Zn Zcq) .none kV_line_at dc_line_at pm_line_at an_line_at cd_line_at ct_line_at),sl_line_at⟩)
  (C_line_at:PySem.W.codeIn K cd_line_at "line_at"=true) (k_line_at:PySem.W.keepIn K (.ref a_line_at)=true)
  (A_values_in_order:PySem.W.nsIn K mainGlobals "values_in_order"=some (some (.ref a_values_in_order)))
  (L_values_in_order:K.lookup a_values_in_order=some ⟨oc_values_in_order,od_values_in_order,.func (PySem.W.fnOf "values_in_order" "values_in_order" (ZO Z8) (ZK Z8) (Zn Z8) .none kV_values_in_order dc_values_in_order pm_values_in_order an_values_in_order cd_values_in_order ct_values_in_order),sl_values_in_order⟩)
  (C_values_in_order:PySem.W.codeIn K cd_values_in_order "values_in_order"=true) (k_values_in_order:PySem.W.keepIn K (.ref a_values_in_order)=true)
  (A_picked:PySem.W.nsIn K mainGlobals "picked"=some (some (.ref a_picked)))
  (L_picked:K.lookup a_picked=some ⟨oc_picked,od_picked,.func (PySem.W.fnOf "picked" "picked" (ZO Zbt) (ZK Zbt) (Zn Zbt) .none kV_picked dc_picked pm_picked an_picked cd_picked ct_picked),sl_picked⟩)
  (C_picked:PySem.W.codeIn K cd_picked "picked"=true) (k_picked:PySem.W.keepIn K (.ref a_picked)=true)
  (A_picked_everywhere:PySem.W.nsIn K mainGlobals "picked_everywhere"=some (some (.ref a_picked_everywhere)))
  (L_picked_everywhere:K.lookup a_picked_everywhere=some ⟨oc_picked_everywhere,od_picked_everywhere,.func (PySem.W.fnOf "picked_everywhere" "picked_everywhere" (ZO Zaa) (ZK Zaa) (Zn Zaa) .none kV_picked_everywhere dc_picked_everywhere pm_picked_everywhere an_picked_everywhere cd_picked_everywhere ct_picked_everywhere),sl_picked_everywhere⟩)
  (C_picked_everywhere:PySem.W.codeIn K cd_picked_everywhere "picked_everywhere"=true) (k_picked_everywhere:PySem.W.keepIn K (.ref a_picked_everywhere)=true)
  (A_asked_of:PySem.W.nsIn K mainGlobals "asked_of"=some (some (.ref a_asked_of)))
  (L_asked_of:K.lookup a_asked_of=some ⟨oc_asked_of,od_asked_of,.func (PySem.W.fnOf "asked_of" "asked_of" (ZO Zbr) (ZK Zbr) (Zn Zbr) .none kV_asked_of dc_asked_of pm_asked_of an_asked_of cd_asked_of ct_asked_of),sl_asked_of⟩)
  (C_asked_of:PySem.W.codeIn K cd_asked_of "asked_of"=true) (k_asked_of:PySem.W.keepIn K (.ref a_asked_of)=true)
  (A_apart_on:PySem.W.nsIn K mainGlobals "apart_on"=some (some (.ref a_apart_on)))
  (L_apart_on:K.lookup a_apart_on=some ⟨oc_apart_on,od_apart_on,.func (PySem.W.fnOf "apart_on" "apart_on" (ZO Zb7) (ZK Zb7) (Zn Zb7) .none kV_apart_on dc_apart_on pm_apart_on an_apart_on cd_apart_on ct_apart_on),sl_apart_on⟩)
  (C_apart_on:PySem.W.codeIn K cd_apart_on "apart_on"=true) (k_apart_on:PySem.W.keepIn K (.ref a_apart_on)=true)
  (A_apart:PySem.W.nsIn K mainGlobals "apart"=some (some (.ref a_apart)))
  (L_apart:K.lookup a_apart=some ⟨oc_apart,od_apart,.func (PySem.W.fnOf "apart" "apart" (ZO Zdo) (ZK Zdo) (Zn Zdo) .none kV_apart dc_apart pm_apart an_apart cd_apart ct_apart),sl_apart⟩)
  (C_apart:PySem.W.codeIn K cd_apart "apart"=true) (k_apart:PySem.W.keepIn K (.ref a_apart)=true)
  (A_law_cell_at:PySem.W.nsIn K mainGlobals "_law_cell_at"=some (some (.ref a_law_cell_at)))
  (L_law_cell_at:K.lookup a_law_cell_at=some ⟨oc_law_cell_at,od_law_cell_at,.func (PySem.W.fnOf "_law_cell_at" "_law_cell_at" (ZO Za1) (ZK Za1) (Zn Za1) .none kV_law_cell_at dc_law_cell_at pm_law_cell_at an_law_cell_at cd_law_cell_at ct_law_cell_at),sl_law_cell_at⟩)
  (C_law_cell_at:PySem.W.codeIn K cd_law_cell_at "_law_cell_at"=true) (k_law_cell_at:PySem.W.keepIn K (.ref a_law_cell_at)=true)
  (A_law_row:PySem.W.nsIn K mainGlobals "_law_row"=some (some (.ref a_law_row)))
  (L_law_row:K.lookup a_law_row=some ⟨oc_law_row,od_law_row,.func (PySem.W.fnOf "_law_row" "_law_row" (ZO Zcp) (ZK Zcp) (Zn Zcp) .none kV_law_row dc_law_row pm_law_row an_law_row cd_law_row ct_law_row),sl_law_row⟩)
  (C_law_row:PySem.W.codeIn K cd_law_row "_law_row"=true) (k_law_row:PySem.W.keepIn K (.ref a_law_row)=true)
  (A_law_thing:PySem.W.nsIn K mainGlobals "_law_thing"=some (some (.ref a_law_thing)))
  (L_law_thing:K.lookup a_law_thing=some ⟨oc_law_thing,od_law_thing,.func (PySem.W.fnOf "_law_thing" "_law_thing" (ZO ZbA) (ZK ZbA) (Zn ZbA) .none kV_law_thing dc_law_thing pm_law_thing an_law_thing cd_law_thing ct_law_thing),sl_law_thing⟩)
  (C_law_thing:PySem.W.codeIn K cd_law_thing "_law_thing"=true) (k_law_thing:PySem.W.keepIn K (.ref a_law_thing)=true)
  (A_law_fresh:PySem.W.nsIn K mainGlobals "_law_fresh"=some (some (.ref a_law_fresh)))
  (L_law_fresh:K.lookup a_law_fresh=some ⟨oc_law_fresh,od_law_fresh,.func (PySem.W.fnOf "_law_fresh" "_law_fresh" (ZO Zbz) (ZK Zbz) (Zn Zbz) .none kV_law_fresh dc_law_fresh pm_law_fresh an_law_fresh cd_law_fresh ct_law_fresh),sl_law_fresh⟩)
  (C_law_fresh:PySem.W.codeIn K cd_law_fresh "_law_fresh"=true) (k_law_fresh:PySem.W.keepIn K (.ref a_law_fresh)=true)
  (A_law_lasts:PySem.W.nsIn K mainGlobals "_law_lasts"=some (some (.ref a_law_lasts)))
  (L_law_lasts:K.lookup a_law_lasts=some ⟨oc_law_lasts,od_law_lasts,.func (PySem.W.fnOf "_law_lasts" "_law_lasts" (ZO Zby) (ZK Zby) (Zn Zby) .none kV_law_lasts dc_law_lasts pm_law_lasts an_law_lasts cd_law_lasts ct_law_lasts),sl_law_lasts⟩)
  (C_law_lasts:PySem.W.codeIn K cd_law_lasts "_law_lasts"=true) (k_law_lasts:PySem.W.keepIn K (.ref a_law_lasts)=true)
  (A_law_ladder:PySem.W.nsIn K mainGlobals "_law_ladder"=some (some (.ref a_law_ladder)))
  (L_law_ladder:K.lookup a_law_ladder=some ⟨oc_law_ladder,od_law_ladder,.func (PySem.W.fnOf "_law_ladder" "_law_ladder" (ZO ZaE) (ZK ZaE) (Zn ZaE) .none kV_law_ladder dc_law_ladder pm_law_ladder an_law_ladder cd_law_ladder ct_law_ladder),sl_law_ladder⟩)
  (C_law_ladder:PySem.W.codeIn K cd_law_ladder "_law_ladder"=true) (k_law_ladder:PySem.W.keepIn K (.ref a_law_ladder)=true)
  (A_law_at:PySem.W.nsIn K mainGlobals "_law_at"=some (some (.ref a_law_at)))
  (L_law_at:K.lookup a_law_at=some ⟨oc_law_at,od_law_at,.func (PySem.W.fnOf "_law_at" "_law_at" (ZO ZcL) (ZK ZcL) (Zn ZcL) .none kV_law_at dc_law_at pm_law_at an_law_at cd_law_at ct_law_at),sl_law_at⟩)
  (C_law_at:PySem.W.codeIn K cd_law_at "_law_at"=true) (k_law_at:PySem.W.keepIn K (.ref a_law_at)=true)
  (A_law_grain:PySem.W.nsIn K mainGlobals "_law_grain"=some (some (.ref a_law_grain)))
  (L_law_grain:K.lookup a_law_grain=some ⟨oc_law_grain,od_law_grain,.func (PySem.W.fnOf "_law_grain" "_law_grain" (ZO Zba) (ZK Zba) (Zn Zba) .none kV_law_grain dc_law_grain pm_law_grain an_law_grain cd_law_grain ct_law_grain),sl_law_grain⟩)
  (C_law_grain:PySem.W.codeIn K cd_law_grain "_law_grain"=true) (k_law_grain:PySem.W.keepIn K (.ref a_law_grain)=true)
  (A_law_values_at:PySem.W.nsIn K mainGlobals "_law_values_at"=some (some (.ref a_law_values_at)))
  (L_law_values_at:K.lookup a_law_values_at=some ⟨oc_law_values_at,od_law_values_at,.func (PySem.W.fnOf "_law_values_at" "_law_values_at" (ZO ZaF) (ZK ZaF) (Zn ZaF) .none kV_law_values_at dc_law_values_at pm_law_values_at an_law_values_at cd_law_values_at ct_law_values_at),sl_law_values_at⟩)
  (C_law_values_at:PySem.W.codeIn K cd_law_values_at "_law_values_at"=true) (k_law_values_at:PySem.W.keepIn K (.ref a_law_values_at)=true)
  (A_law_pick:PySem.W.nsIn K mainGlobals "_law_pick"=some (some (.ref a_law_pick)))
  (L_law_pick:K.lookup a_law_pick=some ⟨oc_law_pick,od_law_pick,.func (PySem.W.fnOf "_law_pick" "_law_pick" (ZO Zbp) (ZK Zbp) (Zn Zbp) .none kV_law_pick dc_law_pick pm_law_pick an_law_pick cd_law_pick ct_law_pick),sl_law_pick⟩)
  (C_law_pick:PySem.W.codeIn K cd_law_pick "_law_pick"=true) (k_law_pick:PySem.W.keepIn K (.ref a_law_pick)=true)
  (A_law_copied:PySem.W.nsIn K mainGlobals "_law_copied"=some (some (.ref a_law_copied)))
  (L_law_copied:K.lookup a_law_copied=some ⟨oc_law_copied,od_law_copied,.func (PySem.W.fnOf "_law_copied" "_law_copied" (ZO Zbh) (ZK Zbh) (Zn Zbh) .none kV_law_copied dc_law_copied pm_law_copied an_law_copied cd_law_copied ct_law_copied),sl_law_copied⟩)
  (C_law_copied:PySem.W.codeIn K cd_law_copied "_law_copied"=true) (k_law_copied:PySem.W.keepIn K (.ref a_law_copied)=true)
  (A_law_some:PySem.W.nsIn K mainGlobals "_law_some"=some (some (.ref a_law_some)))
  (L_law_some:K.lookup a_law_some=some ⟨oc_law_some,od_law_some,.func (PySem.W.fnOf "_law_some" "_law_some" (ZO ZbV) (ZK ZbV) (Zn ZbV) .none kV_law_some dc_law_some pm_law_some an_law_some cd_law_some ct_law_some),sl_law_some⟩)
  (C_law_some:PySem.W.codeIn K cd_law_some "_law_some"=true) (k_law_some:PySem.W.keepIn K (.ref a_law_some)=true)
  (A_law_pairs:PySem.W.nsIn K mainGlobals "_law_pairs"=some (some (.ref a_law_pairs)))
  (L_law_pairs:K.lookup a_law_pairs=some ⟨oc_law_pairs,od_law_pairs,.func (PySem.W.fnOf "_law_pairs" "_law_pairs" (ZO Za5) (ZK Za5) (Zn Za5) .none kV_law_pairs dc_law_pairs pm_law_pairs an_law_pairs cd_law_pairs ct_law_pairs),sl_law_pairs⟩)
  (C_law_pairs:PySem.W.codeIn K cd_law_pairs "_law_pairs"=true) (k_law_pairs:PySem.W.keepIn K (.ref a_law_pairs)=true)
  (A_law_good:PySem.W.nsIn K mainGlobals "_law_good"=some (some (.ref a_law_good)))
  (L_law_good:K.lookup a_law_good=some ⟨oc_law_good,od_law_good,.func (PySem.W.fnOf "_law_good" "_law_good" (ZO ZbY) (ZK ZbY) (Zn ZbY) .none kV_law_good dc_law_good pm_law_good an_law_good cd_law_good ct_law_good),sl_law_good⟩)
  (C_law_good:PySem.W.codeIn K cd_law_good "_law_good"=true) (k_law_good:PySem.W.keepIn K (.ref a_law_good)=true)
  (A_law_near:PySem.W.nsIn K mainGlobals "_law_near"=some (some (.ref a_law_near)))
  (L_law_near:K.lookup a_law_near=some ⟨oc_law_near,od_law_near,.func (PySem.W.fnOf "_law_near" "_law_near" (ZO Zb6) (ZK Zb6) (Zn Zb6) .none kV_law_near dc_law_near pm_law_near an_law_near cd_law_near ct_law_near),sl_law_near⟩)
  (C_law_near:PySem.W.codeIn K cd_law_near "_law_near"=true) (k_law_near:PySem.W.keepIn K (.ref a_law_near)=true)
  (A_law:PySem.W.nsIn K mainGlobals "law"=some (some (.ref a_law)))
  (L_law:K.lookup a_law=some ⟨oc_law,od_law,.func (PySem.W.fnOf "law" "law" (ZO Zdg) (ZK Zdg) (Zn Zdg) .none kV_law dc_law pm_law an_law cd_law ct_law),sl_law⟩)
  (C_law:PySem.W.codeIn K cd_law "law"=true) (k_law:PySem.W.keepIn K (.ref a_law)=true)
  (N_bool:PySem.W.nsIn K mainGlobals "bool"=some none)
  (N_dict:PySem.W.nsIn K mainGlobals "dict"=some none)
  (N_enumerate:PySem.W.nsIn K mainGlobals "enumerate"=some none)
  (N_int:PySem.W.nsIn K mainGlobals "int"=some none)
  (N_isinstance:PySem.W.nsIn K mainGlobals "isinstance"=some none)
  (N_len:PySem.W.nsIn K mainGlobals "len"=some none)
  (N_list:PySem.W.nsIn K mainGlobals "list"=some none)
  (N_max:PySem.W.nsIn K mainGlobals "max"=some none)
  (N_min:PySem.W.nsIn K mainGlobals "min"=some none)
  (N_range:PySem.W.nsIn K mainGlobals "range"=some none)
  (N_sorted:PySem.W.nsIn K mainGlobals "sorted"=some none)
  (N_str:PySem.W.nsIn K mainGlobals "str"=some none)
  (N_tuple:PySem.W.nsIn K mainGlobals "tuple"=some none) :
  ∃ fd:FuncData,(∀ (s:Shared) (v:Value),BindsTo s fd ⟨[v],[]⟩ [("_law_script",v)])∧∀ base:Heap,K.In base→base.Ns mainGlobals mg→FnOk l.prog w K mg base CX0 11 fa fd ["_law_script"] (ZiV K):=by
 have e:=hfa.symm.trans (PySem.W.mg_of X G A_law)
 cases e
 have F_is_whole:=Z4 (st:=ZbW) L_is_whole C_is_whole k_is_whole
 have F_value_rank:=Z4 (st:=Zbl) L_value_rank C_value_rank k_value_rank
 have F_key_rank:=Z4 (st:=Zbu) L_key_rank C_key_rank k_key_rank
 have F_in_order:=Z4 (st:=Zb1) L_in_order C_in_order k_in_order
 have F_line_at:=Z4 (st:=Zcq) L_line_at C_line_at k_line_at
 have F_values_in_order:=Z4 (st:=Z8) L_values_in_order C_values_in_order k_values_in_order
 have F_picked:=Z4 (st:=Zbt) L_picked C_picked k_picked
 have F_picked_everywhere:=Z4 (st:=Zaa) L_picked_everywhere C_picked_everywhere k_picked_everywhere
 have F_asked_of:=Z4 (st:=Zbr) L_asked_of C_asked_of k_asked_of
 have F_apart_on:=Z4 (st:=Zb7) L_apart_on C_apart_on k_apart_on
 have F_apart:=Z4 (st:=Zdo) L_apart C_apart k_apart
 have F_law_cell_at:=Z4 (st:=Za1) L_law_cell_at C_law_cell_at k_law_cell_at
 have F_law_row:=Z4 (st:=Zcp) L_law_row C_law_row k_law_row
 have F_law_thing:=Z4 (st:=ZbA) L_law_thing C_law_thing k_law_thing
 have F_law_fresh:=Z4 (st:=Zbz) L_law_fresh C_law_fresh k_law_fresh
 have F_law_lasts:=Z4 (st:=Zby) L_law_lasts C_law_lasts k_law_lasts
 have F_law_ladder:=Z4 (st:=ZaE) L_law_ladder C_law_ladder k_law_ladder
 have F_law_at:=Z4 (st:=ZcL) L_law_at C_law_at k_law_at
 have F_law_grain:=Z4 (st:=Zba) L_law_grain C_law_grain k_law_grain
 have F_law_values_at:=Z4 (st:=ZaF) L_law_values_at C_law_values_at k_law_values_at
 have F_law_pick:=Z4 (st:=Zbp) L_law_pick C_law_pick k_law_pick
 have F_law_copied:=Z4 (st:=Zbh) L_law_copied C_law_copied k_law_copied
 have F_law_some:=Z4 (st:=ZbV) L_law_some C_law_some k_law_some
 have F_law_pairs:=Z4 (st:=Za5) L_law_pairs C_law_pairs k_law_pairs
 have F_law_good:=Z4 (st:=ZbY) L_law_good C_law_good k_law_good
 have F_law_near:=Z4 (st:=Zb6) L_law_near C_law_near k_law_near
 have F_law:=Z4 (st:=Zdg) L_law C_law k_law
 have T:Tx K mg ⟨a_is_whole,_,a_value_rank,_,a_key_rank,_,a_in_order,_,a_line_at,_,a_values_in_order,_,a_picked,_,a_picked_everywhere,_,a_asked_of,_,a_apart_on,_,a_apart,_,a_law_cell_at,_,a_law_row,_,a_law_thing,_,a_law_fresh,_,a_law_lasts,_,a_law_ladder,_,a_law_at,_,a_law_grain,_,a_law_values_at,_,a_law_pick,_,a_law_copied,_,a_law_some,_,a_law_pairs,_,a_law_good,_,a_law_near,_,fa,_⟩:={
  m_is_whole:=PySem.W.mg_of X G A_is_whole
  F_is_whole:=F_is_whole
  b_is_whole:=F_is_whole.binds fun _ _ _ _ _ _ us hl=>match us,hl with | [_],_=>rfl
  m_value_rank:=PySem.W.mg_of X G A_value_rank
  F_value_rank:=F_value_rank
  b_value_rank:=F_value_rank.binds fun _ _ _ _ _ _ us hl=>match us,hl with | [_],_=>rfl
  m_key_rank:=PySem.W.mg_of X G A_key_rank
  F_key_rank:=F_key_rank
  b_key_rank:=F_key_rank.binds fun _ _ _ _ _ _ us hl=>match us,hl with | [_],_=>rfl
  m_in_order:=PySem.W.mg_of X G A_in_order
  F_in_order:=F_in_order
  b_in_order:=F_in_order.binds fun _ _ _ _ _ _ us hl=>match us,hl with | [_],_=>rfl
  m_line_at:=PySem.W.mg_of X G A_line_at
  F_line_at:=F_line_at
  b_line_at:=F_line_at.binds fun _ _ _ _ _ _ us hl=>match us,hl with | [_,_],_=>rfl
  m_values_in_order:=PySem.W.mg_of X G A_values_in_order
  F_values_in_order:=F_values_in_order
  b_values_in_order:=F_values_in_order.binds fun _ _ _ _ _ _ us hl=>match us,hl with | [_],_=>rfl
  m_picked:=PySem.W.mg_of X G A_picked
  F_picked:=F_picked
  b_picked:=F_picked.binds fun _ _ _ _ _ _ us hl=>match us,hl with | [_,_,_],_=>rfl
  m_picked_everywhere:=PySem.W.mg_of X G A_picked_everywhere
  F_picked_everywhere:=F_picked_everywhere
  b_picked_everywhere:=F_picked_everywhere.binds fun _ _ _ _ _ _ us hl=>match us,hl with | [_,_],_=>rfl
  m_asked_of:=PySem.W.mg_of X G A_asked_of
  F_asked_of:=F_asked_of
  b_asked_of:=F_asked_of.binds fun _ _ _ _ _ _ us hl=>match us,hl with | [_,_,_],_=>rfl
  m_apart_on:=PySem.W.mg_of X G A_apart_on
  F_apart_on:=F_apart_on
  b_apart_on:=F_apart_on.binds fun _ _ _ _ _ _ us hl=>match us,hl with | [_,_,_,_],_=>rfl
  m_apart:=PySem.W.mg_of X G A_apart
  F_apart:=F_apart
  b_apart:=F_apart.binds fun _ _ _ _ _ _ us hl=>match us,hl with | [_,_,_,_],_=>rfl
  m_law_cell_at:=PySem.W.mg_of X G A_law_cell_at
  F_law_cell_at:=F_law_cell_at
  b_law_cell_at:=F_law_cell_at.binds fun _ _ _ _ _ _ us hl=>match us,hl with | [_,_],_=>rfl
  m_law_row:=PySem.W.mg_of X G A_law_row
  F_law_row:=F_law_row
  b_law_row:=F_law_row.binds fun _ _ _ _ _ _ us hl=>match us,hl with | [_,_],_=>rfl
  m_law_thing:=PySem.W.mg_of X G A_law_thing
  F_law_thing:=F_law_thing
  b_law_thing:=F_law_thing.binds fun _ _ _ _ _ _ us hl=>match us,hl with | [_],_=>rfl
  m_law_fresh:=PySem.W.mg_of X G A_law_fresh
  F_law_fresh:=F_law_fresh
  b_law_fresh:=F_law_fresh.binds fun _ _ _ _ _ _ us hl=>match us,hl with | [_,_],_=>rfl
  m_law_lasts:=PySem.W.mg_of X G A_law_lasts
  F_law_lasts:=F_law_lasts
  b_law_lasts:=F_law_lasts.binds fun _ _ _ _ _ _ us hl=>match us,hl with | [_],_=>rfl
  m_law_ladder:=PySem.W.mg_of X G A_law_ladder
  F_law_ladder:=F_law_ladder
  b_law_ladder:=F_law_ladder.binds fun _ _ _ _ _ _ us hl=>match us,hl with | [_,_],_=>rfl
  m_law_at:=PySem.W.mg_of X G A_law_at
  F_law_at:=F_law_at
  b_law_at:=F_law_at.binds fun _ _ _ _ _ _ us hl=>match us,hl with | [_,_],_=>rfl
  m_law_grain:=PySem.W.mg_of X G A_law_grain
  F_law_grain:=F_law_grain
  b_law_grain:=F_law_grain.binds fun _ _ _ _ _ _ us hl=>match us,hl with | [_,_],_=>rfl
  m_law_values_at:=PySem.W.mg_of X G A_law_values_at
  F_law_values_at:=F_law_values_at
  b_law_values_at:=F_law_values_at.binds fun _ _ _ _ _ _ us hl=>match us,hl with | [_,_],_=>rfl
  m_law_pick:=PySem.W.mg_of X G A_law_pick
  F_law_pick:=F_law_pick
  b_law_pick:=F_law_pick.binds fun _ _ _ _ _ _ us hl=>match us,hl with | [_,_],_=>rfl
  m_law_copied:=PySem.W.mg_of X G A_law_copied
  F_law_copied:=F_law_copied
  b_law_copied:=F_law_copied.binds fun _ _ _ _ _ _ us hl=>match us,hl with | [_],_=>rfl
  m_law_some:=PySem.W.mg_of X G A_law_some
  F_law_some:=F_law_some
  b_law_some:=F_law_some.binds fun _ _ _ _ _ _ us hl=>match us,hl with | [_,_,_],_=>rfl
  m_law_pairs:=PySem.W.mg_of X G A_law_pairs
  F_law_pairs:=F_law_pairs
  b_law_pairs:=F_law_pairs.binds fun _ _ _ _ _ _ us hl=>match us,hl with | [_,_,_,_],_=>rfl
  m_law_good:=PySem.W.mg_of X G A_law_good
  F_law_good:=F_law_good
  b_law_good:=F_law_good.binds fun _ _ _ _ _ _ us hl=>match us,hl with | [_,_],_=>rfl
  m_law_near:=PySem.W.mg_of X G A_law_near
  F_law_near:=F_law_near
  b_law_near:=F_law_near.binds fun _ _ _ _ _ _ us hl=>match us,hl with | [_,_,_,_],_=>rfl
  m_law:=PySem.W.mg_of X G A_law
  F_law:=F_law
  b_law:=F_law.binds fun _ _ _ _ _ _ us hl=>match us,hl with | [_],_=>rfl
  n_bool:=PySem.W.mg_none_of X G N_bool
  n_dict:=PySem.W.mg_none_of X G N_dict
  n_enumerate:=PySem.W.mg_none_of X G N_enumerate
  n_int:=PySem.W.mg_none_of X G N_int
  n_isinstance:=PySem.W.mg_none_of X G N_isinstance
  n_len:=PySem.W.mg_none_of X G N_len
  n_list:=PySem.W.mg_none_of X G N_list
  n_max:=PySem.W.mg_none_of X G N_max
  n_min:=PySem.W.mg_none_of X G N_min
  n_range:=PySem.W.mg_none_of X G N_range
  n_sorted:=PySem.W.mg_none_of X G N_sorted
  n_str:=PySem.W.mg_none_of X G N_str
  n_tuple:=PySem.W.mg_none_of X G N_tuple
 }
 exact ⟨_,fun s v=>.of_eq rfl,fun base _ _=>ZqN (ZqR T) Znt⟩
theorem walk {l:PySem.W.OpenLaw} {q:Program} {loose:List Str} {XP:(Str→Option Value)→Heap→Prop} {YP:World→Heap→Prop} {d:DefRec} {K:Params→PySem.W.Frag} (hn:l.most=some 63) (hdf:d.params.defaults=[])
  (hY:∀ (w:World) (h:Heap),YP w h→(K w.params).In h)
  (F:∀ (w:World) (mg:Str→Option Value) (fa:Addr) (h:Heap),(K w.params).In h→h.Ns mainGlobals mg→mg d.name=some (.ref fa) →
   ∃ fd:FuncData,(∀ (s:Shared) (u:Value),BindsTo s fd ⟨[u],[]⟩ [("_law_script",u)])∧∀ base:Heap,(K w.params).In base→base.Ns mainGlobals mg→FnOk l.prog w (K w.params) mg base CX0 11 fa fd ["_law_script"] (ZiV (K w.params))) :
  PySem.W.WalkO q loose XP YP l.row.toRowW d [] (fun f vs=>PySem.call f vs) :=
 L2.walk_of (n:=63) (k:=11) (x:="_law_script") (CX:=fun _=>CX0) (sp:=fun w=>ZiV (K w.params)) hn (by decide) hdf ⟨rfl,by decide,by decide⟩ hY F (fun _ _ a ns hl _ hS=>⟨a,ns,rfl,hS,hl,fun _=>rfl⟩) fun _ _ _ _ _ z=>z
end K24
open PySem PySem.W PyProof.Rows
set_option maxRecDepth 100000 in
set_option maxHeartbeats 0 in
theorem PySem.Challenge.cw_cubebook_k24_apart_holds : PySem.Challenge.rw_cubebook_k24_apart.Holds := by
 w_on;o_law;k_head;(case hw=>w_witness2)
 k_fill
 refine K24.walk (l:=PySem.Challenge.rw_cubebook_k24_apart) rfl rfl (fun w h Y=>PySem.W.kIn_of Y) ?F
 case F =>
  intro w mg fa h KX G hmg
  refine' K24.all_mk KX G hmg ?A_is_whole ?L_is_whole ?C_is_whole ?k_is_whole ?A_value_rank ?L_value_rank ?C_value_rank ?k_value_rank ?A_key_rank ?L_key_rank ?C_key_rank ?k_key_rank ?A_in_order ?L_in_order ?C_in_order ?k_in_order ?A_line_at ?L_line_at ?C_line_at ?k_line_at ?A_values_in_order ?L_values_in_order ?C_values_in_order ?k_values_in_order ?A_picked ?L_picked ?C_picked ?k_picked ?A_picked_everywhere ?L_picked_everywhere ?C_picked_everywhere ?k_picked_everywhere ?A_asked_of ?L_asked_of ?C_asked_of ?k_asked_of ?A_apart_on ?L_apart_on ?C_apart_on ?k_apart_on ?A_apart ?L_apart ?C_apart ?k_apart ?A_law_cell_at ?L_law_cell_at ?C_law_cell_at ?k_law_cell_at ?A_law_row ?L_law_row ?C_law_row ?k_law_row ?A_law_thing ?L_law_thing ?C_law_thing ?k_law_thing ?A_law_fresh ?L_law_fresh ?C_law_fresh ?k_law_fresh ?A_law_lasts ?L_law_lasts ?C_law_lasts ?k_law_lasts ?A_law_ladder ?L_law_ladder ?C_law_ladder ?k_law_ladder ?A_law_at ?L_law_at ?C_law_at ?k_law_at ?A_law_grain ?L_law_grain ?C_law_grain ?k_law_grain ?A_law_values_at ?L_law_values_at ?C_law_values_at ?k_law_values_at ?A_law_pick ?L_law_pick ?C_law_pick ?k_law_pick ?A_law_copied ?L_law_copied ?C_law_copied ?k_law_copied ?A_law_some ?L_law_some ?C_law_some ?k_law_some ?A_law_pairs ?L_law_pairs ?C_law_pairs ?k_law_pairs ?A_law_good ?L_law_good ?C_law_good ?k_law_good ?A_law_near ?L_law_near ?C_law_near ?k_law_near ?A_law ?L_law ?C_law ?k_law ?N_bool ?N_dict ?N_enumerate ?N_int ?N_isinstance ?N_len ?N_list ?N_max ?N_min ?N_range ?N_sorted ?N_str ?N_tuple
  (case A_is_whole=>k_is)
  (case L_is_whole=>k_is)
  (case C_is_whole=>k_is)
  (case k_is_whole=>k_is)
  (case A_value_rank=>k_is)
  (case L_value_rank=>k_is)
  (case C_value_rank=>k_is)
  (case k_value_rank=>k_is)
  (case A_key_rank=>k_is)
  (case L_key_rank=>k_is)
  (case C_key_rank=>k_is)
  (case k_key_rank=>k_is)
  (case A_in_order=>k_is)
  (case L_in_order=>k_is)
  (case C_in_order=>k_is)
  (case k_in_order=>k_is)
  (case A_line_at=>k_is)
  (case L_line_at=>k_is)
  (case C_line_at=>k_is)
  (case k_line_at=>k_is)
  (case A_values_in_order=>k_is)
  (case L_values_in_order=>k_is)
  (case C_values_in_order=>k_is)
  (case k_values_in_order=>k_is)
  (case A_picked=>k_is)
  (case L_picked=>k_is)
  (case C_picked=>k_is)
  (case k_picked=>k_is)
  (case A_picked_everywhere=>k_is)
  (case L_picked_everywhere=>k_is)
  (case C_picked_everywhere=>k_is)
  (case k_picked_everywhere=>k_is)
  (case A_asked_of=>k_is)
  (case L_asked_of=>k_is)
  (case C_asked_of=>k_is)
  (case k_asked_of=>k_is)
  (case A_apart_on=>k_is)
  (case L_apart_on=>k_is)
  (case C_apart_on=>k_is)
  (case k_apart_on=>k_is)
  (case A_apart=>k_is)
  (case L_apart=>k_is)
  (case C_apart=>k_is)
  (case k_apart=>k_is)
  (case A_law_cell_at=>k_is)
  (case L_law_cell_at=>k_is)
  (case C_law_cell_at=>k_is)
  (case k_law_cell_at=>k_is)
  (case A_law_row=>k_is)
  (case L_law_row=>k_is)
  (case C_law_row=>k_is)
  (case k_law_row=>k_is)
  (case A_law_thing=>k_is)
  (case L_law_thing=>k_is)
  (case C_law_thing=>k_is)
  (case k_law_thing=>k_is)
  (case A_law_fresh=>k_is)
  (case L_law_fresh=>k_is)
  (case C_law_fresh=>k_is)
  (case k_law_fresh=>k_is)
  (case A_law_lasts=>k_is)
  (case L_law_lasts=>k_is)
  (case C_law_lasts=>k_is)
  (case k_law_lasts=>k_is)
  (case A_law_ladder=>k_is)
  (case L_law_ladder=>k_is)
  (case C_law_ladder=>k_is)
  (case k_law_ladder=>k_is)
  (case A_law_at=>k_is)
  (case L_law_at=>k_is)
  (case C_law_at=>k_is)
  (case k_law_at=>k_is)
  (case A_law_grain=>k_is)
  (case L_law_grain=>k_is)
  (case C_law_grain=>k_is)
  (case k_law_grain=>k_is)
  (case A_law_values_at=>k_is)
  (case L_law_values_at=>k_is)
  (case C_law_values_at=>k_is)
  (case k_law_values_at=>k_is)
  (case A_law_pick=>k_is)
  (case L_law_pick=>k_is)
  (case C_law_pick=>k_is)
  (case k_law_pick=>k_is)
  (case A_law_copied=>k_is)
  (case L_law_copied=>k_is)
  (case C_law_copied=>k_is)
  (case k_law_copied=>k_is)
  (case A_law_some=>k_is)
  (case L_law_some=>k_is)
  (case C_law_some=>k_is)
  (case k_law_some=>k_is)
  (case A_law_pairs=>k_is)
  (case L_law_pairs=>k_is)
  (case C_law_pairs=>k_is)
  (case k_law_pairs=>k_is)
  (case A_law_good=>k_is)
  (case L_law_good=>k_is)
  (case C_law_good=>k_is)
  (case k_law_good=>k_is)
  (case A_law_near=>k_is)
  (case L_law_near=>k_is)
  (case C_law_near=>k_is)
  (case k_law_near=>k_is)
  (case A_law=>k_is)
  (case L_law=>k_is)
  (case C_law=>k_is)
  (case k_law=>k_is)
  (case N_bool=>k_is)
  (case N_dict=>k_is)
  (case N_enumerate=>k_is)
  (case N_int=>k_is)
  (case N_isinstance=>k_is)
  (case N_len=>k_is)
  (case N_list=>k_is)
  (case N_max=>k_is)
  (case N_min=>k_is)
  (case N_range=>k_is)
  (case N_sorted=>k_is)
  (case N_str=>k_is)
  (case N_tuple=>k_is)
#print axioms PySem.Challenge.cw_cubebook_k24_apart_holds
