import PyProof.Rows.All
import Wide.All
import OpenK.AllK
import Wide.FinOn
import Lean
import PyProof.EqAt
import PyProof.EqKinds
import PyProof.TupleCall
import PyProof.TupleKey
import PyProof.DictRoadsH
import Wide.Seal
import PyProof.NeKinds
import PyProof.ZipIter
import PyProof.EnumMake
import PyProof.Rows.TupTab
import KE.KDictLaws
import PyProof.AutoListH
import PyProof.AttrMissHeap
import KE.KDictOf
import KE.KIntText
import PyProof.StrBlockL
import PyProof.StrLawsChain
import PyProof.FString
import PyProof.Rows.FStr
import OpenK.KOwn
import KE.KIsAll
import KE.KDictList
import PySem.Challenge.RW_cubebook_k13_regrouped
set_option Elab.async false
set_option linter.all false
set_option maxRecDepth 100000
namespace L2
open PySem PySem.Spec PyProof.Rows
abbrev Key:=Sum Int Str
def ZoW:Key→Value→Bool
 | .inl k,v=>Value.isInt k v
 | .inr x,v=>Value.isStrOf x v
def Zug (w:World):Key→Int
 | .inl k=>hashInt k
 | .inr x=>hashStr w x
theorem ZaC:∀ {k:Key} {v:Value},ZoW k v=true→(∃ i t,k=Sum.inl i∧v=Value.int i t)∨(∃ x t,k=Sum.inr x∧v=Value.str x t)
 | .inl i,v,h=>by
  obtain ⟨t,e⟩:=Value.isInt_shape (k:=i) (v:=v) h
  exact .inl ⟨i,t,rfl,e⟩
 | .inr x,v,h=>by
  obtain ⟨t,e⟩:=Value.isStrOf_shape (x:=x) (v:=v) h
  exact .inr ⟨x,t,rfl,e⟩
theorem ZqT (a b:Int):decide ((Sum.inl a:Key)=Sum.inl b)=(a==b):=by
 by_cases e:a=b
 ·subst e;simp
 ·have h:¬ (Sum.inl a:Key)=Sum.inl b:=fun q=>e (Sum.inl.inj q)
  rw [decide_eq_false h]
  exact (beq_eq_false_iff_ne.mpr e).symm
theorem ZrI (a b:Str):decide ((Sum.inr a:Key)=Sum.inr b)=decide (a=b):=by
 by_cases e:a=b
 ·subst e;simp
 ·have h:¬ (Sum.inr a:Key)=Sum.inr b:=fun q=>e (Sum.inr.inj q)
  rw [decide_eq_false h,decide_eq_false e]
theorem ZsI (a:Int) (b:Str):decide ((Sum.inl a:Key)=Sum.inr b)=false:=decide_eq_false (fun q=>nomatch q)
theorem Zs4 (a:Str) (b:Int):decide ((Sum.inr a:Key)=Sum.inl b)=false:=decide_eq_false (fun q=>nomatch q)
def Zim (prog:Program) (w:World):PySem.KeyKind prog w Key where
 is:=ZoW
 hash:=Zug w
 inj:=fun v a b ha hb=>by
  rcases ZaC ha with ⟨i,t,rfl,rfl⟩ | ⟨x,t,rfl,rfl⟩
  ·rcases ZaC hb with ⟨j,u,rfl,e⟩ | ⟨y,u,rfl,e⟩
   ·injection e with e1 _;rw [e1]
   ·exact nomatch e
  ·rcases ZaC hb with ⟨j,u,rfl,e⟩ | ⟨y,u,rfl,e⟩
   ·exact nomatch e
   ·injection e with e1 _;rw [e1]
 byValue:=fun k v h=>by
  rcases ZaC h with ⟨i,t,rfl,rfl⟩ | ⟨x,t,rfl,rfl⟩<;>rfl
 pyHash:=fun hv h=>by
  rcases ZaC hv with ⟨i,t,rfl,rfl⟩ | ⟨x,t,rfl,rfl⟩
  ·exact wpAny_pyHash_int h
  ·exact wpAny_pyHash_str h
 eqBool:=fun hu hv h=>by
  rcases ZaC hu with ⟨i,t,rfl,rfl⟩ | ⟨x,t,rfl,rfl⟩
  ·rcases ZaC hv with ⟨j,u,rfl,rfl⟩ | ⟨y,u,rfl,rfl⟩
   ·rw [ZqT] at h;exact wpAny_eqBool_int h
   ·rw [ZsI] at h;exact SeqAt.EqAt.int_str i t y u _ _ _ _ h
  ·rcases ZaC hv with ⟨j,u,rfl,rfl⟩ | ⟨y,u,rfl,rfl⟩
   ·rw [Zs4] at h;exact SeqAt.EqAt.str_int x t j u _ _ _ _ h
   ·rw [ZrI] at h;exact wpAny_eqBool_str h
 «strs»:=fun k x t v h=>by
  rcases ZaC h with ⟨i,u,rfl,e⟩ | ⟨y,u,rfl,e⟩
  ·exact nomatch e
  ·injection e with e1 _
   subst e1
   cases v<;>rfl
end L2
namespace L2
open PySem PySem.Spec PyProof.Rows
inductive V where
 | non | bl (b:Bool) | int (i:Int) | str (x:Str) | byt (b:Array UInt8) | flt (b:UInt64) | ref (a:Addr) | ty (n:String)
 deriving DecidableEq
def RelV:V→Value→Prop
 | .non,u=>u=Value.none
 | .bl b,u=>u=Value.bool b
 | .int i,u=>∃ t,u=Value.int i t
 | .str x,u=>∃ t,u=Value.str x t
 | .byt b,u=>∃ t,u=Value.bytes b t
 | .flt b,u=>∃ t,u=Value.float b t
 | .ref a,u=>u=Value.ref a
 | .ty n,u=>u=Value.type n
abbrev Vals:List V→List Value→Prop:=Paired RelV
theorem Vals.length {xs:List V} {us:List Value} (r:Vals xs us):xs.length=us.length:=Paired.length r
theorem Vals.get:∀ {xs:List V} {us:List Value} {i:Nat} {x:V},Vals xs us→xs[i]?=some x→∃ u,us[i]?=some u∧RelV x u
 | _,_,_,_,.nil,e=>by simp at e
 | _,_,0,_,.cons r _,e=>by simp at e;subst e;exact ⟨_,rfl,r⟩
 | _,_,i+1,x,.cons _ t,e=>by
  obtain ⟨u,h1,h2⟩:=Vals.get (i:=i) (x:=x) t (by simpa using e)
  exact ⟨u,by simpa using h1,h2⟩
theorem Vals.set {x:V} {u:Value} (r:RelV x u):∀ {xs:List V} {us:List Value} (i:Nat),Vals xs us→Vals (xs.set i x) (us.set i u)
 | _,_,_,.nil=>.nil
 | _,_,0,.cons _ t=>.cons r t
 | _,_,i+1,.cons q t=>.cons q (Vals.set r i t)
theorem Vals.append:∀ {xs ys:List V} {us ws:List Value},Vals xs us→Vals ys ws→Vals (xs++ys) (us++ws)
 | _,_,_,_,.nil,s=>s
 | _,_,_,_,.cons r t,s=>.cons r (Vals.append t s)
theorem Vals.take:∀ {xs:List V} {us:List Value} (n:Nat),Vals xs us→Vals (xs.take n) (us.take n)
 | _,_,0,_=>.nil
 | _,_,_+1,.nil=>.nil
 | _,_,n+1,.cons r t=>.cons r (Vals.take n t)
theorem Vals.drop:∀ {xs:List V} {us:List Value} (n:Nat),Vals xs us→Vals (xs.drop n) (us.drop n)
 | _,_,0,r=>r
 | _,_,_+1,.nil=>.nil
 | _,_,n+1,.cons _ t=>Vals.drop n t
def RelO:Option V→Option Value→Prop
 | some v,some u=>RelV v u
 | none,none=>True
 | _,_=>False
def KV {κ:Type}:List (κ×V)→List (κ×Value)→Prop:=Paired fun (p:κ×V) (q:κ×Value)=>p.1=q.1∧RelV p.2 q.2
def kV:Key→V
 | .inl i=>.int i
 | .inr x=>.str x
inductive At where
 | non | int (i:Int) | str (x:Str)
 deriving DecidableEq
def ZgG:At→Value→Bool
 | .non,.none=>true
 | .int k,v=>Value.isInt k v
 | .str x,v=>Value.isStrOf x v
 | _,_=>false
def atH (w:World):At→Int
 | .non=>reduceHash 4238894112
 | .int k=>hashInt k
 | .str x=>hashStr w x
theorem Zbh:∀ {k:At} {v:Value},ZgG k v=true→(k=.non∧v=.none)∨(∃ i t,k=.int i∧v=Value.int i t)∨(∃ x t,k=.str x∧v=Value.str x t)
 | .non,v,h=>by cases v<;>first | exact .inl ⟨rfl,rfl⟩ | exact absurd h Bool.false_ne_true
 | .int i,v,h=>by obtain ⟨t,e⟩:=Value.isInt_shape (k:=i) (v:=v) h;exact .inr (.inl ⟨i,t,rfl,e⟩)
 | .str x,v,h=>by obtain ⟨t,e⟩:=Value.isStrOf_shape (x:=x) (v:=v) h;exact .inr (.inr ⟨x,t,rfl,e⟩)
theorem Zok (i:Int) (t:Tok):ZgG (.int i) (.int i t)=true:=by simp [ZgG,Value.isInt]
theorem ZnL (x:Str) (t:Tok):ZgG (.str x) (.str x t)=true:=by simp [ZgG,Value.isStrOf]
theorem Zm6 {prog:Program} {w:World} {A:Around} {E:Value→Shared→Prop} {s:Shared} {Q:Int→Shared→Prop} (h:Q (reduceHash 4238894112) { s with toks:=s.toks+1 }) :
  wpAny (model prog w) A (PySem.pyHash .none) Q E s :=
 PySem.W.pyHash_slot (T:="NoneType") rfl F.slot_NoneType_hash F.entry_NoneType_hash (F.args_NoneType_hash_1 _) (beq_builtin_none _) (.inl rfl) (wpAny_bind (wpAny_pure (wpAny_bind (wpAny_mkInt (wpAny_pure ⟨_,_,rfl,h⟩)))))
theorem ZmN (a b:Int):decide ((At.int a)=.int b)=(a==b):=by
 by_cases e:a=b
 ·subst e;simp
 ·rw [decide_eq_false (fun q=>e (by injection q))];exact (beq_eq_false_iff_ne.mpr e).symm
theorem Znm (a b:Str):decide ((At.str a)=.str b)=decide (a=b):=by
 by_cases e:a=b
 ·subst e;simp
 ·rw [decide_eq_false (fun q=>e (by injection q)),decide_eq_false e]
def Z4 (prog:Program) (w:World):PySem.KeyKind prog w At where
 is:=ZgG
 hash:=atH w
 inj:=fun v a b ha hb=>by
  rcases Zbh ha with ⟨rfl,rfl⟩ | ⟨i,t,rfl,rfl⟩ | ⟨x,t,rfl,rfl⟩<;>rcases Zbh hb with ⟨rfl,e⟩ | ⟨j,u,rfl,e⟩ | ⟨y,u,rfl,e⟩ <;>
   first | rfl | (cases e;done) | (cases e;rfl)
 byValue:=fun k v h=>by
  rcases Zbh h with ⟨rfl,rfl⟩ | ⟨i,t,rfl,rfl⟩ | ⟨x,t,rfl,rfl⟩<;>rfl
 pyHash:=fun hv h=>by
  rcases Zbh hv with ⟨rfl,rfl⟩ | ⟨i,t,rfl,rfl⟩ | ⟨x,t,rfl,rfl⟩
  ·exact Zm6 h
  ·exact wpAny_pyHash_int h
  ·exact wpAny_pyHash_str h
 eqBool:=fun hu hv h=>by
  rcases Zbh hu with ⟨rfl,rfl⟩ | ⟨i,t,rfl,rfl⟩ | ⟨x,t,rfl,rfl⟩<;>rcases Zbh hv with ⟨rfl,rfl⟩ | ⟨j,u,rfl,rfl⟩ | ⟨y,u,rfl,rfl⟩
  ·exact SeqAt.EqAt.same Value.none _ _ _ _ h
  ·exact SeqAt.EqAt.none_int j u _ _ _ _ h
  ·exact SeqAt.EqAt.none_str y u _ _ _ _ h
  ·exact SeqAt.EqAt.int_none i t _ _ _ _ h
  ·rw [ZmN] at h;exact wpAny_eqBool_int h
  ·exact SeqAt.EqAt.int_str i t y u _ _ _ _ h
  ·exact SeqAt.EqAt.str_none x t _ _ _ _ h
  ·exact SeqAt.EqAt.str_int x t j u _ _ _ _ h
  ·rw [Znm] at h;exact wpAny_eqBool_str h
 «strs»:=fun k x t v h=>by
  rcases Zbh h with ⟨rfl,e⟩ | ⟨i,u,rfl,e⟩ | ⟨y,u,rfl,e⟩
  ·exact nomatch e
  ·exact nomatch e
  ·injection e with e1 _
   subst e1
   cases v<;>rfl
inductive KT where
 | at (a:At) | tup (l:List At)
 deriving DecidableEq
def KT.hash (w:World):KT→Int
 | .at a=>atH w a
 | .tup l=>reduceHash (Builtin.Tuple.tupleHashOf (l.map (atH w)))
def atV:At→V
 | .non=>.non
 | .int i=>.int i
 | .str x=>.str x
def ktV:KT→V→Prop
 | .at a,v=>v=atV a
 | .tup _,v=>∃ p,v=.ref p
def Zg5 (w:World):List KT→List V→List DictEntry→Prop
 | [],vs,es=>vs=[]∧es=[]
 | k::ks,vs,es=>∃ kv v r e t,vs=kv::v::r∧es=e::t∧RelV kv e.key∧RelV v e.val∧e.hash=k.hash w∧ktV k kv∧Zg5 w ks r t
inductive HO where
 | lst (xs:List V)
 | tup (xs:List V)
 | dK (kvs:List (Key×V)) | dT (kvs:List (List Key×V))
 | dct (ks:List KT) (vs:List V)
 | set (S:Int→Bool) (n:Nat)
 | ins (C dx:Addr) (fs:List (Str×V))
 | own (x:Addr)
 | xd (fs:List (Str×V))
 | met (f x:Addr)
 | rng (lo hi:Int)
 | frz (o:Obj) (u:HO)
 | tbl (ps:Array Value)
 | ext (φ:Heap→Prop)
abbrev Hp:=Addr→Option HO
def upd (H:Hp) (a:Addr) (o:HO):Hp:=fun b=>if b=a then some o else H b
theorem Zak {H:Hp} {a:Addr} {o:HO}:upd H a o a=some o:=by unfold upd;rw [if_pos rfl]
theorem ZE {H:Hp} {a b:Addr} {o:HO} (h:b≠a):upd H a o b=H b:=by unfold upd;rw [if_neg h]
theorem Z5 {H:Hp} {a b:Addr} {o:HO} (h:H a=some o) (h':H b=none):a≠b:=by
 intro e;subst e;rw [h] at h';cases h'
section
variable (P:Program) (w:World)
def ObjOk (H:Hp) (h:Heap) (a:Addr):HO→Prop
 | .lst xs=>xs.length≤sizeLine∧∃ (its:List Value) (n:Nat),Vals xs its∧h.get? a=some { cls:=.type "list",data:=.seq its.toArray n }
 | .tup xs=>xs.length≤sizeLine∧∃ its:List Value,Vals xs its∧IsTup h a its.toArray
 | .dK kvs=>kvs.length≤sizeLine∧(a==sysModules)=false∧∃ vs,KV kvs vs∧h.DictOf (Zim P w) a vs
 | .dT kvs=>kvs.length≤sizeLine∧(a==sysModules)=false∧∃ xs:List (List Key×Addr×Value),
   Paired (fun (p:List Key×V) (q:List Key×Addr×Value)=>p.1=q.1∧H q.2.1=some (.tup (p.1.map kV))∧RelV p.2 q.2.2) kvs xs ∧
   ∃ o es ep,h.get? a=some o∧o.ExactDict∧o.data=.dict es ep∧es.toList=xs.map (entryOfKey (tupleKind (Zim P w)))∧(xs.map (·.1)).Nodup
 | .dct ks vs=>ks.length≤sizeLine∧(a==sysModules)=false∧ks.Nodup∧∃ o es ep,h.get? a=some o∧o.ExactDict∧o.data=.dict es ep∧Zg5 w ks vs es.toList
 | .set S n=>h.SetOf (intKind P w) a S n
 | .ins C dx fs=>H dx=some (.own a)∧fs.length≤1000∧dx≠a∧h.get? a=some (PySem.W.instObj C dx) ∧
   ∃ mA,h.Ns1 dx mA∧(∀ f,RelO (fs.lookup f) (mA f))∧PySem.Within mA (fs.map (·.1))
 | .own _=>∃ o,h.get? a=some o
 | .xd fs=>∃ mA,h.Ns1 a mA∧∀ f,RelO (fs.lookup f) (mA f)
 | .rng lo hi=>∃ t u v,h.get? a=some { cls:=.type "range",data:=.fields #[.int lo t,.int hi u,.int 1 v] }
 | .frz o u=>h.get? a=some o∧ObjOk H h a u
 | .tbl ps=>h.get? a=some { cls:=.none,data:=.fields ps }
 | .met f x=>h.get? a=some (PySem.W.methodObj (.ref f) (.ref x))
 | .ext φ=>φ h∧(∃ o,h.get? a=some o)∧∀ h1 h2:Heap,φ h1→(∀ o,h1.get? a=some o→h2.get? a=some o)→φ h2
def HOk (H:Hp) (h:Heap):Prop:=∀ a o,H a=some o→ObjOk P w H h a o
end
section
variable {P:Program} {w:World} {H H':Hp} {h h':Heap} {a:Addr} {o:HO}
theorem ObjOk.lt (x:ObjOk P w H h a o):a<h.objs.size:=by
 cases o with
 | lst xs=>obtain ⟨_,_,_,_,e⟩:=x;exact Heap.lt_size e
 | tup xs=>obtain ⟨_,_,_,p⟩:=x;exact p.lt
 | dK kvs=>obtain ⟨_,_,_,_,o,_,_,e,_⟩:=x;exact Heap.lt_size e
 | dT kvs=>obtain ⟨_,_,_,_,o,_,_,e,_⟩:=x;exact Heap.lt_size e
 | dct ks vs=>obtain ⟨_,_,_,o,_,_,e,_⟩:=x;exact Heap.lt_size e
 | set S n=>obtain ⟨o,_,_,_,e,_⟩:=x;exact Heap.lt_size e
 | ins C dx fs=>obtain ⟨_,_,_,e,_⟩:=x;exact Heap.lt_size e
 | own y=>obtain ⟨_,e⟩:=x;exact Heap.lt_size e
 | xd fs=>obtain ⟨_,⟨_,_,_,e,_⟩,_⟩:=x;exact Heap.lt_size e
 | rng lo hi=>obtain ⟨_,_,_,e⟩:=x;exact Heap.lt_size e
 | frz ob u=>obtain ⟨e,_⟩:=x;exact Heap.lt_size e
 | tbl ps=>exact Heap.lt_size (show h.get? a=some _ from x)
 | met f y=>exact Heap.lt_size (show h.get? a=some _ from x)
 | ext φ=>obtain ⟨_,⟨_,e⟩,_⟩:=x;exact Heap.lt_size e
theorem Paired.mapP {α β:Type} {F G:α→β→Prop}:∀ {l₁:List α} {l₂:List β},Paired F l₁ l₂→(∀ a b,F a b→G a b)→Paired G l₁ l₂
 | _,_,.nil,_=>.nil
 | _,_,.cons r t,f=>.cons (f _ _ r) (Paired.mapP t f)
theorem ObjOk.stay (x:ObjOk P w H h a o) (k:∀ b u,(b=a∨H b=some (.own a))→h.get? b=some u→h'.get? b=some u)
  (ho:∀ b,H b=some (.own a)→H' b=some (.own a)) (ht:∀ b xs,H b=some (.tup xs)→H' b=some (.tup xs)):ObjOk P w H' h' a o:=by
 induction o with
 | lst xs=>obtain ⟨z,its,n,r,e⟩:=x;exact ⟨z,its,n,r,k _ _ (.inl rfl) e⟩
 | tup xs=>obtain ⟨z,its,r,ob,e,c⟩:=x;exact ⟨z,its,r,ob,k _ _ (.inl rfl) e,c⟩
 | dK kvs=>obtain ⟨z,y,vs,r,ob,es,ep,e,c⟩:=x;exact ⟨z,y,vs,r,ob,es,ep,k _ _ (.inl rfl) e,c⟩
 | dT kvs =>
  obtain ⟨z,y,xs,r,ob,es,ep,e,c⟩:=x
  exact ⟨z,y,xs,Paired.mapP r fun p q z=>⟨z.1,ht _ _ z.2.1,z.2.2⟩,ob,es,ep,k _ _ (.inl rfl) e,c⟩
 | dct ks vs=>obtain ⟨z,y,n,ob,es,ep,e,c⟩:=x;exact ⟨z,y,n,ob,es,ep,k _ _ (.inl rfl) e,c⟩
 | set S n=>obtain ⟨ob,es,ep,t,e,c⟩:=x;exact ⟨ob,es,ep,t,k _ _ (.inl rfl) e,c⟩
 | ins C dx fs =>
  obtain ⟨d,z,ne,e,mA,⟨od,es,ep,e2,c⟩,r⟩:=x
  exact ⟨ho _ d,z,ne,k _ _ (.inl rfl) e,mA,⟨od,es,ep,k _ _ (.inr d) e2,c⟩,r⟩
 | own y=>obtain ⟨ob,e⟩:=x;exact ⟨ob,k _ _ (.inl rfl) e⟩
 | xd fs=>obtain ⟨mA,⟨od,es,ep,e,c⟩,r⟩:=x;exact ⟨mA,⟨od,es,ep,k _ _ (.inl rfl) e,c⟩,r⟩
 | rng lo hi=>obtain ⟨t,u,v,e⟩:=x;exact ⟨t,u,v,k _ _ (.inl rfl) e⟩
 | frz ob u ih=>obtain ⟨e,q⟩:=x;exact ⟨k _ _ (.inl rfl) e,ih q⟩
 | tbl ps =>
  have e:h.get? a=some { cls:=.none,data:=.fields ps }:=x
  show h'.get? a=some { cls:=.none,data:=.fields ps }
  exact k a _ (.inl rfl) e
 | met f y =>
  have e:h.get? a=some (PySem.W.methodObj (.ref f) (.ref y)):=x
  show h'.get? a=some (PySem.W.methodObj (.ref f) (.ref y))
  exact k a _ (.inl rfl) e
 | ext φ=>obtain ⟨p,⟨o,e⟩,st⟩:=x;exact ⟨st _ _ p fun o q=>k _ _ (.inl rfl) q,⟨o,k _ _ (.inl rfl) e⟩,st⟩
theorem HOk.lt (x:HOk P w H h) (e:H a=some o):a<h.objs.size:=(x a o e).lt
theorem HOk.fresh (x:HOk P w H h) (e:h.objs.size≤a):H a=none:=by
 cases q:H a with
 | none=>rfl
 | some u=>exact absurd (Nat.lt_of_lt_of_le (x.lt q) e) (Nat.lt_irrefl _)
theorem HOk.kept (x:HOk P w H h) (k:∀ b u,h.get? b=some u→h'.get? b=some u):HOk P w H h':=fun a o e =>
 (x a o e).stay (fun b u _ q=>k b u q) (fun _ q=>q) fun _ _ q=>q
theorem HOk.laid (x:HOk P w H h) (k:∀ b u,h.get? b=some u→h'.get? b=some u) (hp:h.objs.size≤a) (new:ObjOk P w (upd H a o) h' a o):HOk P w (upd H a o) h':=fun b u e=>by
 have hn:=x.fresh hp
 by_cases hb:b=a
 ·subst hb;rw [Zak] at e;cases e;exact new
 ·rw [ZE hb] at e
  exact (x b u e).stay (fun c v _ q=>k c v q) (fun c q=>by rw [ZE (Z5 q hn)];exact q) fun c xs q=>by rw [ZE (Z5 q hn)];exact q
end
def Rd (H:Hp) (a:Addr) (u:HO):Prop:=H a=some u∨∃ o,H a=some (.frz o u)
theorem Rd.of {H:Hp} {a:Addr} {u:HO} (h:H a=some u):Rd H a u:=.inl h
theorem Rd.ok {P:Program} {w:World} {H:Hp} {h:Heap} {a:Addr} {u:HO} (r:Rd H a u) (x:HOk P w H h):ObjOk P w H h a u:=by
 rcases r with r | ⟨o,r⟩
 ·exact x a u r
 ·obtain ⟨_,q⟩:=x a _ r
  exact q
def Mut:Option HO→Prop
 | some (.lst _)=>True
 | some (.dK _)=>True
 | some (.dT _)=>True
 | some (.dct _ _)=>True
 | some (.set _ _)=>True
 | some (.ins _ _ _)=>True
 | some (.ext _)=>True
 | _=>False
section
variable {P:Program} {w:World} {H:Hp} {h h':Heap} {x e:Addr} {o':HO}
theorem HOk.write (ok:HOk P w H h) (mu:Mut (H x)) (he:e=x∨H e=some (.own x)) (k:∀ b u,b≠e→h.get? b=some u→h'.get? b=some u) (heo:∃ u,h'.get? e=some u)
  (new:ObjOk P w (upd H x o') h' x o'):HOk P w (upd H x o') h':=fun b u q=>by
 have nown:∀ c y,H c=some (.own y)→c≠x:=fun c y r z=>by subst z;rw [r] at mu;exact mu
 have ntup:∀ c xs,H c=some (.tup xs)→c≠x:=fun c xs r z=>by subst z;rw [r] at mu;exact mu
 by_cases hb:b=x
 ·subst hb;rw [Zak] at q;cases q;exact new
 ·rw [ZE hb] at q
  by_cases hbe:b=e
  ·have q':H b=some (.own x):=by
    rcases he with z | z
    ·exact absurd (hbe.trans z) hb
    ·rw [hbe];exact z
   rw [q] at q';cases q'
   obtain ⟨v,hv⟩:=heo
   exact ⟨v,by rw [hbe];exact hv⟩
  ·refine (ok b u q).stay (fun c v hc r=>k c v ?_ r) (fun c r=>by rw [ZE (nown c b r)];exact r) fun c xs r=>by rw [ZE (ntup c xs r)];exact r
   rcases hc with rfl | hc
   ·exact hbe
   ·rintro rfl
    rcases he with z | z
    ·exact nown c b hc z
    ·rw [hc] at z;cases z;exact hb rfl
end
structure Un (fs ex:List Addr) (H H':Hp) (h h':Heap):Prop where
 keep:∀ b o,h.get? b=some o→H b=none→b∉fs→b∉ex→h'.get? b=some o
 slot:∀ b o,h.get? b=some o→H b=none→b∈fs→b∉ex→∃ sl,h'.get? b=some { o with slots:=sl }
 free:∀ b o,h.get? b=some o→H b=none→b∉ex→H' b=none
 there:∀ b o,h.get? b=some o→b∉ex→∃ o',h'.get? b=some o'
 tups:∀ b xs,H b=some (.tup xs)→H' b=some (.tup xs)
 frzs:∀ b o u,H b=some (.frz o u)→H' b=some (.frz o u)
 tbls:∀ b ps,H b=some (.tbl ps)→∃ more,H' b=some (.tbl (ps++more))
section
variable {fs fs' ex ex':List Addr} {H H1 H2:Hp} {h h1 h2 h':Heap} {a x e:Addr} {o:HO}
theorem Un.any (u:Un fs ex H H1 h h1) {b:Addr} {ob:Obj} (q:h.get? b=some ob) (n:H b=none) (hx:b∉ex):∃ sl,h1.get? b=some { ob with slots:=sl }:=by
 by_cases hb:b∈fs
 ·exact u.slot b ob q n hb hx
 ·exact ⟨ob.slots,u.keep b ob q n hb hx⟩
theorem Un.trans (a:Un fs ex H H1 h h1) (b:Un fs ex H1 H2 h1 h2):Un fs ex H H2 h h2 where
 keep:=fun c ob q n hc hx=>b.keep c ob (a.keep c ob q n hc hx) (a.free c ob q n hx) hc hx
 slot:=fun c ob q n hc hx=>by
  obtain ⟨sl,e1⟩:=a.slot c ob q n hc hx
  obtain ⟨sl',e2⟩:=b.slot c _ e1 (a.free c ob q n hx) hc hx
  exact ⟨sl',e2⟩
 free:=fun c ob q n hx=>by
  obtain ⟨o',e1⟩:=a.there c ob q hx
  exact b.free c o' e1 (a.free c ob q n hx) hx
 there:=fun c ob q hx=>by
  obtain ⟨o',e1⟩:=a.there c ob q hx
  exact b.there c o' e1 hx
 tups:=fun c xs q=>b.tups c xs (a.tups c xs q)
 frzs:=fun c ob xs q=>b.frzs c ob xs (a.frzs c ob xs q)
 tbls:=fun c ps q=>by
  obtain ⟨m1,e1⟩:=a.tbls c ps q
  obtain ⟨m2,e2⟩:=b.tbls c _ e1
  exact ⟨m1++m2,by rw [e2,Array.append_assoc]⟩
theorem Un.kept (k:∀ b u,h.get? b=some u→h'.get? b=some u):Un fs ex H H h h' :=
 ⟨fun b ob q _ _ _=>k b ob q,fun b ob q _ _ _=>⟨ob.slots,k b ob q⟩,fun _ _ _ n _=>n,fun b ob q _=>⟨ob,k b ob q⟩,fun _ _ q=>q,fun _ _ _ q=>q,fun _ ps q=>⟨#[],by rw [q];simp⟩⟩
theorem Un.refl:Un fs ex H H h h:=Un.kept fun _ _ q=>q
theorem Un.laid (k:∀ b u,h.get? b=some u→h'.get? b=some u) (hp:h.objs.size≤a) (hn:H a=none):Un fs ex H (upd H a o) h h' where
 keep:=fun b u q _ _ _=>k b u q
 slot:=fun b u q _ _ _=>⟨u.slots,k b u q⟩
 free:=fun b u q n _=>by rw [ZE (Nat.ne_of_lt (Nat.lt_of_lt_of_le (Heap.lt_size q) hp))];exact n
 there:=fun b u q _=>⟨u,k b u q⟩
 tups:=fun b xs q=>by rw [ZE (Z5 q hn)];exact q
 frzs:=fun b u xs q=>by rw [ZE (Z5 q hn)];exact q
 tbls:=fun b ps q=>⟨#[],by rw [ZE (Z5 q hn),q];simp⟩
theorem Un.write (mu:Mut (H x)) (he:e=x∨H e=some (.own x)) (k:∀ b u,b≠e→h.get? b=some u→h'.get? b=some u) (heo:∃ u,h'.get? e=some u):Un fs ex H (upd H x o) h h':=by
 have hx:∀ b,H b=none→b≠x:=fun b n z=>by subst z;rw [n] at mu;exact mu
 have hb:∀ b,H b=none→b≠e:=fun b n z=>by
  subst z
  rcases he with r | r
  ·exact hx b n r
  ·rw [n] at r;cases r
 have hm:∀ b u,H b=some u→¬ Mut (some u)→b≠x:=fun b u q nm z=>by subst z;rw [q] at mu;exact nm mu
 refine ⟨fun b u q n _ _=>k b u (hb b n) q,fun b u q n _ _=>⟨u.slots,k b u (hb b n) q⟩,fun b u q n _=>by rw [ZE (hx b n)];exact n,fun b u q _=>?_,
  fun b xs q=>by rw [ZE (hm b _ q fun z=>z)];exact q,fun b u xs q=>by rw [ZE (hm b _ q fun z=>z)];exact q,fun b ps q=>⟨#[],by rw [ZE (hm b _ q fun z=>z),q];simp⟩⟩
 by_cases hbe:b=e
 ·subst hbe;exact heo
 ·exact ⟨u,k b u hbe q⟩
theorem Un.mono (u:Un fs ex H H1 h h1) (hs:∀ b∈fs,b∈fs') (hx:∀ b∈ex,b∈ex'):Un fs' ex' H H1 h h1 :=
 ⟨fun b ob q n hb he=>u.keep b ob q n (fun z=>hb (hs b z)) fun z=>he (hx b z),fun _ _ q n _ he=>u.any q n fun z=>he (hx _ z),fun b ob q n he=>u.free b ob q n fun z=>he (hx b z),fun b ob q he=>u.there b ob q fun z=>he (hx b z),u.tups,u.frzs,u.tbls⟩
end
def trk (h:Heap) (H:Hp):List Addr:=(List.range h.objs.size).filter fun a=>(H a).isSome
def Zfz (h:Heap) (H:Hp):Heap:=PySem.W.hideAll h (trk h H)
theorem ZmT (h:Heap) (H:Hp):(Zfz h H).objs.size=h.objs.size:=PySem.W.hideAll_size _ _
theorem ZoC {h:Heap} {H:Hp} {b:Addr} {o:Obj} (e:h.get? b=some o) (n:H b=none):(Zfz h H).get? b=some o :=
 PySem.W.hideAll_get _ e fun hm=>by
  have q:(H b).isSome=true:=(List.mem_filter.mp hm).2
  rw [n] at q;simp at q
theorem Zqw {h:Heap} {H:Hp} {b:Addr} {o:Obj} (e:(Zfz h H).get? b=some o):h.get? b=some o∧H b=none:=by
 have e':h.get? b=some o:=PySem.W.of_hideAll (trk h H) e
 refine ⟨e',?_⟩
 cases q:H b with
 | none=>rfl
 | some x =>
  have hm:b∈trk h H:=List.mem_filter.mpr ⟨List.mem_range.mpr (Heap.lt_size e'),by simp [q]⟩
  have z:(Zfz h H).get? b=none:=PySem.W.hideAll_none (trk h H) hm
  rw [z] at e;cases e
def ZpG (g h:Heap) (L:Addr):List (Addr×Obj):=(List.range h.objs.size).filterMap fun a=>if a=L∨(g.get? a).isSome=true then none else (h.get? a).map fun o=>(a,o)
def rest (g h:Heap) (L d:Addr):List (Addr×Obj):=(ZpG g h L).filter fun p=>decide (p.1≠d)
end L2
namespace L2
open PySem PySem.Spec PyProof.Rows
structure Mod (K:PySem.W.Frag) (mg:Str→Option Value) (base:Heap):Prop where
 kin:K.In base
 glob:base.Ns mainGlobals mg
 blt:∃ mb,base.Ns builtinsNs mb∧∀ x:Str,x≠"__name__"→mb x=bootBuiltins x
 nolimit:base.NoLimit
structure Cx where
 prog:Program
 w:World
 K:PySem.W.Frag
 mg:Str→Option Value
 base:Heap
 A:Around
 N:List Str
 s₀:Shared
 H₀:Hp
 env:Env
 outer:List Env
 stack:List Env
 ex:List Addr
 fn:Str→Bool
 calm:Bool
 pn:List (Addr×Obj)
 xe:Value→Shared→Prop
def frs (l:List Env):List Addr:=l.filterMap (·.frame)
abbrev Cx.fs (X:Cx):List Addr:=frs X.outer
def Vis (sc:Scope) (x:Str):Prop:=sc.names.lookup x=some .local∨sc.names.lookup x=some .cell∨sc.names.lookup x=some .free
def Loc (sc:Scope) (x:Str):Prop:=sc.names.lookup x=some .local∨sc.names.lookup x=some .cell
def ZuB (env:Env) (h:Heap) (m:Str→Option Value) (x:Str) (u:Value):Prop :=
 (env.kindOf x=some .local∧m x=some u)∨((env.kindOf x=some .cell∨env.kindOf x=some .free)∧∃ c,env.cells.lookup x=some c∧h.IsCell c (some u))
structure Cx.Ok (X:Cx):Prop where
 mod:Mod X.K X.mg X.base
 kind:X.env.scope.kind=.function
 glob:X.env.globals=mainGlobals
 blt:X.env.builtins=builtinsNs
 above:X.s₀.heap.objs.size≤X.env.locals
 inj:∀ x y c,X.env.cells.lookup x=some c→X.env.cells.lookup y=some c→x=y
 has:∀ x,(X.env.kindOf x=some .cell∨X.env.kindOf x=some .free)→∃ c,X.env.cells.lookup x=some c
 cab:∀ x c,X.fn x=true→X.env.cells.lookup x=some c→X.s₀.heap.objs.size≤c
 hd:X.calm=true→X.A.handled=none
 frames:X.A.frames=some X.stack
 stk:X.stack=X.outer∨(X.stack=X.env::X.outer∧X.env.frame=some X.env.locals)
 exf:∀ b∈X.ex,b≠X.env.locals∧∀ x c,X.env.cells.lookup x=some c→c≠b
 bs:∀ b o,X.base.get? b=some o→X.s₀.heap.get? b=some o∧X.H₀ b=none
 bsz:X.base.objs.size≤X.s₀.heap.objs.size
 noex:∀ b o,X.base.get? b=some o→b∉X.ex
 exfs:∀ b∈X.ex,b∉X.fs
 funs:X.s₀.heap.FunFrames X.base X.outer
 frf:∀ b∈X.fs,X.H₀ b=none
structure Inv (X:Cx) (pins:List (Addr×Obj)) (σ:List (Option V)) (H:Hp) (s:Shared):Prop where
 ok:X.Ok
 os:s.os=X.s₀.os
 bare:AllBare s.gens
 base:Un X.fs X.ex X.H₀ H X.s₀.heap s.heap
 loc:∃ m,s.heap.Ns X.env.locals m∧∀ (i:Nat) (x:Str) (v:V),X.N[i]?=some x→σ[i]?=some (some v)→Vis X.env.scope x→∃ u,RelV v u∧ZuB X.env s.heap m x u
 cell:∀ x c,X.env.cells.lookup x=some c→∃ v,s.heap.IsCell c v
 free:H X.env.locals=none
 freeC:∀ x c,X.env.cells.lookup x=some c→H c=none
 pin:∀ p∈X.pn++pins,s.heap.get? p.1=some p.2∧H p.1=none∧p.1≠X.env.locals∧p.1∉X.fs∧∀ v,p.2.data≠.cell v
 hok:HOk X.prog X.w H s.heap
 len:σ.length=X.N.length
section
variable {X:Cx} {pins:List (Addr×Obj)} {σ:List (Option V)} {H H':Hp} {s:Shared} {h':Heap}
theorem Cx.Ok.nofr (ok:X.Ok) {b:Addr} {o:Obj} (e:X.base.get? b=some o):b∉X.fs:=fun hb=>by
 have:=(ok.funs.mem hb).1
 rw [e] at this;cases this
theorem Inv.bs (I:Inv X pins σ H s):∀ b o,X.base.get? b=some o→s.heap.get? b=some o∧H b=none:=fun b o e =>
 ⟨I.base.keep b o (I.ok.bs b o e).1 (I.ok.bs b o e).2 (I.ok.nofr e) (I.ok.noex b o e),I.base.free b o (I.ok.bs b o e).1 (I.ok.bs b o e).2 (I.ok.noex b o e)⟩
theorem Inv.bk (I:Inv X pins σ H s):∀ b o,X.base.get? b=some o→s.heap.get? b=some o:=fun b o e=>(I.bs b o e).1
theorem Inv.mod (I:Inv X pins σ H s):Mod X.K X.mg X.base:=I.ok.mod
theorem Inv.kIn (I:Inv X pins σ H s):X.K.In s.heap:=I.ok.mod.kin.keeps I.bk
theorem Inv.nolimit (I:Inv X pins σ H s):s.heap.NoLimit:=I.ok.mod.nolimit.keeps I.bk
theorem Inv.fr (I:Inv X pins σ H s):∃ m,Fr X.base X.env.locals s.heap m :=
 let ⟨m,hn,_⟩:=I.loc
 ⟨m,hn,I.bk,Nat.le_trans I.ok.bsz I.ok.above⟩
theorem Inv.lt (I:Inv X pins σ H s):X.env.locals<s.heap.objs.size:=let ⟨_,hn,_⟩:=I.loc;hn.lt
theorem Inv.sz (I:Inv X pins σ H s):X.s₀.heap.objs.size≤s.heap.objs.size:=Nat.le_trans I.ok.above (Nat.le_of_lt I.lt)
theorem Inv.nofs (I:Inv X pins σ H s) {a:Addr} (h:s.heap.objs.size≤a):a∉X.fs:=fun hb=>by
 obtain ⟨_,o,ho,_⟩:=I.ok.funs.mem hb
 exact absurd (Nat.lt_of_lt_of_le (Heap.lt_size ho) (Nat.le_trans I.sz h)) (Nat.lt_irrefl _)
theorem Inv.cne (I:Inv X pins σ H s):∀ x c,X.env.cells.lookup x=some c→c≠X.env.locals:=fun x c e z=>by
 obtain ⟨v,o,ho,hd⟩:=I.cell x c e
 obtain ⟨m,⟨o',es,ep,ho',hd',_⟩,_⟩:=I.loc
 rw [z,ho'] at ho;cases ho;rw [hd'] at hd;cases hd
theorem Inv.funs (I:Inv X pins σ H s):s.heap.FunFrames X.base X.outer:=by
 have all:∀ (l:List Env),(∀ b∈frs l,b∈X.fs)→X.s₀.heap.FunFrames X.base l→s.heap.FunFrames X.base l:=by
  intro l
  induction l with
  | nil=>intro _ _;trivial
  | cons env r ih =>
   intro hs hl
   obtain ⟨hk,⟨L,o,hf,hn,ho,hd⟩,hr⟩:=hl
   have hL:L∈X.fs:=hs L (by unfold frs;rw [List.filterMap_cons,hf];exact List.mem_cons_self)
   obtain ⟨sl,e⟩:=I.base.slot L o ho (I.ok.frf L hL) hL fun z=>I.ok.exfs L z hL
   exact ⟨hk,⟨L,_,hf,hn,e,hd⟩,ih (fun b hb=>hs b (by unfold frs;rw [List.filterMap_cons,hf];exact List.mem_cons_of_mem _ hb)) hr⟩
 exact all X.outer (fun _ hb=>hb) I.ok.funs
theorem Inv.stack (I:Inv X pins σ H s):s.heap.FunFrames X.base X.stack:=by
 rcases I.ok.stk with e | ⟨e,hf⟩
 ·rw [e];exact I.funs
 ·rw [e]
  obtain ⟨m,hn,_⟩:=I.loc
  refine .cons (by rw [I.ok.kind];decide) hf hn ?_ I.funs
  exact Heap.get?_none_of_le (Nat.le_trans I.ok.bsz I.ok.above)
theorem Inv.stkSub (I:Inv X pins σ H s):∀ b∈frs X.stack,b∈X.env.locals::X.fs:=fun b hb=>by
 rcases I.ok.stk with e | ⟨e,hf⟩
 ·rw [e] at hb;exact List.mem_cons_of_mem _ hb
 ·rw [e] at hb
  unfold frs at hb
  rw [List.filterMap_cons,hf] at hb
  exact hb
theorem Inv.stkFree (I:Inv X pins σ H s):∀ b∈frs X.stack,H b=none:=fun b hb=>by
 rcases List.mem_cons.mp (I.stkSub b hb) with e | hb
 ·rw [e];exact I.free
 ·obtain ⟨_,o,ho,_⟩:=I.ok.funs.mem hb
  exact I.base.free b o ho (I.ok.frf b hb) fun z=>I.ok.exfs b z hb
theorem Inv.step {g':Array GenState} {t':Nat} {d':Drawn} {ch:List Addr} (I:Inv X pins σ H s)
  (hch:∀ b∈ch,(b∈X.ex∨X.s₀.heap.objs.size≤b)∧b≠X.env.locals∧(∀ x c,X.env.cells.lookup x=some c→c≠b)∧∀ p∈X.pn++pins,p.1≠b)
  (keep:∀ b o,b≠X.env.locals→b∉X.fs→b∉ch→s.heap.get? b=some o→H b=none→h'.get? b=some o)
  (slot:∀ b o,b≠X.env.locals→b∈X.fs→b∉ch→s.heap.get? b=some o→H b=none→∃ sl,h'.get? b=some { o with slots:=sl }) (free:∀ b o,b∉ch→s.heap.get? b=some o→H b=none→H' b=none)
  (there:∀ b o,b∉ch→s.heap.get? b=some o→∃ o',h'.get? b=some o')
  (tups:∀ b xs,H b=some (.tup xs)→H' b=some (.tup xs)) (frzs:∀ b o u,H b=some (.frz o u)→H' b=some (.frz o u)) (tbls:∀ b ps,H b=some (.tbl ps)→∃ more,H' b=some (.tbl (ps++more)))
  (ns:∀ m,s.heap.Ns X.env.locals m→h'.Ns X.env.locals m) (hok:HOk X.prog X.w H' h') (hg:AllBare g') :
  Inv X pins σ H' { s with heap:=h',gens:=g',drawn:=d',toks:=t' }:=by
 have neL:∀ b o,X.s₀.heap.get? b=some o→b≠X.env.locals:=fun b o e=>Nat.ne_of_lt (Nat.lt_of_lt_of_le (Heap.lt_size e) I.ok.above)
 have neC:∀ b o,X.s₀.heap.get? b=some o→b∉X.ex→b∉ch:=fun b o e hx hb=>by
  rcases (hch b hb).1 with z | z
  ·exact hx z
  ·exact absurd (Nat.lt_of_lt_of_le (Heap.lt_size e) z) (Nat.lt_irrefl _)
 have cellK:∀ x c,X.env.cells.lookup x=some c→∀ v,s.heap.IsCell c v→h'.IsCell c v:=fun x c e v ⟨o,ho,hd⟩=>by
  have nch:c∉ch:=fun z=>(hch c z).2.2.1 x c e rfl
  by_cases hc:c∈X.fs
  ·obtain ⟨sl,q⟩:=slot c o (I.cne x c e) hc nch ho (I.freeC x c e)
   exact ⟨_,q,hd⟩
  ·exact ⟨o,keep c o (I.cne x c e) hc nch ho (I.freeC x c e),hd⟩
 refine ⟨I.ok,I.os,hg,⟨fun b o e n hb hx=>?_,fun b o e n hb hx=>?_,fun b o e n hx=>?_,fun b o e hx=>?_,fun b xs e=>tups b xs (I.base.tups b xs e),fun b o xs e=>frzs b o xs (I.base.frzs b o xs e),fun b ps e=>?_⟩,?_,fun x c e=>?_,?_,fun x c e=>?_,fun p hp=>?_,hok,I.len⟩
 ·exact keep b o (neL b o e) hb (neC b o e hx) (I.base.keep b o e n hb hx) (I.base.free b o e n hx)
 ·obtain ⟨sl,e1⟩:=I.base.slot b o e n hb hx
  obtain ⟨sl',e2⟩:=slot b _ (neL b o e) hb (neC b o e hx) e1 (I.base.free b o e n hx)
  exact ⟨sl',e2⟩
 ·obtain ⟨o',e1⟩:=I.base.there b o e hx
  exact free b o' (neC b o e hx) e1 (I.base.free b o e n hx)
 ·obtain ⟨o',e1⟩:=I.base.there b o e hx
  exact there b o' (neC b o e hx) e1
 ·obtain ⟨m1,e1⟩:=I.base.tbls b ps e
  obtain ⟨m2,e2⟩:=tbls b _ e1
  exact ⟨m1++m2,by rw [e2,Array.append_assoc]⟩
 ·obtain ⟨m,hn,hl⟩:=I.loc
  refine ⟨m,ns m hn,fun i x v e1 e2 e3=>?_⟩
  obtain ⟨u,r,l⟩:=hl i x v e1 e2 e3
  refine ⟨u,r,?_⟩
  rcases l with l | ⟨k,c,e,z⟩
  ·exact .inl l
  ·exact .inr ⟨k,c,e,cellK x c e _ z⟩
 ·obtain ⟨v,z⟩:=I.cell x c e
  exact ⟨v,cellK x c e v z⟩
 ·obtain ⟨m,⟨o,_,_,ho,_⟩,_⟩:=I.loc
  exact free _ o (fun z=>(hch _ z).2.1 rfl) ho I.free
 ·obtain ⟨v,o,ho,hd⟩:=I.cell x c e
  exact free c o (fun z=>(hch c z).2.2.1 x c e rfl) ho (I.freeC x c e)
 ·obtain ⟨e,n,ne,nf,d⟩:=I.pin p hp
  have nch:p.1∉ch:=fun z=>(hch p.1 z).2.2.2 p hp rfl
  exact ⟨keep p.1 p.2 ne nf nch e n,free p.1 p.2 nch e n,ne,nf,d⟩
theorem Inv.un {t':Nat} (I:Inv X pins σ H s) (u:Un X.fs [] H H' s.heap h') (hok:HOk X.prog X.w H' h'):Inv X pins σ H' { s with heap:=h',toks:=t' }:=by
 obtain ⟨m,⟨o,es,ep,ho,r⟩,_⟩:=id I.loc
 obtain ⟨sl,hL⟩:=u.any ho I.free (by simp)
 exact I.step (g':=s.gens) (d':=s.drawn) (ch:=[]) (fun _ z=>nomatch z) (fun b o _ hb _ e n=>u.keep b o e n hb (by simp)) (fun b o _ hb _ e n=>u.slot b o e n hb (by simp)) (fun b o _ e n=>u.free b o e n (by simp)) (fun b o _ e=>u.there b o e (by simp)) u.tups u.frzs u.tbls (fun m' hm=>by
  obtain ⟨o',es',ep',ho',r'⟩:=hm
  rw [ho] at ho';cases ho'
  exact ⟨_,es',ep',hL,r'⟩) hok I.bare
theorem Inv.call {g':Array GenState} {t':Nat} {d':Drawn} {ch:List Addr} (I:Inv X pins σ H s) (u:Un (frs X.stack) ch H H' s.heap h') (hok:HOk X.prog X.w H' h') (hg:AllBare g')
  (hch:∀ b∈ch,(b∈X.ex∨X.s₀.heap.objs.size≤b)∧b≠X.env.locals∧(∀ x c,X.env.cells.lookup x=some c→c≠b)∧∀ p∈X.pn++pins,p.1≠b) :
  Inv X pins σ H' { s with heap:=h',gens:=g',drawn:=d',toks:=t' }:=by
 obtain ⟨m,⟨o,es,ep,ho,r⟩,_⟩:=id I.loc
 obtain ⟨sl,hL⟩:=u.any ho I.free fun z=>(hch _ z).2.1 rfl
 exact I.step (ch:=ch) hch (fun b o hL hb hc e n=>u.keep b o e n (fun z=>(List.mem_cons.mp (I.stkSub b z)).elim hL hb) hc) (fun b o _ _ hc e n=>u.any e n hc) (fun b o hc e n=>u.free b o e n hc) (fun b o hc e=>u.there b o e hc) u.tups u.frzs u.tbls (fun m' hm=>by
  obtain ⟨o',es',ep',ho',r'⟩:=hm
  rw [ho] at ho';cases ho'
  exact ⟨_,es',ep',hL,r'⟩) hok hg
theorem Inv.turned {t':Nat} {it:Addr} (I:Inv X pins σ H s) (k:∀ b o,b≠it→s.heap.get? b=some o→h'.get? b=some o) (hn:H it=none) (hL:it≠X.env.locals)
  (h1:it∈X.ex∨X.s₀.heap.objs.size≤it) (h2:∀ x c,X.env.cells.lookup x=some c→c≠it) (h3:∀ p∈X.pn++pins,p.1≠it):Inv X pins σ H { s with heap:=h',toks:=t' }:=by
 have nit:∀ b u,H b=some u→b≠it:=fun b u e z=>by rw [z,hn] at e;cases e
 refine I.step (g':=s.gens) (d':=s.drawn) (ch:=[it]) (fun b hb=>?_) (fun b o _ _ hc e _=>k b o (fun z=>hc (by simp [z])) e) (fun b o _ _ hc e _=>⟨o.slots,k b o (fun z=>hc (by simp [z])) e⟩) (fun _ _ _ _ n=>n)
  (fun b o hc e=>⟨o,k b o (fun z=>hc (by simp [z])) e⟩) (fun _ _ e=>e) (fun _ _ _ e=>e) (fun b ps e=>⟨#[],by rw [e];simp⟩) (fun m hm=>?_) (fun b u e=>?_) I.bare
 ·have e:b=it:=by simpa using hb
  subst e
  exact ⟨h1,hL,h2,h3⟩
 ·obtain ⟨o,es,ep,ho,r⟩:=hm
  exact ⟨o,es,ep,k _ o (Ne.symm hL) ho,r⟩
 ·refine (I.hok b u e).stay (fun c v hc q=>k c v ?_ q) (fun _ q=>q) fun _ _ q=>q
  rcases hc with z | z
  ·rw [z];exact nit b u e
  ·exact nit c _ z
theorem Inv.tok (I:Inv X pins σ H s) (t:Nat):Inv X pins σ H { s with toks:=t }:=I.un (h':=s.heap) (t':=t) Un.refl I.hok
theorem Inv.kept {t':Nat} (I:Inv X pins σ H s) (k:∀ b u,s.heap.get? b=some u→h'.get? b=some u):Inv X pins σ H { s with heap:=h',toks:=t' }:=I.un (Un.kept k) (I.hok.kept k)
theorem Inv.laid {a:Addr} {o:HO} {t':Nat} (I:Inv X pins σ H s) (k:∀ b u,s.heap.get? b=some u→h'.get? b=some u) (hp:s.heap.objs.size≤a) (new:ObjOk X.prog X.w (upd H a o) h' a o) :
  Inv X pins σ (upd H a o) { s with heap:=h',toks:=t' }:=I.un (Un.laid k hp (I.hok.fresh hp)) (I.hok.laid k hp new)
theorem Inv.write {x e:Addr} {o:HO} {t':Nat} (I:Inv X pins σ H s) (mu:Mut (H x)) (he:e=x∨H e=some (.own x)) (k:∀ b u,b≠e→s.heap.get? b=some u→h'.get? b=some u) (heo:∃ u,h'.get? e=some u)
  (new:ObjOk X.prog X.w (upd H x o) h' x o):Inv X pins σ (upd H x o) { s with heap:=h',toks:=t' }:=I.un (Un.write mu he k heo) (I.hok.write mu he k heo new)
theorem Inv.weak {σ':List (Option V)} (I:Inv X pins σ H s) (hl:σ'.length=σ.length) (w:∀ (i:Nat) v,σ'[i]?=some (some v)→σ[i]?=some (some v)):Inv X pins σ' H s :=
 ⟨I.ok,I.os,I.bare,I.base,let ⟨m,hn,hl'⟩:=I.loc;⟨m,hn,fun i x v e1 e2 e3=>hl' i x v e1 (w i v e2) e3⟩,I.cell,I.free,I.freeC,I.pin,I.hok,hl.trans I.len⟩
theorem Inv.pins_of {pins':List (Addr×Obj)} (I:Inv X pins σ H s) (h:∀ p∈pins',s.heap.get? p.1=some p.2∧H p.1=none∧p.1≠X.env.locals∧p.1∉X.fs∧∀ v,p.2.data≠.cell v):Inv X pins' σ H s :=
 ⟨I.ok,I.os,I.bare,I.base,I.loc,I.cell,I.free,I.freeC,fun p hp=>(List.mem_append.mp hp).elim (fun z=>I.pin p (List.mem_append_left _ z)) (h p),I.hok,I.len⟩
theorem ZjK {N:List Str} (hN:N.Nodup) {i j:Nat} {x:Str} (a:N[i]?=some x) (b:N[j]?=some x):i=j:=by
 obtain ⟨h1,e1⟩:=List.getElem?_eq_some_iff.mp a
 obtain ⟨h2,e2⟩:=List.getElem?_eq_some_iff.mp b
 exact (List.getElem_inj hN).mp (e1.trans e2.symm)
theorem ZmR {M:Model} {A:Around} {E:Value→Shared→Prop} {i:Nat} {x:Str} {v:V} {u:Value} {Q:Unit→Shared→Prop} (I:Inv X pins σ H s) (hN:X.N.Nodup) (hi:X.N[i]?=some x) (hx:Loc X.env.scope x) (r:RelV v u)
  (h:∀ s',Inv X pins (σ.set i (some v)) H s'→(∃ a,Heap.SameBut a s.heap s'.heap∧(a=X.env.locals∨X.env.cells.lookup x=some a))→Q () s') (hf:X.fn x=true∨X.env.scope.names.lookup x=some .local:=by first | exact .inl rfl | exact .inr rfl | assumption):wpAny M A (storeName X.env x u) Q E s:=by
 obtain ⟨m,hn,hl⟩:=id I.loc
 have hcls:(X.env.scope.kind==.class||(X.env.scope.kind==.module&&X.env.locals != X.env.globals))=false:=by rw [I.ok.kind];rfl
 have hiσ:i<σ.length:=by rw [I.len];exact (List.getElem?_eq_some_iff.mp hi).1
 have cne:=I.cne
 have tracked:∀ {a:Addr} {h':Heap},(∃ o,s.heap.get? a=some o∧H a=none)→Heap.SameBut a s.heap h'→HOk X.prog X.w H h':=fun {a h'} ha hs b ob e=>by
  obtain ⟨_,_,hfree⟩:=ha
  refine (I.hok b ob e).stay (fun c w' hc q=>(hs.2 c ?_).trans q) (fun _ q=>q) fun _ _ q=>q
  rintro rfl
  rcases hc with rfl | hc
  ·rw [hfree] at e;cases e
  ·rw [hfree] at hc;cases hc
 rcases hx with hk | hk
 ·refine wpAny_storeName_local hk hn (fun h' hn' hs=>?_) hcls
  obtain ⟨oL,_,_,hoL,_⟩:=id hn
  refine h _ ⟨I.ok,I.os,I.bare,⟨fun b o e n hb hx=>?_,fun b o e n hb hx=>?_,I.base.free,fun b o e hx=>?_,I.base.tups,I.base.frzs,I.base.tbls⟩,⟨_,hn',fun j y v' e1 e2 e3=>?_⟩,fun y c e=>?_,I.free,I.freeC,fun p hp=>?_,tracked ⟨oL,hoL,I.free⟩ hs,by simpa using I.len⟩ ⟨_,hs,.inl rfl⟩
  ·exact (hs.2 b (Nat.ne_of_lt (Nat.lt_of_lt_of_le (Heap.lt_size e) I.ok.above))).trans (I.base.keep b o e n hb hx)
  ·obtain ⟨sl,e1⟩:=I.base.slot b o e n hb hx
   exact ⟨sl,(hs.2 b (Nat.ne_of_lt (Nat.lt_of_lt_of_le (Heap.lt_size e) I.ok.above))).trans e1⟩
  ·obtain ⟨o',e1⟩:=I.base.there b o e hx
   exact ⟨o',(hs.2 b (Nat.ne_of_lt (Nat.lt_of_lt_of_le (Heap.lt_size e) I.ok.above))).trans e1⟩
  ·by_cases hj:j=i
   ·subst hj
    rw [hi] at e1;cases e1
    rw [List.getElem?_set_self hiσ] at e2
    cases e2
    exact ⟨u,r,.inl ⟨hk,by simp⟩⟩
   ·rw [List.getElem?_set_ne (Ne.symm hj)] at e2
    obtain ⟨u',r',q⟩:=hl j y v' e1 e2 e3
    refine ⟨u',r',?_⟩
    rcases q with ⟨k,e⟩ | ⟨k,c,e,z⟩
    ·refine .inl ⟨k,?_⟩
     have:y≠x:=fun e=>hj (ZjK hN e1 (e ▸ hi))
     simp [this,e]
    ·exact .inr ⟨k,c,e,z.sameBut hs (cne y c e)⟩
  ·obtain ⟨w',z⟩:=I.cell y c e
   exact ⟨w',z.sameBut hs (cne y c e)⟩
  ·obtain ⟨e,n,ne,nf,d⟩:=I.pin p hp
   exact ⟨(hs.2 p.1 ne).trans e,n,ne,nf,d⟩
 ·have hfn:X.fn x=true:=by
   rcases hf with z | z
   ·exact z
   ·rw [z] at hk;cases hk
  obtain ⟨c,hc⟩:=I.ok.has x (.inl hk)
  obtain ⟨w',z⟩:=I.cell x c hc
  refine wpAny_storeName_cell I.ok.kind hk hc z (fun h' hc' hs=>?_)
  obtain ⟨oc,hoc,hocd⟩:=id z
  refine h { s with heap:=h' } ⟨I.ok,I.os,I.bare,⟨fun b o e n hb hx=>?_,fun b o e n hb hx=>?_,I.base.free,fun b o e hx=>?_,I.base.tups,I.base.frzs,I.base.tbls⟩,⟨m,hn.sameBut hs (Ne.symm (cne x c hc)),fun j y v' e1 e2 e3=>?_⟩,fun y c' e=>?_,I.free,I.freeC,fun p hp=>?_,tracked ⟨oc,hoc,I.freeC x c hc⟩ hs,by simpa using I.len⟩ ⟨c,hs,.inr hc⟩
  ·exact (hs.2 b (Nat.ne_of_lt (Nat.lt_of_lt_of_le (Heap.lt_size e) (I.ok.cab x c hfn hc)))).trans (I.base.keep b o e n hb hx)
  ·obtain ⟨sl,e1⟩:=I.base.slot b o e n hb hx
   exact ⟨sl,(hs.2 b (Nat.ne_of_lt (Nat.lt_of_lt_of_le (Heap.lt_size e) (I.ok.cab x c hfn hc)))).trans e1⟩
  ·obtain ⟨o',e1⟩:=I.base.there b o e hx
   exact ⟨o',(hs.2 b (Nat.ne_of_lt (Nat.lt_of_lt_of_le (Heap.lt_size e) (I.ok.cab x c hfn hc)))).trans e1⟩
  ·by_cases hj:j=i
   ·subst hj
    rw [hi] at e1;cases e1
    rw [List.getElem?_set_self hiσ] at e2
    cases e2
    exact ⟨u,r,.inr ⟨.inl hk,c,hc,hc'⟩⟩
   ·rw [List.getElem?_set_ne (Ne.symm hj)] at e2
    obtain ⟨u',r',q⟩:=hl j y v' e1 e2 e3
    refine ⟨u',r',?_⟩
    rcases q with q | ⟨k,c',e,z'⟩
    ·exact .inl q
    ·refine .inr ⟨k,c',e,z'.sameBut hs ?_⟩
     rintro rfl
     exact hj (ZjK hN e1 (I.ok.inj _ _ _ e hc ▸ hi))
  ·by_cases hcc:c'=c
   ·subst hcc;exact ⟨_,hc'⟩
   ·obtain ⟨w2,z2⟩:=I.cell y c' e
    exact ⟨w2,z2.sameBut hs hcc⟩
  ·obtain ⟨e,n,ne,nf,d⟩:=I.pin p hp
   refine ⟨(hs.2 p.1 ?_).trans e,n,ne,nf,d⟩
   intro q
   rw [q,hoc] at e
   have q':oc=p.2:=Option.some.inj e
   exact d w' (by rw [← q'];exact hocd)
theorem ZhE {M:Model} {A:Around} {E:Value→Shared→Prop} {i:Nat} {x:Str} {v:V} {u:Value} {Q:Unit→Shared→Prop} (I:Inv X pins σ H s) (hN:X.N.Nodup) (hi:X.N[i]?=some x) (hx:Loc X.env.scope x) (r:RelV v u)
  (h:∀ s',Inv X pins (σ.set i (some v)) H s'→Q () s') (hf:X.fn x=true∨X.env.scope.names.lookup x=some .local:=by first | exact .inl rfl | exact .inr rfl | assumption):wpAny M A (storeName X.env x u) Q E s :=
 ZmR I hN hi hx r (fun s' I' _=>h s' I') hf
theorem Inv.call' {s':Shared} {ch:List Addr} (I:Inv X pins σ H s) (ho:s'.os=s.os) (u:Un (frs X.stack) ch H H' s.heap s'.heap) (hok:HOk X.prog X.w H' s'.heap) (hg:AllBare s'.gens)
  (hch:∀ b∈ch,(b∈X.ex∨X.s₀.heap.objs.size≤b)∧b≠X.env.locals∧(∀ x c,X.env.cells.lookup x=some c→c≠b)∧∀ p∈X.pn++pins,p.1≠b):Inv X pins σ H' s':=by
 obtain ⟨h',g',d',t',o'⟩:=s'
 have e:o'=s.os:=ho
 subst e
 exact I.call (g':=g') (t':=t') (d':=d') u hok hg hch
end
abbrev XK:=Value→Option Addr→Hp→Prop
abbrev St:=List (Option V)
abbrev VK:=V→Hp→Prop
abbrev TE:=St→Hp→VK→Prop
abbrev TT:=St→Hp→(Bool→Hp→Prop)→Prop
abbrev TA:=St→Hp→(List V→Hp→Prop)→Prop
structure Zew where
 nx:St→Hp→Prop
 rt:VK
 bk:St→Hp→Prop:=fun _ _=>False
 ct:St→Hp→Prop:=fun _ _=>False
abbrev TS:=Zew→St→Hp→Prop
def EP (X:Cx) (pins:List (Addr×Obj)) (σ:St) (Q:VK) (u:Value) (s':Shared):Prop:=∃ v H',Inv X pins σ H' s'∧RelV v u∧Q v H'
def TP (X:Cx) (pins:List (Addr×Obj)) (σ:St) (Q:Bool→Hp→Prop) (b:Bool) (s':Shared):Prop:=∃ H',Inv X pins σ H' s'∧Q b H'
def AP (X:Cx) (pins:List (Addr×Obj)) (σ:St) (Q:List V→Hp→Prop) (us:List Value) (s':Shared):Prop:=∃ vs H',Inv X pins σ H' s'∧Vals vs us∧Q vs H'
def SP (X:Cx) (pins:List (Addr×Obj)) (D:Zew) (f:Flow) (s':Shared):Prop :=
 match f with
 | .next=>∃ σ' H',Inv X pins σ' H' s'∧D.nx σ' H'
 | .brk=>∃ σ' H',Inv X pins σ' H' s'∧D.bk σ' H'
 | .cont=>∃ σ' H',Inv X pins σ' H' s'∧D.ct σ' H'
 | .ret u=>∃ v σ' H',Inv X pins σ' H' s'∧RelV v u∧D.rt v H'
def PE (X:Cx) (e:Expr) (t:TE):Prop :=
 ∀ (pins:List (Addr×Obj)) (s:Shared) (σ:St) (H:Hp) (Q:VK),Inv X pins σ H s→t σ H Q→wpAny (model X.prog X.w) X.A (eval e X.env) (EP X pins σ Q) X.xe s
def PT (X:Cx) (e:Expr) (t:TT):Prop :=
 ∀ (pins:List (Addr×Obj)) (s:Shared) (σ:St) (H:Hp) (Q:Bool→Hp→Prop),Inv X pins σ H s→t σ H Q→wpAny (model X.prog X.w) X.A (isTrue e X.env (eval e X.env)) (TP X pins σ Q) X.xe s
def PW (X:Cx) (e:Expr) (t:TT):Prop :=
 ∀ (whole:Sem Value) (pins:List (Addr×Obj)) (s:Shared) (σ:St) (H:Hp) (Q:Bool→Hp→Prop),Inv X pins σ H s→t σ H Q→wpAny (model X.prog X.w) X.A (isTrue e X.env whole) (TP X pins σ Q) X.xe s
theorem PW.pt {X:Cx} {e:Expr} {t:TT} (h:PW X e t):PT X e t:=h _
def PA (X:Cx) (es:List Expr) (t:TA):Prop :=
 ∀ (pos:Pos) (pins:List (Addr×Obj)) (s:Shared) (σ:St) (H:Hp) (Q:List V→Hp→Prop),Inv X pins σ H s→t σ H Q→wpAny (model X.prog X.w) X.A (spliced (backTo pos (starEach es X.env))) (AP X pins σ Q) X.xe s
def PS (X:Cx) (st:Stmt) (t:TS):Prop :=
 ∀ (pins:List (Addr×Obj)) (s:Shared) (σ:St) (H:Hp) (D:Zew),Inv X pins σ H s→t D σ H→wpAny (model X.prog X.w) X.A (exec st X.env) (SP X pins D) X.xe s
def PSs (X:Cx) (st:List Stmt) (t:TS):Prop :=
 ∀ (pins:List (Addr×Obj)) (s:Shared) (σ:St) (H:Hp) (D:Zew),Inv X pins σ H s→t D σ H→wpAny (model X.prog X.w) X.A (execs st X.env) (SP X pins D) X.xe s
theorem thn {α:Type} {t:Sem α} {Q Q':α→Shared→Prop} {M:Model} {A:Around} {E:Value→Shared→Prop} {s:Shared} (h:wpAny M A t Q E s) (hQ:∀ a s,Q a s→Q' a s):wpAny M A t Q' E s:=wpAny_mono h hQ fun _ _ x=>x
end L2
namespace L2
open PySem PySem.Spec PyProof.Rows
section
variable {X:Cx}
theorem bin {a b:Expr} {ta tb:TE} (ha:PE X a ta) (hb:PE X b tb) {pins:List (Addr×Obj)} {s:Shared} {σ:St} {H:Hp} {R:V→V→Hp→Prop} (I:Inv X pins σ H s) (h:ta σ H fun x H1=>tb σ H1 fun y H2=>R x y H2)
  {α:Type} {Q:α→Shared→Prop} {f:Value→Value→Sem α}
  (hf:∀ v u s2 x y H2,Inv X pins σ H2 s2→RelV x v→RelV y u→R x y H2→wpAny (model X.prog X.w) X.A (f v u) Q X.xe s2) :
  wpAny (model X.prog X.w) X.A (eval a X.env) (fun v s₁=>wpAny (model X.prog X.w) X.A (eval b X.env) (fun u s₂=>wpAny (model X.prog X.w) X.A (f v u) Q X.xe s₂) X.xe s₁) X.xe s:=by
 refine thn (ha pins s σ H _ I h) fun v s1 ⟨x,H1,I1,r1,q1⟩=>?_
 refine thn (hb pins s1 σ H1 _ I1 q1) fun u s2 ⟨y,H2,I2,r2,q2⟩=>?_
 exact hf v u s2 x y H2 I2 r1 r2 q2
def Zuv (i:Nat):TE:=fun σ H Q=>∃ v,σ[i]?=some (some v)∧Q v H
def tC (v:V):TE:=fun _ H Q=>Q v H
theorem ZcP {i:Nat} {x:Str} {pos:Pos} (hN:X.N[i]?=some x) (hv:Vis X.env.scope x) (hd:(x==("__debug__":Str))=false:=by decide) (hcd:(x==("__classdict__":Str))=false:=by decide):PE X (.Name x pos) (Zuv i):=by
 intro pins s σ H Q I h
 obtain ⟨v,e,h⟩:=h
 obtain ⟨m,hn,hl⟩:=I.loc
 obtain ⟨u,r,l⟩:=hl i x v hN e hv
 have fin:EP X pins σ Q u s:=⟨v,H,I,r,h⟩
 rcases l with ⟨hk,hm⟩ | ⟨hk,c,hc,hcell⟩
 ·exact wpAny_Name (wpAny_loadName_local I.ok.kind hk hn hm fin) hd
 ·rcases hk with hk | hk
  ·exact wpAny_Name (wpAny_loadName_cell I.ok.kind hk hc hcell fin) hd
  ·exact wpAny_Name (wpAny_loadName_free I.ok.kind hk hc hcell fin hcd) hd
theorem ZrM {i j pos}:PE X (.Constant (.int i) j pos) (tC (.int i)):=fun _ _ _ H _ I h=>wpAny_Constant_int ⟨.int i,H,I.tok _,⟨_,rfl⟩,h⟩
theorem Ztz {b j pos}:PE X (.Constant (.bool b) j pos) (tC (.bl b)):=fun _ _ _ H _ I h=>Constant_bool ⟨.bl b,H,I,rfl,h⟩
theorem ZsW {j pos}:PE X (.Constant .none j pos) (tC .non):=fun _ _ _ H _ I h=>Constant_none ⟨.non,H,I,rfl,h⟩
theorem Zsa {x j pos}:PE X (.Constant (.str x) j pos) (tC (.str x)):=fun _ _ _ H _ I h=>Calls.Constant_str ⟨.str x,H,I.tok _,⟨_,rfl⟩,h⟩
def Gl (X:Cx) (x:Str):Prop:=X.env.kindOf x=some .globalImplicit
theorem Zff {E:Value→Shared→Prop} {pins:List (Addr×Obj)} {s:Shared} {σ:St} {H:Hp} {x:Str} {u:Value} {pos:Pos} {Q:Value→Shared→Prop} (I:Inv X pins σ H s) (hg:Gl X x) (hm:X.mg x=some u) (h:Q u s)
  (hd:(x==("__debug__":Str))=false:=by decide):wpAny (model X.prog X.w) X.A (eval (.Name x pos) X.env) Q E s :=
 Calls.Name_function_global I.ok.kind hg (Calls.loadGlobal_global (by rw [I.ok.glob];exact I.mod.glob.keeps I.bk) hm h) hd
theorem Zex {E:Value→Shared→Prop} {pins:List (Addr×Obj)} {s:Shared} {σ:St} {H:Hp} {x:Str} {u:Value} {pos:Pos} {Q:Value→Shared→Prop} (I:Inv X pins σ H s) (hg:Gl X x) (hm:X.mg x=none) (hv:bootBuiltins x=some u) (h:Q u s)
  (hn:x≠"__name__":=by decide) (hd:(x==("__debug__":Str))=false:=by decide):wpAny (model X.prog X.w) X.A (eval (.Name x pos) X.env) Q E s:=by
 obtain ⟨mb,h1,h2⟩:=I.mod.blt
 exact Calls.Name_function_global I.ok.kind hg (Calls.loadGlobal_builtin (by rw [I.ok.glob];exact I.mod.glob.keeps I.bk) hm (by rw [I.ok.blt];exact h1.keeps I.bk) ((h2 x hn).trans hv) h) hd
theorem Zb2 {x:Str} {v:V} {u:Value} {pos:Pos} (hg:Gl X x) (hm:X.mg x=some u) (r:RelV v u) (hd:(x==("__debug__":Str))=false:=by decide):PE X (.Name x pos) (tC v) :=
 fun _ _ _ H _ I h=>Zff I hg hm ⟨v,H,I,r,h⟩ hd
theorem ZlG {x:Str} {v:V} {u:Value} {pos:Pos} (hg:Gl X x) (hm:X.mg x=none) (hv:bootBuiltins x=some u) (r:RelV v u) (hn:x≠"__name__":=by decide) (hd:(x==("__debug__":Str))=false:=by decide):PE X (.Name x pos) (tC v) :=
 fun _ _ _ H _ I h=>Zex I hg hm hv ⟨v,H,I,r,h⟩ hn hd
variable {a b:Expr} {ta tb:TE} {pos:Pos}
def PC (X:Cx) (op:CmpOp) (a b:Expr) (t:TE):Prop :=
 ∀ (pins:List (Addr×Obj)) (s:Shared) (σ:St) (H:Hp) (Q:VK),Inv X pins σ H s→t σ H Q →
  wpAny (model X.prog X.w) X.A (eval a X.env) (fun v s₁=>wpAny (model X.prog X.w) X.A (eval b X.env) (fun u s₂=>wpAny (model X.prog X.w) X.A (compareOp op v u) (EP X pins σ Q) X.xe s₂) X.xe s₁) X.xe s
theorem Zcy (b:Expr) {op:CmpOp} (h:op≠.In) (h2:op≠.NotIn):behindInMarks op b=false:=by
 have e1:(op==CmpOp.In)=false:=by cases op<;>first | rfl | exact absurd rfl h
 have e2:(op==CmpOp.NotIn)=false:=by cases op<;>first | rfl | exact absurd rfl h2
 cases b<;>simp [behindInMarks,e1,e2]
def Zt8 (ta:TE):TE:=fun σ H Q=>ta σ H fun x H1=>Q (.bl (decide (x=.non))) H1
def Zts (ta:TE):TE:=fun σ H Q=>ta σ H fun x H1=>Q (.bl (!decide (x=.non))) H1
theorem RelV.none_iff {x:V} {v:Value} (r:RelV x v):(v==Value.none)=decide (x=.non):=by
 cases x with
 | non=>cases r;rfl
 | bl _=>cases r;rfl
 | int _=>obtain ⟨t,rfl⟩:=r;rfl
 | str _=>obtain ⟨t,rfl⟩:=r;rfl
 | byt _=>obtain ⟨t,rfl⟩:=r;rfl
 | flt _=>obtain ⟨t,rfl⟩:=r;rfl
 | ref _=>cases r;rfl
 | ty _=>cases r;rfl
theorem ZsH {j pos'} (ha:PE X a ta):PC X .Is a (.Constant .none j pos') (Zt8 ta):=by
 intro pins s σ H Q I h
 refine thn (ha pins s σ H _ I h) fun v s1 ⟨x,H1,I1,r1,q1⟩=>?_
 exact Constant_none (is_none_gen ⟨.bl _,H1,I1,by rw [r1.none_iff];rfl,q1⟩)
theorem Zp1 {j pos'} (ha:PE X a ta):PC X .IsNot a (.Constant .none j pos') (Zts ta):=by
 intro pins s σ H Q I h
 refine thn (ha pins s σ H _ I h) fun v s1 ⟨x,H1,I1,r1,q1⟩=>?_
 exact Constant_none (isnot_none_gen ⟨.bl _,H1,I1,by rw [r1.none_iff];rfl,q1⟩)
def tB (t:TE):TT:=fun σ H Q=>t σ H fun x H1=>∃ c,x=.bl c∧Q c H1
theorem Zm5 {op:CmpOp} {t:TE} (h:PC X op a b t) (h1:behindInMarks op b=false:=by first | exact Zcy _ (by decide) (by decide) | rfl):PT X (.Compare a [op] [b] pos) (tB t):=by
 intro pins s σ H Q I hw
 refine wpAny_isTrue_Compare1 (thn (h pins s σ H _ I hw) fun v s1 h1=>thn h1 fun u s2 h2=>thn h2 fun c s3 ⟨x,H1,I1,r1,q1⟩=>?_) h1
 obtain ⟨d,rfl,q⟩:=q1
 cases r1
 exact wpAny_truthy_bool ⟨H1,I1,q⟩
variable {tA tB':TT} {rest:List Expr}
def ZqK (t u:TT):TT:=fun σ H Q=>t σ H fun c H1=>if c=true then u σ H1 Q else Q false H1
def tOr (t u:TT):TT:=fun σ H Q=>t σ H fun c H1=>if c=true then Q true H1 else u σ H1 Q
def Zux (t:TT):TT:=fun σ H Q=>t σ H fun c H1=>Q (!c) H1
theorem ZpQ (ha:PT X a tA):PW X (.BoolOp .And [a] pos) tA:=by
 intro wh pins s σ H Q I h
 refine isTrue_and (thn (ha pins s σ H Q I h) fun c s1 e=>?_)
 cases c with
 | true=>exact isTrue_and_nil e
 | false=>exact e
theorem ZsR (ha:PT X a tA):PW X (.BoolOp .Or [a] pos) tA:=by
 intro wh pins s σ H Q I h
 refine isTrue_or (thn (ha pins s σ H Q I h) fun c s1 e=>?_)
 cases c with
 | false=>exact isTrue_or_nil e
 | true=>exact e
theorem Zs0 (ha:PT X a tA) (hb:PW X (.BoolOp .And (b::rest) pos) tB'):PW X (.BoolOp .And (a::b::rest) pos) (ZqK tA tB'):=by
 intro wh pins s σ H Q I h
 refine isTrue_and (thn (ha pins s σ H _ I h) fun c s1 ⟨H1,I1,q1⟩=>?_)
 cases c with
 | true=>exact hb wh pins s1 σ H1 Q I1 q1
 | false=>exact ⟨H1,I1,q1⟩
theorem ZtU (ha:PT X a tA) (hb:PW X (.BoolOp .Or (b::rest) pos) tB'):PW X (.BoolOp .Or (a::b::rest) pos) (tOr tA tB'):=by
 intro wh pins s σ H Q I h
 refine isTrue_or (thn (ha pins s σ H _ I h) fun c s1 ⟨H1,I1,q1⟩=>?_)
 cases c with
 | true=>exact ⟨H1,I1,q1⟩
 | false=>exact hb wh pins s1 σ H1 Q I1 q1
theorem Zs2 (ha:PT X a tA):PT X (.UnaryOp .Not a pos) (Zux tA):=by
 intro pins s σ H Q I h
 exact isTrue_not (ha pins s σ H (fun c H1=>Q (!c) H1) I h)
def Zs7 (ta tb:TE):TE:=fun σ H Q=>ta σ H fun x H1=>∃ c,x=.bl c∧if c=true then tb σ H1 Q else Q (.bl false) H1
def ZuD (ta tb:TE):TE:=fun σ H Q=>ta σ H fun x H1=>∃ c,x=.bl c∧if c=true then Q (.bl true) H1 else tb σ H1 Q
def Ztw (ta:TE):TE:=fun σ H Q=>ta σ H fun x H1=>∃ c,x=.bl c∧Q (.bl (!c)) H1
theorem Zsi {op} {t:TE} (h:PE X a t):PE X (.BoolOp op [a] pos) t:=fun pins s σ H Q I hw=>BoolOp_one (h pins s σ H Q I hw)
theorem Zq9 (ha:PE X a ta) (hb:PE X (.BoolOp .And (b::rest) pos) tb):PE X (.BoolOp .And (a::b::rest) pos) (Zs7 ta tb):=by
 intro pins s σ H Q I h
 refine BoolOp_and (thn (ha pins s σ H _ I h) fun v s1 ⟨x,H1,I1,r1,q1⟩=>?_)
 obtain ⟨c,rfl,q1⟩:=q1
 cases r1
 refine wpAny_truthy_bool ?_
 cases c with
 | true=>exact hb pins s1 σ H1 Q I1 q1
 | false=>exact ⟨.bl false,H1,I1,rfl,q1⟩
theorem ZtQ (ha:PE X a ta) (hb:PE X (.BoolOp .Or (b::rest) pos) tb):PE X (.BoolOp .Or (a::b::rest) pos) (ZuD ta tb):=by
 intro pins s σ H Q I h
 refine BoolOp_or (thn (ha pins s σ H _ I h) fun v s1 ⟨x,H1,I1,r1,q1⟩=>?_)
 obtain ⟨c,rfl,q1⟩:=q1
 cases r1
 refine wpAny_truthy_bool ?_
 cases c with
 | false=>exact hb pins s1 σ H1 Q I1 q1
 | true=>exact ⟨.bl true,H1,I1,rfl,q1⟩
theorem ZqZ (ha:PE X a ta):PE X (.UnaryOp .Not a pos) (Ztw ta):=by
 intro pins s σ H Q I h
 refine UnaryOp_ (thn (ha pins s σ H _ I h) fun v s1 ⟨x,H1,I1,r1,q1⟩=>?_)
 obtain ⟨c,rfl,q1⟩:=q1
 cases r1
 exact not_of (wpAny_truthy_bool ⟨.bl (!c),H1,I1,rfl,q1⟩)
def tIf (t:TT) (ta tb:TE):TE:=fun σ H Q=>t σ H fun c H1=>if c=true then ta σ H1 Q else tb σ H1 Q
theorem ZnU {c:Expr} (hc:PT X c tA) (ha:PE X a ta) (hb:PE X b tb):PE X (.IfExp c a b pos) (tIf tA ta tb):=by
 intro pins s σ H Q I h
 refine wpAny_IfExp (thn (hc pins s σ H _ I h) fun d s1 ⟨H1,I1,q1⟩=>?_)
 cases d with
 | true=>exact ha pins s1 σ H1 Q I1 q1
 | false=>exact hb pins s1 σ H1 Q I1 q1
end
end L2
namespace L2
open PySem PySem.Spec PyProof.Rows
def SqL (K:PySem.W.Frag) (H:Hp) (a:Addr) (xs:List V):Prop :=
 Rd H a (.lst xs) ∨
  ∃ (o:Obj) (its:Array Value) (n:Nat),K.lookup a=some o∧o.cls=.type "list"∧o.dict=none∧o.data=.seq its n∧its.size≤sizeLine∧Vals xs its.toList
def SqT (K:PySem.W.Frag) (H:Hp) (a:Addr) (xs:List V):Prop :=
 Rd H a (.tup xs) ∨
  ∃ (o:Obj) (its:Array Value) (n:Nat),K.lookup a=some o∧o.cls=.type "tuple"∧o.data=.seq its n∧its.size≤sizeLine∧Vals xs its.toList
def Zuq:Value→Option V
 | .none=>some .non
 | .bool b=>some (.bl b)
 | .int i _=>some (.int i)
 | .str x _=>some (.str x)
 | .bytes b _=>some (.byt b)
 | .float b _=>some (.flt b)
 | .ref a=>some (.ref a)
 | .type n=>some (.ty n)
 | _=>none
theorem RelV.abs {x:V} {u:Value} (r:RelV x u):Zuq u=some x:=by
 cases x with
 | non=>cases r;rfl
 | bl _=>cases r;rfl
 | int _=>obtain ⟨t,rfl⟩:=r;rfl
 | str _=>obtain ⟨t,rfl⟩:=r;rfl
 | byt _=>obtain ⟨t,rfl⟩:=r;rfl
 | flt _=>obtain ⟨t,rfl⟩:=r;rfl
 | ref _=>cases r;rfl
 | ty _=>cases r;rfl
theorem RelV.inj {x y:V} {u:Value} (r:RelV x u) (q:RelV y u):x=y:=Option.some.inj (r.abs.symm.trans q.abs)
theorem Vals.inj:∀ {xs ys:List V} {us:List Value},Vals xs us→Vals ys us→xs=ys
 | _,_,_,.nil,.nil=>rfl
 | _,_,_,.cons r t,.cons r' t'=>by rw [r.inj r',Vals.inj t t']
section
variable {X:Cx} {pins:List (Addr×Obj)} {σ:St} {H:Hp} {s:Shared} {a:Addr} {xs ys:List V}
theorem SqL.of {K:PySem.W.Frag} (h:H a=some (.lst xs)):SqL K H a xs:=.inl (.inl h)
theorem SqT.of {K:PySem.W.Frag} (h:H a=some (.tup xs)):SqT K H a xs:=.inl (.inl h)
theorem Inv.list (I:Inv X pins σ H s) (h:SqL X.K H a xs):∃ its:List Value,Vals xs its∧PlainL s.heap a its.toArray∧xs.length≤sizeLine:=by
 rcases h with h | ⟨o,its,n,hk,hc,hd,hs,hz,r⟩
 ·obtain ⟨z,its,n,r,e⟩:=h.ok I.hok
  exact ⟨its,r,⟨_,n,e,rfl,rfl,rfl⟩,z⟩
 ·refine ⟨its.toList,r,⟨o,n,I.kIn a o hk,hc,hd,by simpa using hs⟩,?_⟩
  have e:=r.length
  simp only [Array.length_toList] at e
  omega
theorem Inv.tuple (I:Inv X pins σ H s) (h:SqT X.K H a xs):∃ its:List Value,Vals xs its∧IsTup s.heap a its.toArray∧xs.length≤sizeLine:=by
 rcases h with h | ⟨o,its,n,hk,hc,hs,hz,r⟩
 ·obtain ⟨z,its,r,p⟩:=h.ok I.hok
  exact ⟨its,r,p,z⟩
 ·refine ⟨its.toList,r,⟨o,I.kIn a o hk,hc,n,by simpa using hs⟩,?_⟩
  have e:=r.length
  simp only [Array.length_toList] at e
  omega
theorem Inv.list_inj (I:Inv X pins σ H s) (h:SqL X.K H a xs) (h':SqL X.K H a ys):xs=ys:=by
 obtain ⟨its,r,⟨o,n,e,_,_,d⟩,_⟩:=I.list h
 obtain ⟨its',r',⟨o',n',e',_,_,d'⟩,_⟩:=I.list h'
 rw [e] at e';cases e'
 rw [d] at d'
 injection d' with d1 _
 have:its=its':=by simpa using congrArg Array.toList d1
 subst this
 exact r.inj r'
theorem Inv.tuple_inj (I:Inv X pins σ H s) (h:SqT X.K H a xs) (h':SqT X.K H a ys):xs=ys:=by
 obtain ⟨its,r,⟨o,e,_,n,d⟩,_⟩:=I.tuple h
 obtain ⟨its',r',⟨o',e',_,n',d'⟩,_⟩:=I.tuple h'
 rw [e] at e';cases e'
 rw [d] at d'
 injection d' with d1 _
 have:its=its':=by simpa using congrArg Array.toList d1
 subst this
 exact r.inj r'
end
abbrev Cx.wish (X:Cx) (E:Value→Shared→Prop):Cx:={ X with xe:=E }
abbrev Cx.nox (X:Cx):Cx:=X.wish fun _ _=>False
theorem Cx.Ok.wish {X:Cx} (ok:X.Ok) (E:Value→Shared→Prop):(X.wish E).Ok :=
 ⟨ok.mod,ok.kind,ok.glob,ok.blt,ok.above,ok.inj,ok.has,ok.cab,ok.hd,ok.frames,ok.stk,ok.exf,ok.bs,ok.bsz,ok.noex,ok.exfs,ok.funs,ok.frf⟩
theorem Cx.Ok.unwish {X:Cx} {E:Value→Shared→Prop} (ok:(X.wish E).Ok):X.Ok :=
 ⟨ok.mod,ok.kind,ok.glob,ok.blt,ok.above,ok.inj,ok.has,ok.cab,ok.hd,ok.frames,ok.stk,ok.exf,ok.bs,ok.bsz,ok.noex,ok.exfs,ok.funs,ok.frf⟩
section
variable {X:Cx} {pins:List (Addr×Obj)} {σ:St} {H:Hp} {s:Shared} {E:Value→Shared→Prop}
theorem Inv.wish (I:Inv X pins σ H s) (E:Value→Shared→Prop):Inv (X.wish E) pins σ H s:=⟨I.ok.wish E,I.os,I.bare,I.base,I.loc,I.cell,I.free,I.freeC,I.pin,I.hok,I.len⟩
theorem Inv.unwish (I:Inv (X.wish E) pins σ H s):Inv X pins σ H s:=⟨I.ok.unwish,I.os,I.bare,I.base,I.loc,I.cell,I.free,I.freeC,I.pin,I.hok,I.len⟩
theorem SP.unwish {D:Zew} {f:Flow} {s':Shared} (h:SP (X.wish E) pins D f s'):SP X pins D f s':=by
 cases f with
 | next=>obtain ⟨σ',H',I,q⟩:=h;exact ⟨σ',H',I.unwish,q⟩
 | brk=>obtain ⟨σ',H',I,q⟩:=h;exact ⟨σ',H',I.unwish,q⟩
 | cont=>obtain ⟨σ',H',I,q⟩:=h;exact ⟨σ',H',I.unwish,q⟩
 | ret u=>obtain ⟨v,σ',H',I,r,q⟩:=h;exact ⟨v,σ',H',I.unwish,r,q⟩
theorem PE.nox {e:Expr} {t:TE} (h:PE X.nox e t):PE X e t:=fun pins s σ H Q I hw =>
 wpAny_mono (h pins s σ H Q (I.wish _) hw) (fun _ _ ⟨v,H',I',r,q⟩=>⟨v,H',I'.unwish,r,q⟩) fun _ _ z=>False.elim z
theorem PT.nox {e:Expr} {t:TT} (h:PT X.nox e t):PT X e t:=fun pins s σ H Q I hw =>
 wpAny_mono (h pins s σ H Q (I.wish _) hw) (fun _ _ ⟨H',I',q⟩=>⟨H',I'.unwish,q⟩) fun _ _ z=>False.elim z
theorem PSs.nox {st:List Stmt} {t:TS} (h:PSs X.nox st t):PSs X st t:=fun pins s σ H D I hw =>
 wpAny_mono (h pins s σ H D (I.wish _) hw) (fun _ _ q=>q.unwish) fun _ _ z=>False.elim z
end
section
variable {X:Cx} {st:Stmt} {rest:List Stmt} {t u:TS} {e:Expr} {te:TE} {pos:Pos}
def ZtM:TS:=fun D σ H=>D.nx σ H
def Zus (t u:TS):TS:=fun D σ H=>t { D with nx:=u D } σ H
theorem pss_nil:PSs X [] ZtM:=fun _ _ σ H _ I h=>wpAny_execs_nil ⟨σ,H,I,h⟩
theorem ZoN (h1:PS X st t) (h2:PSs X rest u):PSs X (st::rest) (Zus t u):=by
 intro pins s σ H D I h
 refine wpAny_execs_cons (thn (h1 pins s σ H { D with nx:=u D } I h) fun f s1 q=>?_)
 cases f with
 | next =>
  obtain ⟨σ',H',I',q⟩:=q
  exact h2 pins s1 σ' H' D I' q
 | ret v=>exact q
 | brk=>exact q
 | cont=>exact q
theorem Inv.quiet {pins:List (Addr×Obj)} {σ:St} {H:Hp} {s:Shared} (I:Inv X pins σ H s):interactive X.env=false:=by simp [interactive,I.ok.kind]
def Zta (te:TE):TS:=fun D σ H=>te σ H fun _ H1=>D.nx σ H1
theorem Zlz (he:PE X e te) (hs:swapsWith e none pos.line X.env=pure false:=by rfl):PS X (.Expr e pos) (Zta te):=by
 intro pins s σ H D I h
 exact wpAny_Expr_any (thn (he pins s σ H _ I h) fun v s1 ⟨x,H1,I1,r1,q1⟩=>⟨σ,H1,I1,q1⟩) I.quiet hs
def Zt9 (te:TE):TS:=fun D σ H=>te σ H D.rt
theorem Zkp (he:PE X e te):PS X (.Return (some e) pos) (Zt9 te):=by
 intro pins s σ H D I h
 exact wpAny_Return_some (thn (he pins s σ H _ I h) fun v s1 ⟨x,H1,I1,r1,q1⟩=>⟨x,σ,H1,I1,r1,q1⟩)
def Zt5 (c:TT) (t u:TS):TS:=fun D σ H=>c σ H fun b H1=>if b=true then t D σ H1 else u D σ H1
theorem ZoY {c:Expr} {a b:List Stmt} {tc:TT} (hc:PT X c tc) (ha:PSs X a t) (hb:PSs X b u):PS X (.If c a b pos) (Zt5 tc t u):=by
 intro pins s σ H D I h
 refine wpAny_If (thn (hc pins s σ H _ I h) fun d s1 ⟨H1,I1,q1⟩=>?_)
 cases d with
 | true=>exact ha pins s1 σ H1 D I1 q1
 | false=>exact hb pins s1 σ H1 D I1 q1
end
abbrev TG:=V→St→Hp→(St→Hp→Prop)→Prop
abbrev TGs:=List V→St→Hp→(St→Hp→Prop)→Prop
def PG (X:Cx) (target:Expr) (t:TG):Prop :=
 ∀ (pins:List (Addr×Obj)) (s:Shared) (σ:St) (H:Hp) (v:V) (u:Value) (Q:St→Hp→Prop),Inv X pins σ H s→RelV v u→t v σ H Q →
  wpAny (model X.prog X.w) X.A (assign target X.env u) (fun _ s'=>∃ σ' H',Inv X pins σ' H' s'∧Q σ' H') X.xe s
def PGs (X:Cx) (ts:List Expr) (t:TGs):Prop :=
 ∀ (pins:List (Addr×Obj)) (s:Shared) (σ:St) (H:Hp) (vs:List V) (us:List Value) (Q:St→Hp→Prop),Inv X pins σ H s→Vals vs us→t vs σ H Q →
  wpAny (model X.prog X.w) X.A (assignInOrder ((assignEach ts X.env).map (·.2)) us) (fun _ s'=>∃ σ' H',Inv X pins σ' H' s'∧Q σ' H') X.xe s
abbrev Zl2:=V→V→V→Hp→(Hp→Prop)→Prop
def ZqW (X:Cx) (t:Zl2):Prop :=
 ∀ (pins:List (Addr×Obj)) (s:Shared) (σ:St) (H:Hp) (o i v:V) (ov iv u:Value) (Q:Hp→Prop),Inv X pins σ H s→RelV o ov→RelV i iv→RelV v u→t o i v H Q →
  wpAny (model X.prog X.w) X.A (setItem ov iv u) (fun _ s'=>∃ H',Inv X pins σ H' s'∧Q H') X.xe s
section
variable {X:Cx} {pos:Pos}
def Zia (i:Nat):TG:=fun v σ H Q=>Q (σ.set i (some v)) H
theorem Zpo {i:Nat} {x:Str} (hN:X.N.Nodup) (hi:X.N[i]?=some x) (hx:Loc X.env.scope x) (hf:X.fn x=true∨X.env.scope.names.lookup x=some .local:=by first | exact .inl rfl | exact .inr rfl | assumption):PG X (.Name x pos) (Zia i):=by
 intro pins s σ H v u Q I r h
 exact wpAny_assign_Name (ZhE I hN hi hx r (fun s' I'=>⟨_,H,I',h⟩) hf)
def Zud:TGs:=fun vs σ H Q=>vs=[]∧Q σ H
def ZtT (t:TG) (u:TGs):TGs:=fun vs σ H Q=>∃ v r,vs=v::r∧t v σ H fun σ' H'=>u r σ' H' Q
theorem Zqc:PGs X [] Zud:=by
 intro pins s σ H vs us Q I r h
 obtain ⟨e,h⟩:=h
 subst e
 cases r
 exact assignInOrder_nil ⟨σ,H,I,h⟩
theorem Zn8 {e:Expr} {es:List Expr} {t:TG} {u:TGs} (h1:PG X e t) (h2:PGs X es u)
  (hs:(assignEach (e::es) X.env).map (·.2)=assign e X.env::(assignEach es X.env).map (·.2):=by rfl):PGs X (e::es) (ZtT t u):=by
 intro pins s σ H vs us Q I r h
 obtain ⟨v,vr,e1,h⟩:=h
 subst e1
 cases r with
 | cons r rr =>
  rw [hs]
  refine assignInOrder_cons (thn (h1 pins s σ H _ _ _ I r h) fun _ s1 ⟨σ1,H1,I1,q1⟩=>?_)
  exact h2 pins s1 σ1 H1 _ _ Q I1 rr q1
def ZuH (K:PySem.W.Frag) (n:Nat) (t:TGs):TG:=fun v σ H Q=>∃ a xs,v=.ref a∧SqT K H a xs∧xs.length=n∧t xs σ H Q
theorem Zrh {es:List Expr} {k:Nat} {t:TGs} {n:Nat} (hc:X.calm=true) (h:PGs X es t)
  (hn:(assignEach es X.env).length=n:=by rfl) (hst:(assignEach es X.env).findIdx? (·.1)=none:=by rfl):PG X (.Tuple es k pos) (ZuH X.K n t):=by
 intro pins s σ H v u Q I r hw
 obtain ⟨a,xs,e1,hq,hl,hw⟩:=hw
 subst e1
 cases r
 obtain ⟨its,rv,ht,hz⟩:=I.tuple hq
 refine assign_Tuple_tuple (I.ok.hd hc) ht (by simp [hn,← hl,rv.length]) hst fun h' hx=>?_
 have I1:Inv X pins σ H { s with heap:=h' }:=I.kept (t':=s.toks) fun b o e=>hx b o (Nat.ne_of_lt (Heap.lt_size e)) e
 exact h pins _ σ H xs _ Q I1 (by simpa using rv) hw
def Zut (to ti:TE) (t:Zl2):TG:=fun v σ H Q=>to σ H fun o H1=>ti σ H1 fun i H2=>t o i v H2 fun H3=>Q σ H3
theorem ZsT {o i:Expr} {to ti:TE} {t:Zl2} (ho:PE X o to) (hi:PE X i ti) (hs:ZqW X t)
  (ha:∀ v,assign (.Subscript o i pos) X.env v=(do
   let ov ← holding [v] (eval o X.env)
   let iv ← holding [v,ov] (eval i X.env)
   standAt pos
   holding [v,ov,iv] (setItem ov iv v)
   release [v,ov,iv] []):=by intro _;rfl):PG X (.Subscript o i pos) (Zut to ti t):=by
 intro pins s σ H v u Q I r h
 rw [ha]
 refine wpAny_bind (wpAny_holding (thn (ho pins s σ H _ I h) fun ov s1 ⟨x,H1,I1,r1,q1⟩=>?_))
 refine wpAny_bind (wpAny_holding (thn (hi pins s1 σ H1 _ I1 q1) fun iv s2 ⟨y,H2,I2,r2,q2⟩=>?_))
 refine wpAny_bind (wpAny_standAt (wpAny_bind (wpAny_holding (thn (hs pins s2 σ H2 x y v ov iv u _ I2 r1 r2 r q2) fun _ s3 ⟨H3,I3,q3⟩=>?_))))
 exact wpAny_release ⟨σ,H3,I3,q3⟩
def ZjQ (te:TE) (g:TG):TS:=fun D σ H=>te σ H fun x H1=>g x σ H1 D.nx
theorem ZnC {tg e:Expr} {te:TE} {g:TG} (he:PE X e te) (hg:PG X tg g) (hs:swapsWithSole [tg] e pos.line X.env=pure false:=by rfl) (hw:swappedStores [tg] e X.env=pure none:=by rfl)
  (h1:(assignEach [tg] X.env).map (·.2)=[assign tg X.env]:=by rfl):PS X (.Assign [tg] e pos) (ZjQ te g):=by
 intro pins s σ H D I h
 refine wpAny_Assign_stores (thn (he pins s σ H _ I h) fun v s1 ⟨x,H1,I1,r1,q1⟩=>?_) hs hw
 rw [h1]
 exact thn (hg pins s1 σ H1 x v _ I1 r1 q1) fun _ s2 q=>q
theorem ZjX {i:Nat} {x:Str} {e:Expr} {te:TE} {pos':Pos} (hN:X.N.Nodup) (hi:X.N[i]?=some x) (hx:Loc X.env.scope x) (he:PE X e te) (hs:swapsWith e (some (.Name x pos')) pos.line X.env=pure false:=by rfl) (hf:X.fn x=true∨X.env.scope.names.lookup x=some .local:=by first | exact .inl rfl | exact .inr rfl | assumption) :
  PS X (.Assign [.Name x pos'] e pos) (ZjQ te (Zia i)):=by
 intro pins s σ H D I h
 refine wpAny_Assign_Name (thn (he pins s σ H _ I h) fun v s1 ⟨y,H1,I1,r1,q1⟩=>?_) hs
 exact ZhE I1 hN hi hx r1 (fun s2 I2=>⟨_,H1,I2,q1⟩) hf
end
section
variable {X:Cx} {pos:Pos}
end
structure It where
 go:Nat→Hp→Prop
 yld:Nat→Hp→V→Hp→Prop
 stop:Nat→Hp→Prop
def Zeh (X:Cx) (pins:List (Addr×Obj)) (H:Hp) (b:Addr):Prop :=
 H b=none∧b≠X.env.locals∧b∉X.fs∧(b∈X.ex∨X.s₀.heap.objs.size≤b)∧(∀ x c,X.env.cells.lookup x=some c→c≠b)∧∀ p∈X.pn++pins,p.1≠b
theorem Inv.fpOk {X:Cx} {pins:List (Addr×Obj)} {σ:St} {H H':Hp} {s:Shared} {b:Addr} (I:Inv X pins σ H s) (hb:s.heap.objs.size≤b) (hn:H' b=none):Zeh X pins H' b:=by
 refine ⟨hn,Nat.ne_of_gt (Nat.lt_of_lt_of_le I.lt hb),I.nofs hb,.inr (Nat.le_trans I.sz hb),fun x c e z=>?_,fun p hp z=>?_⟩
 ·obtain ⟨v,q⟩:=I.cell x c e
  exact absurd (Nat.lt_of_lt_of_le q.lt (by rw [z];exact hb)) (Nat.lt_irrefl _)
 ·exact absurd (Nat.lt_of_lt_of_le (Heap.lt_size (I.pin p hp).1) (by rw [z];exact hb)) (Nat.lt_irrefl _)
structure Zgl (P:Program) (w:World) (K:PySem.W.Frag) (tg:Expr) (J:It) (fp:List Addr) (it:Addr) (tn:Nat→Heap→Prop):Prop where
 mem:it∈fp
 obj:∀ i h,tn i h→∀ b∈fp,∃ o,h.get? b=some o∧∀ v,o.data≠.cell v
 keep:∀ i h h',tn i h→(∀ b∈fp,∀ o,h.get? b=some o→h'.get? b=some o)→tn i h'
 item:∀ (X:Cx),X.prog=P→X.w=w→X.K=K→X.calm=true→∀ (i:Nat) (pins:List (Addr×Obj)) (s:Shared) (σ:St) (H:Hp) (E:Value→Shared→Prop),Inv X pins σ H s→(∀ b∈fp,Zeh X pins H b)→tn i s.heap→J.go i H →
  wpAny (model P w) X.A (pyNext (.ref it)) (fun r s1=>∃ u,r=some u ∧
   wpAny (model P w) X.A (letOwnedTupleGo tg (.ref it) u) (fun _ s2=>∃ x H',Inv X pins σ H' s2∧RelV x u∧J.yld i H x H'∧tn (i+1) s2.heap∧∀ b∈fp,H' b=none) E s1) E s
 done:∀ (X:Cx),X.prog=P→X.w=w→X.K=K→X.calm=true→∀ (i:Nat) (pins:List (Addr×Obj)) (s:Shared) (σ:St) (H:Hp) (E:Value→Shared→Prop),Inv X pins σ H s→(∀ b∈fp,Zeh X pins H b)→tn i s.heap→J.stop i H →
  wpAny (model P w) X.A (pyNext (.ref it)) (fun r s1=>r=none∧Inv X pins σ H s1) E s
 self:∀ (A:Around) (i:Nat) (s:Shared) (Q:Value→Shared→Prop) (E:Value→Shared→Prop),tn i s.heap→Q (.ref it) s→wpAny (model P w) A (pyIter (.ref it)) Q E s
abbrev TI:=St→Hp→(It→Hp→Prop)→Prop
def PIE (X:Cx) (pins:List (Addr×Obj)) (σ:St) (tg:Expr) (R:It→Hp→Prop) (itv:Value) (s2:Shared):Prop :=
 ∃ (it:Addr) (fp:List Addr) (tn:Nat→Heap→Prop) (J:It) (H':Hp),itv=.ref it∧Inv X pins σ H' s2∧Zgl X.prog X.w X.K tg J fp it tn∧tn 0 s2.heap∧(∀ b∈fp,Zeh X pins H' b)∧R J H'
def PI (X:Cx) (tg iter:Expr) (wi:TI):Prop :=
 ∀ (pins:List (Addr×Obj)) (s:Shared) (σ:St) (H:Hp) (R:It→Hp→Prop),Inv X pins σ H s→wi σ H R →
  wpAny (model X.prog X.w) X.A (eval iter X.env) (fun v s1=>wpAny (model X.prog X.w) X.A (pyIter v) (PIE X pins σ tg R) X.xe s1) X.xe s
theorem ZhY {M:Model} {A:Around} {E:Value→Shared→Prop} {s:Shared} {tg:Expr} {it:Addr} {u:Value} {o:Obj} {n:String} {vs:Array Value} {Q:Unit→Shared→Prop} (ho:s.heap.get? it=some o) (hc:o.cls=.type n) (hd:o.data=.fields vs)
  (hn:["enumerate","zip","dict_itemiterator","dict_reverseitemiterator","odict_iterator","itertools.zip_longest","itertools.pairwise"].contains n=false) (hQ:Q () s):wpAny M A (letOwnedTupleGo tg (.ref it) u) Q E s:=by
 unfold letOwnedTupleGo
 cases tg<;>first
  | exact wpAny_pure hQ
  | (cases u<;>first
    | exact wpAny_pure hQ
    | (refine wpAny_bind (wpAny_load ho ?_)
       rw [hc,hd]
       show wpAny M A (if (["enumerate","zip","dict_itemiterator","dict_reverseitemiterator","odict_iterator","itertools.zip_longest","itertools.pairwise"].contains n&&vs[0]?==some (rawInt _))=true then _ else _) Q E s
       rw [if_neg (by intro h;rw [hn,Bool.false_and] at h;cases h)]
       exact wpAny_pure hQ))
def Itl (K:PySem.W.Frag) (a:Addr):It :=
 ⟨fun i H=>∃ xs x,SqL K H a xs∧xs[i]?=some x,fun i H x H'=>H'=H∧∀ xs,SqL K H a xs→xs[i]?=some x,fun i H=>∃ xs,SqL K H a xs∧xs.length≤i⟩
def Itt (K:PySem.W.Frag) (a:Addr):It :=
 ⟨fun i H=>∃ xs x,SqT K H a xs∧xs[i]?=some x,fun i H x H'=>H'=H∧∀ xs,SqT K H a xs→xs[i]?=some x,fun i H=>∃ xs,SqT K H a xs∧xs.length≤i⟩
def Itr (lo:Int) (n:Nat):It:=⟨fun i _=>i<n,fun i H x H'=>H'=H∧x=.int (lo+i),fun i _=>n≤i⟩
theorem Znl {P:Program} {w:World} {K:PySem.W.Frag} {tg:Expr} (a it:Addr):Zgl P w K tg (Itl K a) [it] it (fun i h=>h.IsListIter it a i) where
 mem:=by simp
 obj:=fun i h st b hb=>by
  have e:b=it:=by simpa using hb
  subst e
  obtain ⟨o,e,c,d⟩:=st
  exact ⟨o,e,fun v z=>by rw [d] at z;cases z⟩
 keep:=fun i h h' st k=>st.at fun o e=>k it (by simp) o e
 item:=by
  intro X hP hw hK hc i pins s σ H E I hf st hg
  subst hP hw hK
  obtain ⟨xs,x,hq,hx⟩:=hg
  obtain ⟨its,rv,p,hz⟩:=I.list hq
  obtain ⟨u,hu,ru⟩:=rv.get hx
  obtain ⟨f0,f1,f2,f3,f4,f5⟩:=hf it (by simp)
  refine wpAny_pyNext_list_item st p.isList (x:=u) (by simpa using hu) fun h' st' sb=>?_
  have I1:Inv X pins σ H { s with heap:=h' }:=I.turned (t':=s.toks) (fun b o hb e=>(sb.2 b hb).trans e) f0 f1 f3 f4 f5
  obtain ⟨o,e,c,d⟩:=id st'
  exact ⟨u,rfl,ZhY (s:={ s with heap:=h' }) e c d (by decide) ⟨x,H,I1,ru,⟨rfl,fun ys hy=>by rw [I.list_inj hy hq];exact hx⟩,st',fun b hb=>(hf b hb).1⟩⟩
 done:=by
  intro X hP hw hK hc i pins s σ H E I hf st hg
  subst hP hw hK
  obtain ⟨xs,hq,hx⟩:=hg
  obtain ⟨its,rv,p,hz⟩:=I.list hq
  obtain ⟨f0,f1,f2,f3,f4,f5⟩:=hf it (by simp)
  have hl:=rv.length
  exact wpAny_pyNext_list_end (I.ok.hd hc) st p.isList (by simp;omega) fun h' eb=>⟨rfl,I.turned (t':=s.toks) (fun b o hb e=>eb b o hb e) f0 f1 f3 f4 f5⟩
 self:=fun _ _ _ _ _ st h=>wpAny_pyIter_listiter st h
theorem Zmh {P:Program} {w:World} {K:PySem.W.Frag} {tg:Expr} (a it:Addr):Zgl P w K tg (Itt K a) [it] it (fun i h=>h.IsTupleIter it a i) where
 mem:=by simp
 obj:=fun i h st b hb=>by
  have e:b=it:=by simpa using hb
  subst e
  obtain ⟨o,e,c,d⟩:=st
  exact ⟨o,e,fun v z=>by rw [d] at z;cases z⟩
 keep:=fun i h h' st k=>st.at fun o e=>k it (by simp) o e
 item:=by
  intro X hP hw hK hc i pins s σ H E I hf st hg
  subst hP hw hK
  obtain ⟨xs,x,hq,hx⟩:=hg
  obtain ⟨its,rv,p,hz⟩:=I.tuple hq
  obtain ⟨u,hu,ru⟩:=rv.get hx
  obtain ⟨f0,f1,f2,f3,f4,f5⟩:=hf it (by simp)
  refine wpAny_pyNext_tuple_item st (show s.heap.IsTuple a its.toArray from p) (x:=u) (by simpa using hu) fun h' st' sb=>?_
  have I1:Inv X pins σ H { s with heap:=h' }:=I.turned (t':=s.toks) (fun b o hb e=>(sb.2 b hb).trans e) f0 f1 f3 f4 f5
  obtain ⟨o,e,c,d⟩:=id st'
  exact ⟨u,rfl,ZhY (s:={ s with heap:=h' }) e c d (by decide) ⟨x,H,I1,ru,⟨rfl,fun ys hy=>by rw [I.tuple_inj hy hq];exact hx⟩,st',fun b hb=>(hf b hb).1⟩⟩
 done:=by
  intro X hP hw hK hc i pins s σ H E I hf st hg
  subst hP hw hK
  obtain ⟨xs,hq,hx⟩:=hg
  obtain ⟨its,rv,p,hz⟩:=I.tuple hq
  obtain ⟨f0,f1,f2,f3,f4,f5⟩:=hf it (by simp)
  have hl:=rv.length
  exact wpAny_pyNext_tuple_end (I.ok.hd hc) st (show s.heap.IsTuple a its.toArray from p) (by simp;omega) fun h' eb=>⟨rfl,I.turned (t':=s.toks) (fun b o hb e=>eb b o hb e) f0 f1 f3 f4 f5⟩
 self:=fun _ _ _ _ _ st h=>wpAny_pyIter_tupleiter st h
theorem ZmE {P:Program} {w:World} {K:PySem.W.Frag} {tg:Expr} (it:Addr) (lo:Int) (n:Nat):Zgl P w K tg (Itr lo n) [it] it (fun i h=>IsRangeIter h it (lo+(i:Nat) * 1) ((n:Int)-(i:Nat)) 1) where
 mem:=by simp
 obj:=fun i h st b hb=>by
  have e:b=it:=by simpa using hb
  subst e
  exact ⟨_,st,fun v z=>by
   have z':Data.fields _=Data.cell v:=z
   cases z'⟩
 keep:=fun i h h' st k=>k it (by simp) _ st
 item:=by
  intro X hP hw hK hc i pins s σ H E I hf st hg
  subst hP hw hK
  obtain ⟨f0,f1,f2,f3,f4,f5⟩:=hf it (by simp)
  have W:=Walks.range (prog:=X.prog) (w:=X.w) (I.ok.hd hc) it lo 1 n
  refine W.item i s _ _ hg st fun v h' tk hv st' kk=>?_
  obtain ⟨t,rfl⟩:=hv
  have I1:Inv X pins σ H { s with heap:=h',toks:=tk }:=I.turned (fun b o hb e=>kk b o (by simpa using hb) e) f0 f1 f3 f4 f5
  refine ⟨_,rfl,ZhY (s:={ s with heap:=h',toks:=tk }) (n:="range_iterator") st' rfl rfl (by decide) ⟨.int (lo+i),H,I1,⟨t,?_⟩,⟨rfl,rfl⟩,st',fun b hb=>(hf b hb).1⟩⟩
  rw [Int.mul_one]
 done:=by
  intro X hP hw hK hc i pins s σ H E I hf st hg
  subst hP hw hK
  obtain ⟨f0,f1,f2,f3,f4,f5⟩:=hf it (by simp)
  exact wpAny_pyNext_range_end (I.ok.hd hc) st (by have:n≤i:=hg;omega) fun h' eb=>⟨rfl,I.turned (t':=s.toks) (fun b o hb e=>eb b o hb e) f0 f1 f3 f4 f5⟩
 self:=fun _ _ _ _ _ st h=>wpAny_pyIter_rangeiter st h
end L2
namespace L2
open PySem PySem.Spec PyProof.Rows
section
variable {X:Cx} {tg:Expr}
def Ztv (K:PySem.W.Frag) (tl:TE):TI:=fun σ H R=>tl σ H fun x H1=>∃ a,x=.ref a∧(∃ xs,SqL K H1 a xs)∧R (Itl K a) H1
def Zt6 (K:PySem.W.Frag) (tl:TE):TI:=fun σ H R=>tl σ H fun x H1=>∃ a,x=.ref a∧(∃ xs,SqT K H1 a xs)∧R (Itt K a) H1
theorem Zqb {l:Expr} {tl:TE} (hl:PE X l tl):PI X tg l (Ztv X.K tl):=by
 intro pins s σ H R I h
 refine thn (hl pins s σ H _ I h) fun v s1 ⟨x,H1,I1,r1,q1⟩=>?_
 obtain ⟨a,e,⟨xs,hq⟩,q⟩:=q1
 subst e
 cases r1
 obtain ⟨its,rv,p,hz⟩:=I1.list hq
 refine wpAny_pyIter_list p.isList ?_
 refine ⟨s1.heap.objs.size,[s1.heap.objs.size],_,_,H1,rfl,I1.kept (t':=s1.toks) fun b o e=>Heap.get?_push_of_some _ e,Znl a _,⟨_,Heap.get?_push_size _ rfl,rfl,rfl⟩,fun b hb=>?_,q⟩
 have e:b=s1.heap.objs.size:=by simpa using hb
 subst e
 exact I1.fpOk (Nat.le_refl _) (I1.hok.fresh (Nat.le_refl _))
theorem Zq8 {l:Expr} {tl:TE} (hl:PE X l tl):PI X tg l (Zt6 X.K tl):=by
 intro pins s σ H R I h
 refine thn (hl pins s σ H _ I h) fun v s1 ⟨x,H1,I1,r1,q1⟩=>?_
 obtain ⟨a,e,⟨xs,hq⟩,q⟩:=q1
 subst e
 cases r1
 obtain ⟨its,rv,p,hz⟩:=I1.tuple hq
 refine wpAny_pyIter_tuple (show s1.heap.IsTuple a its.toArray from p) ?_
 refine ⟨s1.heap.objs.size,[s1.heap.objs.size],_,_,H1,rfl,I1.kept (t':=s1.toks) fun b o e=>Heap.get?_push_of_some _ e,Zmh a _,⟨_,Heap.get?_push_size _ rfl,rfl,rfl⟩,fun b hb=>?_,q⟩
 have e:b=s1.heap.objs.size:=by simpa using hb
 subst e
 exact I1.fpOk (Nat.le_refl _) (I1.hok.fresh (Nat.le_refl _))
theorem ZkL {pins:List (Addr×Obj)} {σ:St} {H:Hp} {s:Shared} {R:It→Hp→Prop} {E:Value→Shared→Prop} {lo hi:Int} {t u v:Tok} {tk:Nat} (I:Inv X pins σ H s) (h1 : -(2^62)≤lo) (h2:lo<2^62) (h3 : -(2^62)≤hi) (h4:hi<2^62)
  (q:R (Itr lo (hi-lo).toNat) H):wpAny (model X.prog X.w) X.A (pyIter (.ref s.heap.objs.size)) (PIE X pins σ tg R) E { s with heap:=s.heap.push { cls:=.type "range",data:=.fields #[.int lo t,.int hi u,.int 1 v] },toks:=tk }:=by
 refine wpAny_pyIter_range (IsRange.new ..) (small_one h1 h2 h3 h4) ?_
 have I1:Inv X pins σ H { s with heap:=s.heap.push { cls:=.type "range",data:=.fields #[.int lo t,.int hi u,.int 1 v] },toks:=tk }:=I.kept fun b o e=>Heap.get?_push_of_some _ e
 refine ⟨(s.heap.push { cls:=.type "range",data:=.fields #[.int lo t,.int hi u,.int 1 v] }).objs.size,[(s.heap.push { cls:=.type "range",data:=.fields #[.int lo t,.int hi u,.int 1 v] }).objs.size],_,_,H,rfl,
  I1.kept (t':=tk) fun b o e=>Heap.get?_push_of_some _ e,ZmE _ lo (hi-lo).toNat,?_,fun b hb=>?_,q⟩
 ·have e1:lo+((0:Nat):Int) * 1=lo:=by simp
  have e2:(((hi-lo).toNat:Nat):Int)-((0:Nat):Int)=Builtin.Range.rangeSize lo hi 1:=by rw [rangeSize_one];split<;>omega
  show IsRangeIter _ _ (lo+((0:Nat):Int) * 1) ((((hi-lo).toNat:Nat):Int)-((0:Nat):Int)) 1
  rw [e1,e2]
  exact Heap.get?_push_size _ rfl
 ·have e:b=(s.heap.push { cls:=.type "range",data:=.fields #[.int lo t,.int hi u,.int 1 v] }).objs.size:=by simpa using hb
  subst e
  exact I1.fpOk (Nat.le_refl _) (I1.hok.fresh (Nat.le_refl _))
def Ztp (ta:TA):TI:=fun σ H R=>ta σ H fun vs H1=>∃ j:Int,vs=[.int j] ∧ -(2^62)≤j∧j<2^62∧R (Itr 0 j.toNat) H1
def ZtO (ta:TA):TI:=fun σ H R=>ta σ H fun vs H1=>∃ i j:Int,vs=[.int i,.int j]∧(-(2^62)≤i∧i<2^62 ∧ -(2^62)≤j∧j<2^62)∧R (Itr i (j-i).toNat) H1
theorem Znu {a:Expr} {ta:TA} {p pos:Pos} (hg:Gl X "range") (hm:X.mg "range"=none) (ha:PA X [a] ta) (hs:starEach [a] X.env=[(false,eval a X.env)]:=by rfl):PI X tg (.Call (.Name "range" p) [a] [] pos) (Ztp ta):=by
 intro pins s σ H R I h
 refine Call_ (Zex I hg hm boot_range (PyProof.Rows.callWith_type1 (thn (ha pos pins s σ H _ I h) fun us s1 ⟨vs,H1,I1,r1,q1⟩=>?_) hs rfl))
 obtain ⟨j,e,q1,q2,q⟩:=q1
 subst e
 cases r1 with
 | cons r rr =>
  cases rr
  obtain ⟨t,rfl⟩:=r
  exact call_range_1 (ZkL I1 (by omega) (by omega) q1 q2 (by simpa using q))
theorem ZnG {a b:Expr} {ta:TA} {p pos:Pos} (hg:Gl X "range") (hm:X.mg "range"=none) (ha:PA X [a,b] ta) (hs:starEach [a,b] X.env=[(false,eval a X.env),(false,eval b X.env)]:=by rfl) (hs2:starEach [b] X.env=[(false,eval b X.env)]:=by rfl) :
  PI X tg (.Call (.Name "range" p) [a,b] [] pos) (ZtO ta):=by
 intro pins s σ H R I h
 refine Call_ (Zex I hg hm boot_range (PyProof.Rows.callWith_type1 (thn (ha pos pins s σ H _ I h) fun us s1 ⟨vs,H1,I1,r1,q1⟩=>?_) (by rw [hs,hs2]) (by rw [hs2];rfl)))
 obtain ⟨i,j,e,⟨q1,q2,q3,q4⟩,q⟩:=q1
 subst e
 cases r1 with
 | cons r rr =>
  cases rr with
  | cons r' rr =>
   cases rr
   obtain ⟨t,rfl⟩:=r
   obtain ⟨t',rfl⟩:=r'
   exact call_range_2 (ZkL I1 q1 q2 q3 q4 q)
def ZqQ (wi:TI) (g:TG) (tb:TS):TS:=fun D σ H=>wi σ H fun J H1=>∃ W:Nat→Nat→St→Hp→Prop,(∃ m,W 0 m σ H1)∧∀ i m σ H,W i m σ H →
 (J.stop i H∧D.nx σ H)∨(J.go i H∧∃ N:St→Hp→Prop,(∀ σ' H',N σ' H'→∃ m',m'<m∧W (i+1) m' σ' H')∧∀ x H',J.yld i H x H'→g x σ H' fun σ2 H2=>tb { D with nx:=N,ct:=N,bk:=D.nx } σ2 H2)
def Zeq (fp:List Addr) (h:Heap):List (Addr×Obj):=fp.filterMap fun b=>(h.get? b).map fun o=>(b,o)
theorem ZdY {fp:List Addr} {h:Heap} {b:Addr} {o:Obj} (hb:b∈fp) (e:h.get? b=some o):(b,o)∈Zeq fp h:=List.mem_filterMap.mpr ⟨b,hb,by rw [e];rfl⟩
theorem ZiW {fp:List Addr} {h:Heap} {p:Addr×Obj} (hp:p∈Zeq fp h):p.1∈fp∧h.get? p.1=some p.2:=by
 obtain ⟨b,hb,e⟩:=List.mem_filterMap.mp hp
 cases q:h.get? b with
 | none=>rw [q] at e;cases e
 | some o =>
  rw [q] at e
  have e':(b,o)=p:=Option.some.inj e
  subst e'
  exact ⟨hb,q⟩
theorem Inv.pinned {pins:List (Addr×Obj)} {σ:St} {H:Hp} {s:Shared} {fp:List Addr} (I:Inv X pins σ H s) (hf:∀ b∈fp,Zeh X pins H b) (ho:∀ b∈fp,∃ o,s.heap.get? b=some o∧∀ v,o.data≠.cell v):Inv X (pins++Zeq fp s.heap) σ H s :=
 I.pins_of fun p hp=>(List.mem_append.mp hp).elim (fun z=>I.pin p (List.mem_append_right _ z)) fun z=>by
  obtain ⟨hb,e⟩:=ZiW z
  obtain ⟨f0,f1,f2,_⟩:=hf p.1 hb
  obtain ⟨o,e',d⟩:=ho p.1 hb
  rw [e] at e';cases e'
  exact ⟨e,f0,f1,f2,d⟩
theorem Inv.unpinned {pins pl:List (Addr×Obj)} {σ:St} {H:Hp} {s:Shared} (I:Inv X (pins++pl) σ H s):Inv X pins σ H s:=I.pins_of fun p hp=>I.pin p (List.mem_append_right _ (List.mem_append_left _ hp))
theorem ZqH {iter:Expr} {body:List Stmt} {wi:TI} {g:TG} {tb:TS} {pos:Pos} (hp:PassesOwn (model X.prog X.w) X.A X.env X.xe) (hc:X.calm=true) (hi:PI X tg iter wi) (hg:PG X tg g) (hb:PSs X body tb)
  (hs:∀ x,foldedSetIterable iter X.env x=pure x:=by intro _;rfl):PS X (.For tg iter body [] pos) (ZqQ wi g tb):=by
 intro pins s σ H D I h
 refine wpAny_For (thn (hi pins s σ H _ I h) fun v s1 h1=>thn h1 fun itv s2 h2=>?_) hs
 obtain ⟨it,fp,tn,J,H2,e,I2,T,st2,f2,W,⟨m0,w0⟩,turn⟩:=h2
 subst e
 -- what stays true of the iterator's objects through the loop
 have stat:∀ {H':Hp},(∀ b∈fp,H' b=none)→∀ b∈fp,Zeh X pins H' b:=fun hn b hb=>⟨hn b hb,(f2 b hb).2⟩
 refine codeAny_forLoop_any (fun n s'=>∃ i σ' H',Inv X pins σ' H' s'∧tn i s'.heap∧(∀ b∈fp,H' b=none)∧W i n σ' H') ?_ m0 ⟨0,σ,H2,I2,st2,fun b hb=>(f2 b hb).1,w0⟩
 rintro n s3 ⟨i,σ3,H3,I3,st3,fr3,w3⟩
 rcases turn i n σ3 H3 w3 with ⟨stop,qn⟩ | ⟨go,N,hN,step⟩
 ·refine wpAny_passesOwn hp (thn (T.done X rfl rfl rfl hc i pins s3 σ3 H3 X.xe I3 (stat fr3) st3 stop) fun r s4 ⟨hr,I4⟩=>?_)
  subst hr
  exact wpAny_execs_nil ⟨σ3,H3,I4,qn⟩
 ·refine wpAny_passesOwn hp (thn (T.item X rfl rfl rfl hc i pins s3 σ3 H3 X.xe I3 (stat fr3) st3 go) fun r s4 ⟨u,hr,h4⟩=>?_)
  subst hr
  refine wpAny_passesOwn hp (thn h4 fun _ s5 ⟨x,H5,I5,r5,y5,st5,fr5⟩=>?_)
  have I5':=I5.pinned (stat fr5) (T.obj _ _ st5)
  refine wpAny_passesOwn hp (thn (hg _ s5 σ3 H5 x u _ I5' r5 (step x H5 y5)) fun _ s6 ⟨σ6,H6,I6,q6⟩=>?_)
  refine wpAny_passesOwn hp (thn (hb _ s6 σ6 H6 _ I6 q6) fun f s7 q7=>?_)
  have again:∀ {σ7:St} {H7:Hp},Inv X (pins++Zeq fp s5.heap) σ7 H7 s7→N σ7 H7→∃ m,m<n∧∃ i σ' H',Inv X pins σ' H' s7∧tn i s7.heap∧(∀ b∈fp,H' b=none)∧W i m σ' H':=fun {σ7 H7} I7 n7=>by
   obtain ⟨m',hm,w7⟩:=hN σ7 H7 n7
   refine ⟨m',hm,i+1,σ7,H7,I7.unpinned,T.keep _ _ _ st5 fun b hb o e=>(I7.pin (b,o) (List.mem_append_right _ (List.mem_append_right _ (ZdY hb e)))).1,fun b hb=>?_,w7⟩
   obtain ⟨o,e,d⟩:=T.obj _ _ st5 b hb
   exact (I7.pin (b,o) (List.mem_append_right _ (List.mem_append_right _ (ZdY hb e)))).2.1
  cases f with
  | next=>obtain ⟨σ7,H7,I7,n7⟩:=q7;exact again I7 n7
  | cont=>obtain ⟨σ7,H7,I7,n7⟩:=q7;exact again I7 n7
  | brk=>obtain ⟨σ7,H7,I7,q7⟩:=q7;exact ⟨σ7,H7,I7.unpinned,q7⟩
  | ret v=>obtain ⟨x7,σ7,H7,I7,r7,q7⟩:=q7;exact ⟨x7,σ7,H7,I7.unpinned,r7,q7⟩
end
end L2
namespace L2
open PySem PySem.Spec PyProof.Rows
abbrev R2:=V→V→Hp→VK→Prop
def OpR (X:Cx) (f:Value→Value→Sem Value) (r:R2):Prop :=
 ∀ (pins:List (Addr×Obj)) (s:Shared) (σ:St) (H:Hp) (x y:V) (v u:Value) (Q:VK),Inv X pins σ H s→RelV x v→RelV y u→r x y H Q →
  wpAny (model X.prog X.w) X.A (f v u) (EP X pins σ Q) X.xe s
def UnR (X:Cx) (f:Value→Sem Value) (r:V→Hp→VK→Prop):Prop :=
 ∀ (pins:List (Addr×Obj)) (s:Shared) (σ:St) (H:Hp) (x:V) (v:Value) (Q:VK),Inv X pins σ H s→RelV x v→r x H Q →
  wpAny (model X.prog X.w) X.A (f v) (EP X pins σ Q) X.xe s
def CallR (X:Cx) (f:Value) (r:List V→Hp→VK→Prop):Prop :=
 ∀ (pins:List (Addr×Obj)) (s:Shared) (σ:St) (H:Hp) (xs:List V) (us:List Value) (Q:VK),Inv X pins σ H s→Vals xs us→r xs H Q →
  wpAny (model X.prog X.w) X.A (call f us) (EP X pins σ Q) X.xe s
def Zuc (X:Cx) (r:V→Hp→(Bool→Hp→Prop)→Prop):Prop :=
 ∀ (pins:List (Addr×Obj)) (s:Shared) (σ:St) (H:Hp) (x:V) (v:Value) (Q:Bool→Hp→Prop),Inv X pins σ H s→RelV x v→r x H Q →
  wpAny (model X.prog X.w) X.A (truthy v) (TP X pins σ Q) X.xe s
def tOp (r:R2) (ta tb:TE):TE:=fun σ H Q=>ta σ H fun x H1=>tb σ H1 fun y H2=>r x y H2 Q
def tUn (r:V→Hp→VK→Prop) (ta:TE):TE:=fun σ H Q=>ta σ H fun x H1=>r x H1 Q
def rI (C:Int→Int→Prop) (g:Int→Int→V):R2:=fun x y H Q=>∃ i j,x=.int i∧y=.int j∧C i j∧Q (g i j) H
def rI0 (g:Int→Int→V):R2:=fun x y H Q=>∃ i j,x=.int i∧y=.int j∧Q (g i j) H
def rU (g:Int→V):V→Hp→VK→Prop:=fun x H Q=>∃ i,x=.int i∧Q (g i) H
section
variable {X:Cx} {a b c:Expr} {ta tb tc:TE} {pos:Pos}
theorem ZoE (ha:PE X a ta) (hb:PE X b tb) {pins:List (Addr×Obj)} {s:Shared} {σ:St} {H:Hp} {R:V→V→Hp→Prop} (I:Inv X pins σ H s)
  (h:ta σ H fun x H1=>tb σ H1 fun y H2=>R x y H2) {Q:Value→Shared→Prop} {f:Value→Value→Sem Value}
  (hf:∀ v u s2 x y H2,Inv X pins σ H2 s2→RelV x v→RelV y u→R x y H2→wpAny (model X.prog X.w) X.A (f v u) Q X.xe s2) :
  wpAny (model X.prog X.w) X.A (eval a X.env) (fun v s₁=>wpAny (model X.prog X.w) X.A (eval b X.env) (fun u s₂=>wpAny (model X.prog X.w) X.A (f v u) Q X.xe s₂) X.xe s₁) X.xe s:=by
 refine thn (ha pins s σ H _ I h) fun v s1 ⟨x,H1,I1,r1,q1⟩=>?_
 refine thn (hb pins s1 σ H1 _ I1 q1) fun u s2 ⟨y,H2,I2,r2,q2⟩=>?_
 exact hf v u s2 x y H2 I2 r1 r2 q2
theorem ZtB {op:Operator} {r:R2} (ho:OpR X (binaryOp op) r) (ha:PE X a ta) (hb:PE X b tb):PE X (.BinOp a op b pos) (tOp r ta tb):=by
 intro pins s σ H Q I h
 exact wpAny_BinOp (ZoE ha hb I h fun v u s2 x y H2 I2 rx ry q=>ho pins s2 σ H2 x y v u Q I2 rx ry q)
theorem Ztm {op:UnaryOp} {r:V→Hp→VK→Prop} (ho:UnR X (unaryOp op) r) (ha:PE X a ta):PE X (.UnaryOp op a pos) (tUn r ta):=by
 intro pins s σ H Q I h
 exact UnaryOp_ (thn (ha pins s σ H _ I h) fun v s1 ⟨x,H1,I1,r1,q1⟩=>ho pins s1 σ H1 x v Q I1 r1 q1)
theorem opI {f:Value→Value→Sem Value} {C:Int→Int→Prop} {g:Int→Int→Int}
  (rule:∀ (i j:Int) (t u:Tok) (s:Shared) (Q:Value→Shared→Prop) (E:Value→Shared→Prop),C i j→Q (.int (g i j) s.toks) { s with toks:=s.toks+1 }→wpAny (model X.prog X.w) X.A (f (.int i t) (.int j u)) Q E s) :
  OpR X f (rI C fun i j=>.int (g i j)):=by
 intro pins s σ H x y v u Q I rx ry h
 obtain ⟨i,j,rfl,rfl,hc,q⟩:=h
 obtain ⟨t,rfl⟩:=rx
 obtain ⟨t',rfl⟩:=ry
 exact rule i j t t' s _ _ hc ⟨.int (g i j),H,I.tok _,⟨_,rfl⟩,q⟩
theorem ZrE {f:Value→Value→Sem Value} {g:Int→Int→Int}
  (rule:∀ (i j:Int) (t u:Tok) (s:Shared) (Q:Value→Shared→Prop) (E:Value→Shared→Prop),Q (.int (g i j) s.toks) { s with toks:=s.toks+1 }→wpAny (model X.prog X.w) X.A (f (.int i t) (.int j u)) Q E s) :
  OpR X f (rI0 fun i j=>.int (g i j)):=by
 intro pins s σ H x y v u Q I rx ry h
 obtain ⟨i,j,rfl,rfl,q⟩:=h
 obtain ⟨t,rfl⟩:=rx
 obtain ⟨t',rfl⟩:=ry
 exact rule i j t t' s _ _ ⟨.int (g i j),H,I.tok _,⟨_,rfl⟩,q⟩
theorem ZrS {f:Value→Value→Sem Value} {g:Int→Int→Bool}
  (rule:∀ (i j:Int) (t u:Tok) (s:Shared) (Q:Value→Shared→Prop) (E:Value→Shared→Prop),Q (.bool (g i j)) s→wpAny (model X.prog X.w) X.A (f (.int i t) (.int j u)) Q E s) :
  OpR X f (rI0 fun i j=>.bl (g i j)):=by
 intro pins s σ H x y v u Q I rx ry h
 obtain ⟨i,j,rfl,rfl,q⟩:=h
 obtain ⟨t,rfl⟩:=rx
 obtain ⟨t',rfl⟩:=ry
 exact rule i j t t' s _ _ ⟨.bl (g i j),H,I,rfl,q⟩
def Zcn (i j:Int):Prop:=0<j∧j<1073741824
def ZfI (i j:Int):Prop:=0≤j∧j≤1000000∧i.natAbs<2^64
def CMul (i j:Int):Prop:=(-(2^64)<i∧i<2^64)∨(-(2^64)<j∧j<2^64)
theorem CMul.ok {i j:Int} (h:CMul i j):IntMulOk i j:=by
 rcases h with ⟨h1,h2⟩ | ⟨h1,h2⟩
 ·exact .of_left (intBits_le_64 h1 h2)
 ·exact .of_right (intBits_le_64 h1 h2)
theorem op_add:OpR X (binaryOp .Add) (rI0 fun i j=>.int (i+j)):=ZrE fun _ _ _ _ _ _ _ q=>add_int q
theorem ZqY:OpR X (binaryOp .Sub) (rI0 fun i j=>.int (i-j)):=ZrE fun _ _ _ _ _ _ _ q=>sub_int q
theorem ZsS:OpR X (binaryOp .Mult) (rI CMul fun i j=>.int (i * j)):=opI fun _ _ _ _ _ _ _ hc q=>mul_int q hc.ok
theorem ZpD:OpR X (binaryOp .FloorDiv) (rI Zcn fun i j=>.int (i / j)):=opI fun i j _ _ _ _ _ hc q=>by
 have h1:(0:Int)<j:=hc.1
 have h2:j<1073741824:=hc.2
 exact floordiv_int (by omega) (by rw [Int.fdiv_eq_ediv_of_nonneg i (by omega)];exact q) (.inl (PyProof.noPylong_small (by omega)))
theorem ZrH:OpR X (binaryOp .Mod) (rI (fun _ j=>0<j) fun i j=>.int (i%j)):=opI fun i j _ _ _ _ _ hc q=>by
 have h1:(0:Int)<j:=hc
 exact mod_int' (by omega) (by rw [Int.fmod_eq_emod_of_nonneg i (by omega)];exact q)
theorem ZrT:OpR X (binaryOp .Pow) (rI ZfI fun i j=>.int (i^j.toNat)):=opI fun _ _ _ _ _ _ _ hc q=>pow_int_small hc.1 hc.2.1 hc.2.2 q
theorem unI {f:Value→Sem Value} {g:Int→Int}
  (rule:∀ (i:Int) (t:Tok) (s:Shared) (Q:Value→Shared→Prop) (E:Value→Shared→Prop),Q (.int (g i) s.toks) { s with toks:=s.toks+1 }→wpAny (model X.prog X.w) X.A (f (.int i t)) Q E s) :
  UnR X f (rU fun i=>.int (g i)):=by
 intro pins s σ H x v Q I rx h
 obtain ⟨i,rfl,q⟩:=h
 obtain ⟨t,rfl⟩:=rx
 exact rule i t s _ _ ⟨.int (g i),H,I.tok _,⟨_,rfl⟩,q⟩
theorem Zsw:UnR X (unaryOp .USub) (rU fun i=>.int (-i)):=unI fun _ _ _ _ _ q=>neg_int q
end
section
variable {X:Cx} {a b c:Expr} {ta tb tc:TE} {pos:Pos}
theorem Zra {pins:List (Addr×Obj)} {σ:St} {H:Hp} {s:Shared} {Q:VK} {k k':Bool} (I:Inv X pins σ H s) (q:Q (.bl k) H) (e:k=k'):EP X pins σ Q (.bool k') s:=by
 subst e
 exact ⟨.bl k,H,I,rfl,q⟩
theorem Zfu:OpR X (compareOp .LtE) (rI0 fun i j=>.bl (decide (i≤j))):=ZrS fun _ _ _ _ _ _ _ q=>le_int q
theorem ZoS:OpR X (compareOp .Gt) (rI0 fun i j=>.bl (decide (j<i))):=ZrS fun _ _ _ _ _ _ _ q=>gt_int q
theorem Znn:OpR X (compareOp .In) (fun x y H Q=>∃ i j,x=.str i∧y=.str j∧Q (.bl (!(Builtin.Str.occurrences j i 0 j.length 1).isEmpty)) H):=by
 intro pins s σ H x y v u Q I rx ry h
 obtain ⟨i,j,rfl,rfl,q⟩:=h
 obtain ⟨t,rfl⟩:=rx
 obtain ⟨t',rfl⟩:=ry
 exact in_str (Zra I q rfl)
theorem OpR.or {f:Value→Value→Sem Value} {r r':R2} (h:OpR X f r) (h':OpR X f r'):OpR X f (fun x y H Q=>r x y H Q∨r' x y H Q):=by
 intro pins s σ H x y v u Q I rx ry q
 rcases q with q | q
 ·exact h pins s σ H x y v u Q I rx ry q
 ·exact h' pins s σ H x y v u Q I rx ry q
theorem Zqk {op:CmpOp} {r:R2} (ho:OpR X (compareOp op) r) (ha:PE X a ta) (hb:PE X b tb) (hm:behindInMarks op b=false):PE X (.Compare a [op] [b] pos) (tOp r ta tb):=by
 intro pins s σ H Q I h
 exact wpAny_Compare1 (ZoE ha hb I h fun v u s2 x y H2 I2 rx ry q=>ho pins s2 σ H2 x y v u Q I2 rx ry q) hm
def ZoV (t:TE):TT:=fun σ H Q=>t σ H fun x H'=>∃ k,x=.bl k∧Q k H'
theorem Zlv {op:CmpOp} {r:R2} (ho:OpR X (compareOp op) r) (ha:PE X a ta) (hb:PE X b tb) (hm:behindInMarks op b=false):PT X (.Compare a [op] [b] pos) (ZoV (tOp r ta tb)):=by
 intro pins s σ H Q I h
 refine wpAny_isTrue_Compare1 (thn (ha pins s σ H _ I h) fun v s1 ⟨x,H1,I1,r1,q1⟩=>thn (hb pins s1 σ H1 _ I1 q1) fun u s2 ⟨y,H2,I2,r2,q2⟩ =>
  thn (ho pins s2 σ H2 x y v u _ I2 r1 r2 q2) fun c s3 ⟨z,H3,I3,r3,k,e,q3⟩=>?_) hm
 subst e
 cases r3
 exact wpAny_truthy_bool ⟨H3,I3,q3⟩
def Zj8 (r r':R2) (ta tb tc:TE):TE:=fun σ H Q=>ta σ H fun x H1=>tb σ H1 fun y H2=>r x y H2 fun z H3=>∃ k,z=.bl k ∧
 (if k=true then tc σ H3 fun w' H4=>r' y w' H4 Q else Q (.bl false) H3)
theorem ZnS {op op':CmpOp} {r r':R2} (ho:OpR X (compareOp op) r) (ho':OpR X (compareOp op') r') (ha:PE X a ta) (hb:PE X b tb) (hc:PE X c tc)
  (hm:lastMarks [op,op'] [b,c]=false:=by with_unfolding_all rfl):PE X (.Compare a [op,op'] [b,c] pos) (Zj8 r r' ta tb tc):=by
 intro pins s σ H Q I h
 refine Compare_chain (thn (ha pins s σ H _ I h) fun v s1 ⟨x,H1,I1,r1,q1⟩=>chain_link (thn (hb pins s1 σ H1 _ I1 q1) fun u s2 ⟨y,H2,I2,r2,q2⟩ =>
  thn (ho pins s2 σ H2 x y v u _ I2 r1 r2 q2) fun d s3 ⟨z,H3,I3,r3,k,e,q3⟩=>?_)) hm
 subst e
 cases r3
 refine wpAny_truthy_bool ?_
 cases k with
 | false=>exact ite_ff ⟨.bl false,H3,I3,rfl,q3⟩
 | true=>exact ite_tt (chain_last (thn (hc pins s3 σ H3 _ I3 q3) fun w' s4 ⟨z',H4,I4,r4,q4⟩=>ho' pins s4 σ H4 y z' u w' Q I4 r2 r4 q4))
theorem ZoF {op op':CmpOp} {r r':R2} (ho:OpR X (compareOp op) r) (ho':OpR X (compareOp op') r') (ha:PE X a ta) (hb:PE X b tb) (hc:PE X c tc)
  (hm:lastMarks [op,op'] [b,c]=false:=by with_unfolding_all rfl):PT X (.Compare a [op,op'] [b,c] pos) (ZoV (Zj8 r r' ta tb tc)):=by
 intro pins s σ H Q I h
 refine isTrue_chain (thn (ha pins s σ H _ I h) fun v s1 ⟨x,H1,I1,r1,q1⟩=>test_link (thn (hb pins s1 σ H1 _ I1 q1) fun u s2 ⟨y,H2,I2,r2,q2⟩ =>
  thn (ho pins s2 σ H2 x y v u _ I2 r1 r2 q2) fun d s3 ⟨z,H3,I3,r3,k,e,q3⟩=>?_)) hm
 subst e
 cases r3
 refine wpAny_truthy_bool ?_
 cases k with
 | false =>
  obtain ⟨k',e',q'⟩:=q3
  cases e'
  exact ite_ff ⟨H3,I3,q'⟩
 | true =>
  refine ite_tt (test_last (thn (hc pins s3 σ H3 _ I3 q3) fun w' s4 ⟨z',H4,I4,r4,q4⟩=>thn (ho' pins s4 σ H4 y z' u w' _ I4 r2 r4 q4) fun d' s5 ⟨z2,H5,I5,r5,k2,e2,q5⟩=>?_))
  subst e2
  cases r5
  exact wpAny_truthy_bool ⟨H5,I5,q5⟩
def Zrx (K:PySem.W.Frag) (x:V) (H:Hp) (k:Bool):Prop :=
 match x with
 | .non=>k=false
 | .bl b=>k=b
 | .int i=>k=(i != 0)
 | .str y=>y.length≤sizeLine∧k=((y.length:Int) != 0)
 | .byt y=>y.size≤sizeLine∧k=((y.size:Int) != 0)
 | .ref p=>(∃ xs,SqL K H p xs∧k=!xs.isEmpty)∨(∃ xs,SqT K H p xs∧k=!xs.isEmpty)∨∃ kvs,H p=some (.dK kvs)∧k=!kvs.isEmpty
 | _=>False
theorem Zme {κ:Type} {kvs:List (κ×V)} {vs:List (κ×Value)} (r:KV kvs vs):(!vs.isEmpty)=!kvs.isEmpty:=by
 cases r<;>rfl
theorem Zig {xs:List V} {its:List Value} (r:Vals xs its):(!its.toArray.isEmpty)=!xs.isEmpty:=by
 cases r<;>simp
theorem ZgL:(sizeLine:Nat)<2^63:=by rw [sizeLine_eq];decide
theorem ZsZ:Zuc X (fun x H Q=>∃ k,Zrx X.K x H k∧Q k H):=by
 intro pins s σ H x v Q I rx h
 obtain ⟨k,e,q⟩:=h
 have hl:=ZgL
 have hs:sizeLine=16777216:=sizeLine_eq
 cases x with
 | non =>
  cases rx
  have e':k=false:=e
  subst e'
  exact truthy_none ⟨H,I,q⟩
 | bl b =>
  cases rx
  have e':k=b:=e
  subst e'
  exact wpAny_truthy_bool ⟨H,I,q⟩
 | int i =>
  obtain ⟨t,rfl⟩:=rx
  have e':k=(i != 0):=e
  subst e'
  exact PySem.P.truthy_int ⟨H,I,q⟩
 | str y =>
  obtain ⟨t,rfl⟩:=rx
  obtain ⟨hy,e'⟩:y.length≤sizeLine∧k=((y.length:Int) != 0):=e
  subst e'
  exact PySem.P.truthy_str (by omega) ⟨H,I.tok _,q⟩
 | byt y =>
  obtain ⟨t,rfl⟩:=rx
  obtain ⟨hy,e'⟩:y.size≤sizeLine∧k=((y.size:Int) != 0):=e
  subst e'
  exact PySem.W.truthy_bytes (by omega) ⟨H,I.tok _,q⟩
 | ref p =>
  cases rx
  have e':(∃ xs,SqL X.K H p xs∧k=!xs.isEmpty)∨(∃ xs,SqT X.K H p xs∧k=!xs.isEmpty)∨∃ kvs,H p=some (.dK kvs)∧k=!kvs.isEmpty:=e
  rcases e' with ⟨xs,hx,e'⟩ | ⟨xs,hx,e'⟩ | ⟨kvs,hx,e'⟩
  ·subst e'
   obtain ⟨its,r,pl,hz⟩:=I.list hx
   have hlen:=r.length
   exact wpAny_truthy_list pl.isList (by simp only [List.size_toArray];omega) ⟨H,I.tok _,by rw [Zig r];exact q⟩
  ·subst e'
   obtain ⟨its,r,pl,hz⟩:=I.tuple hx
   have hlen:=r.length
   exact truthy_tuple pl (by simp only [List.size_toArray];omega) ⟨H,I.tok _,by rw [Zig r];exact q⟩
  ·subst e'
   obtain ⟨hz,hS,vs,r,m⟩:kvs.length≤sizeLine∧(p==sysModules)=false∧∃ vs,KV kvs vs∧s.heap.DictOf (Zim X.prog X.w) p vs:=I.hok p _ hx
   have hlen:kvs.length=vs.length:=Paired.length r
   exact wpAny_truthy_dict hS m (by omega) ⟨H,I.tok _,by rw [Zme r];exact q⟩
 | _=>exact (show False from e).elim
theorem ZoB (ha:PE X a ta) (he:∀ whole,isTrue a X.env whole=(do let v ← whole;standAt a.pos;holding [v] (truthy v))) :
  PT X a (fun σ H Q=>ta σ H fun x H'=>∃ k,Zrx X.K x H' k∧Q k H'):=by
 intro pins s σ H Q I h
 exact isTrue_plain (thn (ha pins s σ H _ I h) fun v s1 ⟨x,H1,I1,r1,q1⟩=>ZsZ pins s1 σ H1 x v Q I1 r1 q1) (he _)
theorem op_add_str:OpR X (binaryOp .Add) (fun x y H Q=>∃ i j,x=.str i∧y=.str j∧i.length+j.length≤sizeLine∧Q (.str (i++j)) H):=by
 intro pins s σ H x y v u Q I rx ry h
 obtain ⟨i,j,rfl,rfl,hz,q⟩:=h
 obtain ⟨t,rfl⟩:=rx
 obtain ⟨t',rfl⟩:=ry
 exact add_str (fun t' tk=>⟨.str (i++j),H,I.tok _,⟨_,rfl⟩,q⟩) hz
theorem Zd6 {x:V} {us:List Value} (r:Vals [x] us):∃ u,us=[u]∧RelV x u:=by
 cases r with
 | cons r1 r2=>cases r2;exact ⟨_,rfl,r1⟩
theorem ZjH {x y:V} {us:List Value} (r:Vals [x,y] us):∃ u w',us=[u,w']∧RelV x u∧RelV y w':=by
 cases r with
 | cons r1 r2 =>
  cases r2 with
  | cons r3 r4=>cases r4;exact ⟨_,_,rfl,r1,r3⟩
theorem Zi4 (hc:X.calm=true):CallR X (.builtin "max") (fun xs H Q=>∃ i j,xs=[.int i,.int j]∧Q (.int (if j > i then j else i)) H):=by
 intro pins s σ H xs us Q I r h
 obtain ⟨i,j,rfl,q⟩:=h
 obtain ⟨u,w',rfl,⟨t,rfl⟩,⟨t',rfl⟩⟩:=ZjH r
 refine max_two_ints (I.ok.hd hc) fun h' tk k=>⟨_,H,I.kept k,?_,q⟩
 by_cases hj:j > i
 ·rw [if_pos hj,if_pos hj];exact ⟨_,rfl⟩
 ·rw [if_neg hj,if_neg hj];exact ⟨_,rfl⟩
theorem ZiV (hc:X.calm=true):CallR X (.builtin "min") (fun xs H Q=>∃ i j,xs=[.int i,.int j]∧Q (.int (if j<i then j else i)) H):=by
 intro pins s σ H xs us Q I r h
 obtain ⟨i,j,rfl,q⟩:=h
 obtain ⟨u,w',rfl,⟨t,rfl⟩,⟨t',rfl⟩⟩:=ZjH r
 refine min_two_ints (I.ok.hd hc) fun h' tk k=>⟨_,H,I.kept k,?_,q⟩
 by_cases hj:j<i
 ·rw [if_pos hj,if_pos hj];exact ⟨_,rfl⟩
 ·rw [if_neg hj,if_neg hj];exact ⟨_,rfl⟩
theorem ZjU:CallR X (.type "str") (fun xs H Q=>∃ i,xs=[.int i]∧i.natAbs.log2<1920∧Q (.str (toString i)) H):=by
 intro pins s σ H xs us Q I r h
 obtain ⟨i,rfl,hz,q⟩:=h
 obtain ⟨u,rfl,t,rfl⟩:=Zd6 r
 exact PySem.P.str_of_int hz ⟨.str _,H,I.tok _,⟨_,rfl⟩,q⟩
def ZrB (K:PySem.W.Frag) (x:V) (H:Hp) (n:Nat):Prop :=
 match x with
 | .str y=>y.length≤sizeLine∧n=y.length
 | .byt y=>y.size≤sizeLine∧n=y.size
 | .ref p=>(∃ xs,SqL K H p xs∧n=xs.length)∨∃ xs,SqT K H p xs∧n=xs.length
 | _=>False
theorem ZW:CallR X (.builtin "len") (fun xs H Q=>∃ x n,xs=[x]∧ZrB X.K x H n∧Q (.int n) H):=by
 intro pins s σ H xs us Q I r h
 obtain ⟨x,n,rfl,e,q⟩:=h
 obtain ⟨u,rfl,rx⟩:=Zd6 r
 have hl:=ZgL
 have hs:sizeLine=16777216:=sizeLine_eq
 cases x with
 | str y =>
  obtain ⟨t,rfl⟩:=rx
  obtain ⟨hy,e'⟩:y.length≤sizeLine∧n=y.length:=e
  subst e'
  exact len_str (by omega) ⟨.int _,H,I.tok _,⟨_,rfl⟩,q⟩
 | byt y =>
  obtain ⟨t,rfl⟩:=rx
  obtain ⟨hy,e'⟩:y.size≤sizeLine∧n=y.size:=e
  subst e'
  exact PySem.W.len_bytes (by omega) ⟨.int _,H,I.tok _,⟨_,rfl⟩,q⟩
 | ref p =>
  cases rx
  have e':(∃ xs,SqL X.K H p xs∧n=xs.length)∨∃ xs,SqT X.K H p xs∧n=xs.length:=e
  rcases e' with ⟨xs,hx,e'⟩ | ⟨xs,hx,e'⟩
  ·subst e'
   obtain ⟨its,r',pl,hz⟩:=I.list hx
   have hlen:=r'.length
   exact Calls.call_len_list pl.isList (by simp only [List.size_toArray];omega) ⟨.int xs.length,H,I.tok _,⟨_,by simp only [List.size_toArray];rw [hlen]⟩,q⟩
  ·subst e'
   obtain ⟨its,r',pl,hz⟩:=I.tuple hx
   have hlen:=r'.length
   exact len_tuple pl (by simp only [List.size_toArray];omega) ⟨.int xs.length,H,I.tok _,⟨_,by simp only [List.size_toArray];rw [hlen]⟩,q⟩
 | _=>exact (show False from e).elim
end
end L2
namespace L2
open PySem PySem.Spec PyProof.Rows
section
variable {prog:Program} {w:World} {A:Around} {E:Value→Shared→Prop} {s:Shared} {K:PySem.W.Frag} {x dx C f:Addr} {mA:Str→Option Value} {name:Str} {v:Value}
end
section
variable {P:Program} {w:World} {H H':Hp} {h h':Heap} {a C dx:Addr} {fs fs':List (Str×V)}
end
structure Cls (K:PySem.W.Frag) (C:Addr):Prop where
 pg:PySem.W.plainGet K C Str.empty=true
 hd:PySem.W.hasDictIn K C=true
 po:PySem.W.plainOver K C=true
 sa:PySem.W.findIn K (.ref C) "__setattr__"=some (some (.builtin "object.__setattr__"))
theorem Cls.get {K:PySem.W.Frag} {C:Addr} (c:Cls K C) (f:Str):PySem.W.plainGet K C f=true:=c.pg
section
variable {X:Cx} {pins:List (Addr×Obj)} {σ:St} {H:Hp} {s:Shared} {a C dx:Addr} {fs:List (Str×V)} {f:Str} {v:V} {A:Around} {E:Value→Shared→Prop}
end
section
variable {X:Cx} {o e value:Expr} {f:Str} {pos pos' tpos:Pos} {ta tv:TE}
end
section
variable {X:Cx} {pins:List (Addr×Obj)} {σ:St} {H:Hp} {s:Shared} {A:Around} {E:Value→Shared→Prop} {Q:Value→Shared→Prop} {c:Value} {b:Bool}
end
end L2
namespace L2
open PySem PySem.Spec PyProof.Rows
structure Room (k:Nat) (A:Around):Prop where
 hd:A.handled=none
 dp:A.depth+3 * k+5<recursionLimit
 un:A.units+16 * k+200<cLine
theorem Room.mono {j k:Nat} {A:Around} (r:Room k A) (h:j≤k):Room j A:=⟨r.hd,by have:=r.dp;omega,by have:=r.un;omega⟩
theorem Room.deeper {k:Nat} {A:Around} (r:Room (k+1) A) (env:Env):Room k (A.deeper env) :=
 ⟨r.hd,by have:=r.dp;show A.depth+1+3 * k+5<_;omega,by have:=r.un;show A.units+3+16 * k+200<_;omega⟩
theorem Room.in1 {k:Nat} {A:Around} (r:Room (k+1) A):Room k A.in1 :=
 ⟨r.hd,by have:=r.dp;show A.depth+3 * k+5<_;omega,by have:=r.un;show A.units+1+16 * k+200<_;omega⟩
theorem Room.depth {k:Nat} {A:Around} (r:Room k A):A.depth<recursionLimit:=by have:=r.dp;omega
theorem Room.units {k:Nat} {A:Around} (r:Room k A):A.units+64<cLine:=by have:=r.un;omega
def ZqE:TA:=fun _ H Q=>Q [] H
def ZoX (ta:TE) (tr:TA):TA:=fun σ H Q=>ta σ H fun x H1=>tr σ H1 fun xs H2=>Q (x::xs) H2
section
variable {X:Cx} {e:Expr} {es:List Expr} {te:TE} {t:TA} {pos:Pos}
theorem pa_nil:PA X [] ZqE:=fun _ _ _ _ H Q I h=>Calls.spliced_nil ⟨[],H,I,.nil,h⟩
theorem Zdb (ha:PE X e te) (hr:PA X es t) (hs:starEach (e::es) X.env=(false,eval e X.env)::starEach es X.env:=by rfl):PA X (e::es) (ZoX te t):=by
 intro pos pins s σ H Q I h
 rw [hs]
 show wpAny _ _ (spliced ((false,eval e X.env)::backTo pos (starEach es X.env))) _ _ s
 refine Calls.spliced_cons (thn (ha pins s σ H _ I h) fun u s1 ⟨x,H1,I1,r1,q1⟩=>?_)
 exact thn (hr pos pins s1 σ H1 _ I1 q1) fun us s2 ⟨xs,H2,I2,r2,q2⟩=>⟨x::xs,H2,I2,.cons r1 r2,q2⟩
def Zub (t:TA):TE:=fun σ H Q=>t σ H fun xs H1=>xs.length≤sizeLine∧∀ p,H1 p=none→Q (.ref p) (upd H1 p (.tup xs))
def Zuz (t:TA):TE:=fun σ H Q=>t σ H fun xs H1=>xs.length≤sizeLine∧∀ p,H1 p=none→Q (.ref p) (upd H1 p (.lst xs))
theorem Zsb {x1} (h:PA X es t):PE X (.Tuple es x1 pos) (Zub t):=by
 intro pins s σ H Q I hq
 refine wpAny_Tuple_spliced (thn (h pos pins s σ H _ I hq) fun us s1 ⟨xs,H1,I1,r,z,q⟩=>⟨by rw [← r.length];exact z,?_⟩)
 have hf:H1 s1.heap.objs.size=none:=I1.hok.fresh (Nat.le_refl _)
 refine ⟨.ref s1.heap.objs.size,upd H1 s1.heap.objs.size (.tup xs),I1.laid (t':=s1.toks) (fun b u e=>Heap.get?_push_of_some _ e) (Nat.le_refl _) ?_,rfl,q _ hf⟩
 exact ⟨z,us,r,⟨_,Heap.get?_push_size _ rfl,rfl,_,rfl⟩⟩
theorem ZqP (h:PA X es t):PE X (.List es pos) (Zuz t):=by
 intro pins s σ H Q I hq
 refine wpAny_List_spliced (thn (h pos pins s σ H _ I hq) fun us s1 ⟨xs,H1,I1,r,z,q⟩=>⟨by rw [← r.length];exact z,?_⟩)
 have hf:H1 s1.heap.objs.size=none:=I1.hok.fresh (Nat.le_refl _)
 refine ⟨.ref s1.heap.objs.size,upd H1 s1.heap.objs.size (.lst xs),I1.laid (t':=s1.toks) (fun b u e=>Heap.get?_push_of_some _ e) (Nat.le_refl _) ?_,rfl,q _ hf⟩
 exact ⟨z,us,0,r,Heap.get?_push_size _ rfl⟩
end
abbrev Sp:=List V→Hp→VK→XK→Prop
abbrev CXT:=List Env→Hp→Shared→XK→Value→Shared→Prop
structure Env0 (P:Program) (w:World) (K:PySem.W.Frag) (mg:Str→Option Value) (base:Heap) (A:Around) (outer:List Env) (s:Shared) (H:Hp):Prop where
 frames:A.frames=some outer
 mod:Mod K mg base
 bs:∀ b o,base.get? b=some o→s.heap.get? b=some o∧H b=none
 bsz:base.objs.size≤s.heap.objs.size
 funs:s.heap.FunFrames base outer
 frf:∀ b∈frs outer,H b=none
 hok:HOk P w H s.heap
 bare:AllBare s.gens
def CE (outer:List Env) (P:Program) (w:World) (H:Hp) (s:Shared) (Q:VK) (u:Value) (s':Shared):Prop :=
 ∃ v H',s'.os=s.os∧AllBare s'.gens∧Un (frs outer) [] H H' s.heap s'.heap∧HOk P w H' s'.heap∧RelV v u∧Q v H'
def CR (CX:CXT) (outer:List Env) (P:Program) (w:World) (H:Hp) (s:Shared) (Q:VK) (E:XK) (r:Result) (s':Shared):Prop :=
 match r with
 | .ok (.ret u)=>CE outer P w H s Q u s'
 | .ok _=>False
 | .error e=>CX outer H s E e s'
structure FnOk (P:Program) (w:World) (K:PySem.W.Frag) (mg:Str→Option Value) (base:Heap) (CX:CXT) (k:Nat) (f:Addr) (fd:FuncData) (ps:List Str) (sp:Sp):Prop where
 len:∀ vs H Q E,sp vs H Q E→vs.length=ps.length
 run:∀ (A:Around) (outer:List Env) (s:Shared) (H:Hp) (args:Args) (us:List Value) (vs:List V) (Q:VK) (E:XK),Room k A→Env0 P w K mg base A outer s H→BindsTo s fd args (ps.zip us)→Vals vs us→sp vs H Q E →
  codeAny (model P w) A (.call (.ref f) args) (CR CX outer P w H s Q E) s
theorem FnOk.mono {P:Program} {w:World} {K:PySem.W.Frag} {mg:Str→Option Value} {base:Heap} {CX:CXT} {j k:Nat} {f:Addr} {fd:FuncData} {ps:List Str} {sp:Sp} (F:FnOk P w K mg base CX j f fd ps sp) (h:j≤k) :
  FnOk P w K mg base CX k f fd ps sp:=⟨F.len,fun A outer s H args us vs Q E hr=>F.run A outer s H args us vs Q E (hr.mono h)⟩
theorem FnOk.imp {P:Program} {w:World} {K:PySem.W.Frag} {mg:Str→Option Value} {base:Heap} {CX:CXT} {k:Nat} {f:Addr} {fd:FuncData} {ps:List Str} {sp sp':Sp} (F:FnOk P w K mg base CX k f fd ps sp)
  (h:∀ vs H Q E,sp' vs H Q E→sp vs H Q E):FnOk P w K mg base CX k f fd ps sp' :=
 ⟨fun vs H Q E q=>F.len vs H Q E (h _ _ _ _ q),fun A outer s H args us vs Q E hr he hb hv hs=>F.run A outer s H args us vs Q E hr he hb hv (h _ _ _ _ hs)⟩
theorem Env0.in1 {P:Program} {w:World} {K:PySem.W.Frag} {mg:Str→Option Value} {base:Heap} {A:Around} {outer:List Env} {s:Shared} {H:Hp} (e:Env0 P w K mg base A outer s H) :
  Env0 P w K mg base A.in1 outer s H:=⟨e.frames,e.mod,e.bs,e.bsz,e.funs,e.frf,e.hok,e.bare⟩
section
variable {X:Cx} {pins:List (Addr×Obj)} {σ:St} {H:Hp} {s s':Shared}
theorem Inv.env0 (I:Inv X pins σ H s):Env0 X.prog X.w X.K X.mg X.base X.A X.stack s H :=
 ⟨I.ok.frames,I.ok.mod,I.bs,Nat.le_trans I.ok.bsz I.sz,I.stack,I.stkFree,I.hok,I.bare⟩
theorem Inv.after {Q:VK} {u:Value} (I:Inv X pins σ H s) (h:CE X.stack X.prog X.w H s Q u s'):EP X pins σ Q u s':=by
 obtain ⟨v,H',os,bare,un,hok,r,q⟩:=h
 obtain ⟨hh,g,d,t,os'⟩:=s'
 obtain rfl:os'=s.os:=os
 exact ⟨v,H',I.call (h':=hh) (g':=g) (d':=d) (t':=t) (ch:=[]) un hok bare (fun b z=>absurd z (by simp)),r,q⟩
end
def ZmJ (sp:Sp) (dvs:List V) (E:XK) (t:TA):TE:=fun σ H Q=>t σ H fun vs H1=>sp (vs++dvs) H1 Q E
def Binds (K:PySem.W.Frag) (fd:FuncData) (ps:List Str) (ds:List Value):Prop :=
 ∀ (s:Shared) (us:List Value),K.In s.heap→(us++ds).length=ps.length→BindsTo s fd ⟨us,[]⟩ (ps.zip (us++ds))
theorem Binds.all {K:PySem.W.Frag} {fd:FuncData} {ps:List Str} (h:∀ us:List Value,us.length=ps.length→bindArgs fd ⟨us,[]⟩=pure (ps.zip us)):Binds K fd ps []:=fun s us _ hl=>by
 rw [List.append_nil] at hl ⊢
 exact .of_eq (h us hl)
def Zef (CX:CXT) (X:Cx) (E:XK):Prop:=∀ (pins:List (Addr×Obj)) (σ:St) (H:Hp) (s:Shared) (e:Value) (s':Shared),Inv X pins σ H s→CX X.stack H s E e s'→X.xe e s'
section
variable {X:Cx} {CX:CXT} {k:Nat} {f C:Addr} {fd:FuncData} {ps:List Str} {sp:Sp} {dvs:List V} {ds:List Value} {E:XK} {x m:Str} {p pos apos:Pos} {e o:Expr} {es:List Expr} {ta:TE} {t:TA}
theorem ZsC {pins:List (Addr×Obj)} {σ:St} {H:Hp} {s:Shared} {Q:VK} {us:List Value} {vs:List V} (F:FnOk X.prog X.w X.K X.mg X.base CX k f fd ps sp) (hr:Room k X.A) (hb:Binds X.K fd ps ds) (hd:Vals dvs ds) (hx:Zef CX X E)
  (I:Inv X pins σ H s) (r:Vals vs us) (h:sp (vs++dvs) H Q E):wpAny (model X.prog X.w) X.A (call (.ref f) us) (EP X pins σ Q) X.xe s:=by
 have r2:Vals (vs++dvs) (us++ds):=r.append hd
 have hl:(us++ds).length=ps.length:=by rw [← r2.length];exact F.len _ _ _ _ h
 refine wpAny_call (codeAny_mono (F.run X.A X.stack s H ⟨us,[]⟩ (us++ds) (vs++dvs) Q E hr I.env0 (hb s us I.kIn hl) r2 h) fun r s' hq=>?_)
 cases r with
 | error e=>exact hx pins σ H s e s' I hq
 | ok fl =>
  cases fl with
  | ret u=>exact I.after hq
  | next=>exact False.elim hq
  | brk=>exact False.elim hq
  | cont=>exact False.elim hq
theorem Zlr (F:FnOk X.prog X.w X.K X.mg X.base CX k f fd ps sp) (hr:Room k X.A) (hg:Gl X x) (hm:X.mg x=some (.ref f)) (hk:PySem.W.keepIn X.K (.ref f)=true) (hb:Binds X.K fd ps ds) (hd:Vals dvs ds) (hx:Zef CX X E)
  (ha:PA X (e::es) t) (hdb:(x==("__debug__":Str))=false:=by decide) (he:starEach (e::es) X.env=(false,eval e X.env)::starEach es X.env:=by rfl) (hpl:(backTo pos (starEach es X.env)).any (·.1)=false:=by rfl) :
  PE X (.Call (.Name x p) (e::es) [] pos) (ZmJ sp dvs E t):=by
 intro pins s σ H Q I h
 refine wpAny_Call_Name_kw (Zff I hg hm ?_ hdb)
 refine PySem.W.callWith_K (h₀:=X.base) I.ok.mod.kin hk (thn (ha pos pins s σ H _ I h) fun us s1 ⟨vs,H1,I1,r,q⟩=>⟨I1.kIn,?_⟩) he hpl
 exact ZsC F hr hb hd hx I1 r q
end
def PK (X:Cx) (kws:List Keyword) (t:TA):Prop :=
 ∀ (pos:Pos) (pins:List (Addr×Obj)) (s:Shared) (σ:St) (H:Hp) (Q:List V→Hp→Prop),Inv X pins σ H s→t σ H Q→wpAny (model X.prog X.w) X.A (evalAll ((backToKw pos (keywordEach kws X.env)).map (·.2))) (AP X pins σ Q) X.xe s
section
variable {X:Cx} {CX:CXT} {k:Nat} {f C:Addr} {fd:FuncData} {ps ks:List Str} {sp:Sp} {E:XK} {x m:Str} {p pos apos kpos:Pos} {e o:Expr} {es:List Expr} {kws:List Keyword} {te ta:TE} {t tk:TA} {nm:Option Str}
theorem Zru:PK X [] ZqE:=fun _ _ _ _ H Q I h=>wpAny_evalAll_nil ⟨[],H,I,.nil,h⟩
theorem Zqz (ha:PE X e te) (hr:PK X kws t):PK X (⟨nm,e,kpos⟩::kws) (ZoX te t):=by
 intro pos pins s σ H Q I h
 show wpAny _ _ (evalAll ((do let v ← eval e X.env;standAt pos;pure v)::(backToKw pos (keywordEach kws X.env)).map (·.2))) _ _ s
 refine wpAny_evalAll_cons (wpAny_bind (thn (ha pins s σ H _ I h) fun u s1 ⟨x,H1,I1,r1,q1⟩=>wpAny_bind (wpAny_standAt (wpAny_pure ?_))))
 exact thn (hr pos pins s1 σ H1 _ I1 q1) fun us s2 ⟨xs,H2,I2,r2,q2⟩=>⟨x::xs,H2,I2,.cons r1 r2,q2⟩
variable {g:List Value→List Value→List Value} {gV:List V→List V→List V}
end
structure ZI (N P:List Str) (sc:Scope):Prop where
 kind:sc.kind=.function
 co:sc.isCoroutine=false
 gen:sc.isGenerator=false
 nd:N.Nodup
 pre:N.take P.length=P
 par:∀ x∈P,sc.names.lookup x=some .local∨sc.names.lookup x=some .cell
 nofree:∀ y∈sc.names,y.2≠.free
theorem Zjb {kindOf:Str→Option NameKind} {x:Str}:∀ {binds:List (Str×Value)} {m:Str→Option Value},(∀ v,(x,v)∉binds)→bindL kindOf binds m x=m x
 | [],_,_=>rfl
 | (n,v)::r,m,h=>by
  unfold bindL
  rw [Zjb fun w hw=>h w (List.mem_cons_of_mem _ hw)]
  split
  ·have:x≠n:=by rintro rfl;exact h v List.mem_cons_self
   simp [this]
  ·rfl
theorem Zi1 {kindOf:Str→Option NameKind} {x:Str}:∀ {binds:List (Str×Value)} {m:Str→Option Value},(∀ v,(x,v)∉binds)→bindC kindOf binds m x=m x
 | [],_,_=>rfl
 | (n,v)::r,m,h=>by
  unfold bindC
  rw [Zi1 fun w hw=>h w (List.mem_cons_of_mem _ hw)]
  split
  ·rfl
  ·have:x≠n:=by rintro rfl;exact h v List.mem_cons_self
   simp [this]
theorem Zi5 {kindOf:Str→Option NameKind} {x:Str} {v:Value}:∀ {P:List Str} {vs:List Value} {i:Nat} {m:Str→Option Value},P.Nodup→P[i]?=some x→vs[i]?=some v→kindOf x=some .local →
  bindL kindOf (P.zip vs) m x=some v
 | [],_,_,_,_,h,_,_=>by simp at h
 | _::_,[],_,_,_,_,h,_=>by simp at h
 | p::P,w::vs,0,m,nd,h1,h2,hk=>by
  simp at h1 h2;subst h1;subst h2
  show bindL kindOf ((p,w)::P.zip vs) m p=_
  unfold bindL
  rw [Zjb fun v hv=>(List.nodup_cons.mp nd).1 (List.of_mem_zip hv).1,if_pos hk]
  simp
 | p::P,w::vs,i+1,m,nd,h1,h2,hk=>by
  show bindL kindOf ((p,w)::P.zip vs) m x=_
  unfold bindL
  exact Zi5 (i:=i) (List.nodup_cons.mp nd).2 (by simpa using h1) (by simpa using h2) hk
theorem Zje {kindOf:Str→Option NameKind} {x:Str} {v:Value}:∀ {P:List Str} {vs:List Value} {i:Nat} {m:Str→Option Value},P.Nodup→P[i]?=some x→vs[i]?=some v→kindOf x≠some .local →
  bindC kindOf (P.zip vs) m x=some v
 | [],_,_,_,_,h,_,_=>by simp at h
 | _::_,[],_,_,_,_,h,_=>by simp at h
 | p::P,w::vs,0,m,nd,h1,h2,hk=>by
  simp at h1 h2;subst h1;subst h2
  show bindC kindOf ((p,w)::P.zip vs) m p=_
  unfold bindC
  rw [Zi1 fun v hv=>(List.nodup_cons.mp nd).1 (List.of_mem_zip hv).1,if_neg hk]
  simp
 | p::P,w::vs,i+1,m,nd,h1,h2,hk=>by
  show bindC kindOf ((p,w)::P.zip vs) m x=_
  unfold bindC
  exact Zje (i:=i) (List.nodup_cons.mp nd).2 (by simpa using h1) (by simpa using h2) hk
def ZcX (N:List Str) (vs:List V):St:=vs.map some++List.replicate (N.length-vs.length) none
def ZeK (CX:CXT) (P:Program) (w:World) (K:PySem.W.Frag) (mg:Str→Option Value) (base:Heap) (N:List Str) (qual:Str) (scope:Scope) (f:Addr) (cd:Value) (A:Around) (outer:List Env) (s:Shared) (H:Hp) (E:XK):Cx where
 prog:=P
 w:=w
 K:=K
 mg:=mg
 base:=base
 A:=A.deeper (envOfC qual scope s.heap.objs.size f cd)
 N:=N
 s₀:=s
 H₀:=H
 env:=envOfC qual scope s.heap.objs.size f cd
 outer:=outer
 stack:=envOfC qual scope s.heap.objs.size f cd::outer
 ex:=[]
 calm:=true
 fn:=fun _=>true
 pn:=[]
 xe:=fun e s'=>wpAny (model P w) (A.deeper (envOfC qual scope s.heap.objs.size f cd)) (leaving (envOfC qual scope s.heap.objs.size f cd) e) (fun _ s''=>CX outer H s E e s'') (fun e' s''=>CX outer H s E e' s'') s'
theorem ZjJ {sc:Scope} {n:Nat} {x:Str} (h:sc.names.lookup x=some .cell):∃ c,(cellsFrom n sc.names []).lookup x=some c:=by
 have q:=PySem.W.cellsFrom_some sc.names n [] (.inl h)
 exact Option.isSome_iff_exists.mp q
theorem Zm9 {CX:CXT} {P:Program} {w:World} {K:PySem.W.Frag} {mg:Str→Option Value} {base:Heap} {N ps:List Str} {qual:Str} {scope:Scope} {f:Addr} {cd:Value} {A:Around} {outer:List Env} {s s1:Shared} {H:Hp} {E:XK} {us:List Value} {vs:List V}
  (S:ZI N ps scope) (hd:A.handled=none) (e0:Env0 P w K mg base A outer s H) (hl:vs.length=ps.length) (r:Vals vs us)
  (x:InCallC s s.heap.objs.size (bindL (envOfC qual scope s.heap.objs.size f cd).kindOf (ps.zip us) fun _=>none) (cellsFrom (s.heap.objs.size+1) scope.names []) (bindC (envOfC qual scope s.heap.objs.size f cd).kindOf (ps.zip us) fun _=>none) s1) :
  Inv (ZeK CX P w K mg base N qual scope f cd A outer s H E) [] (ZcX N vs) H s1:=by
 have hpl:ps.length≤N.length:=by have:=congrArg List.length S.pre;rw [List.length_take] at this;omega
 obtain ⟨h1,tk,rfl,hk⟩:=x.done
 have noA:∀ b:Addr,b∉(ZeK CX P w K mg base N qual scope f cd A outer s H E).ex:=fun b z=>absurd (show b∈([]:List Addr) from z) (by simp)
 refine ⟨⟨e0.mod,S.kind,rfl,rfl,Nat.le_refl _,fun y z c h1 h2=>?_,fun y hy=>?_,fun y c _ h=>?_,fun _=>hd,Around.frames_deeper e0.frames,.inr ⟨rfl,rfl⟩,fun b z=>absurd z (noA b),e0.bs,e0.bsz,fun b _ _=>noA b,fun b z=>absurd z (noA b),e0.funs,e0.frf⟩,
  rfl,e0.bare,Un.kept hk,⟨_,x.toInCall.ns,fun i y v h1 h2 h3=>?_⟩,fun y c h=>⟨_,x.cell y c h⟩,e0.hok.fresh (Nat.le_refl _),fun y c h=>?_,fun p hp=>absurd (show p∈([]:List (Addr×Obj)) from hp) (by simp),e0.hok.kept hk,?_⟩
 ·exact name_of_addr x.apart (PySem.mem_of_lookup h1) (PySem.mem_of_lookup h2)
 ·have hy:scope.names.lookup y=some .cell∨scope.names.lookup y=some .free:=hy
  rcases hy with hy | hy
  ·exact ZjJ hy
  ·exact absurd rfl (S.nofree _ (PySem.mem_of_lookup hy))
 ·exact Nat.le_of_lt (x.above y c (PySem.mem_of_lookup h))
 ·have hi:i<vs.length:=by
   unfold ZcX at h2
   by_cases hi:i<vs.length
   ·exact hi
   ·rw [List.getElem?_append_right (by simpa using hi)] at h2
    rw [List.getElem?_replicate] at h2
    split at h2<;>cases h2
  have ha:vs[i]?=some v:=by
   unfold ZcX at h2
   rw [List.getElem?_append_left (by simpa using hi),List.getElem?_map] at h2
   cases e:vs[i]? with
   | none=>rw [e] at h2;cases h2
   | some a=>rw [e] at h2;cases h2;rfl
  obtain ⟨u,hu,rv⟩:=r.get ha
  have hp:ps[i]?=some y:=by
   rw [← S.pre,List.getElem?_take_of_lt (by omega)];exact h1
  have ndP:ps.Nodup:=by rw [← S.pre];exact S.nd.sublist (List.take_sublist _ _)
  refine ⟨u,rv,?_⟩
  rcases S.par y (List.mem_of_getElem? hp) with k | k
  ·exact .inl ⟨k,Zi5 ndP hp hu k⟩
  ·obtain ⟨c,e⟩:=ZjJ (n:=s.heap.objs.size+1) k
   refine .inr ⟨.inl k,c,e,?_⟩
   have q:=x.cell y c e
   rw [Zje ndP hp hu (by show scope.names.lookup y≠_;rw [k];decide)] at q
   exact q
 ·exact e0.hok.fresh (Nat.le_of_lt (x.above y c (PySem.mem_of_lookup h)))
 ·unfold ZcX
  show _=N.length
  rw [List.length_append,List.length_map,List.length_replicate]
  omega
theorem Zo9 {CX:CXT} {P:Program} {w:World} {K:PySem.W.Frag} {mg:Str→Option Value} {base:Heap} {k:Nat} {f:Addr} {name qual:Str} {params:Arguments} {body:List Stmt} {scope:Scope} {dV kV doc pm cdv ct oc:Value} {an od:Option Addr}
  {osl:Array (Option Value)} {N ps:List Str} {sp:Sp} (lk:K.lookup f=some ⟨oc,od,.func (PySem.W.fnOf name qual params body scope dV kV doc pm an cdv ct),osl⟩) (hcd:PySem.W.codeIn K cdv qual=true) (S:ZI N ps scope)
  (len:∀ vs H Q E,sp vs H Q E→vs.length=ps.length)
  (hbody:∀ (A:Around) (outer:List Env) (s:Shared) (H:Hp) (vs:List V) (Q:VK) (E:XK),Room k (A.deeper (envOfC qual scope s.heap.objs.size f cdv))→sp vs H Q E →
   ∃ t,PSs (ZeK CX P w K mg base N qual scope f cdv A outer s H E) body t∧t { nx:=fun _ H'=>Q .non H',rt:=Q } (ZcX N vs) H) :
  FnOk P w K mg base CX (k+1) f (PySem.W.fnOf name qual params body scope dV kV doc pm an cdv ct) ps sp:=by
 refine ⟨len,fun A outer s H args us vs Q E hr e0 hb r hsp=>?_⟩
 have hl:=len _ _ _ _ hsp
 have KX:K.In s.heap:=e0.mod.kin.keeps fun b o e=>(e0.bs b o e).1
 have lim:s.heap.NoLimit:=e0.mod.nolimit.keeps fun b o e=>(e0.bs b o e).1
 have hkind:∀ y∈ps.zip us,scope.names.lookup y.1=some .local∨(scope.names.lookup y.1=some .cell∧((cellsFrom (s.heap.objs.size+1) scope.names []).lookup y.1).isSome=true):=fun ⟨n,v⟩ hy=>by
  rcases S.par n (List.of_mem_zip hy).1 with q | q
  ·exact .inl q
  ·exact .inr ⟨q,PySem.W.cellsFrom_some _ _ _ (.inl q)⟩
 refine codeAny_call_function hr.depth (KX _ _ lk) rfl S.co S.gen rfl (PySem.W.codeRec_of KX hcd) (hb _ _ _ _ ?_)
 refine wpAny_newFunctionEnv_cells S.kind hkind fun env he s1 x=>?_
 subst he
 refine ⟨lim.keeps x.toInCall.keep,codeAny_func ?_⟩
 obtain ⟨t,ht,hq⟩:=hbody A outer s H vs Q E (hr.deeper _) hsp
 have I:Inv (ZeK CX P w K mg base N qual scope f cdv A outer s H E) [] (ZcX N vs) H s1:=Zm9 S hr.hd e0 hl r x
 refine wpAny_mono (ht [] s1 (ZcX N vs) H _ I hq) (fun fl s' hs=>?_) fun e s' hs=>hs
 have fin:∀ {σ':St} {H':Hp} {v:V} {u:Value},Inv (ZeK CX P w K mg base N qual scope f cdv A outer s H E) [] σ' H' s'→RelV v u→Q v H'→CE outer P w H s Q u s' :=
  fun {σ' H' v u} J rv q=>⟨v,H',J.os,J.bare,J.base,J.hok,rv,q⟩
 cases fl with
 | ret u =>
  obtain ⟨v,σ',H',J,rv,q⟩:=hs
  exact fin J rv q
 | next =>
  obtain ⟨σ',H',J,q⟩:=hs
  exact fin (v:=V.non) (u:=Value.none) J rfl q
 | brk =>
  obtain ⟨_,_,_,q⟩:=hs
  exact False.elim q
 | cont =>
  obtain ⟨_,_,_,q⟩:=hs
  exact False.elim q
end L2
namespace L2
open PySem PySem.Spec PyProof.Rows
section
variable {X:Cx} {x:Str} {p pos:Pos} {e:Expr} {es:List Expr} {t:TA} {id T:String} {r:List V→Hp→VK→Prop}
def tCB (r:List V→Hp→VK→Prop) (t:TA):TE:=fun σ H Q=>t σ H fun vs H1=>r vs H1 Q
theorem ZhC (hc:CallR X (.builtin id) r) (hg:Gl X x) (hm:X.mg x=none) (hv:bootBuiltins x=some (.builtin id)) (ha:PA X (e::es) t) (hn:x≠"__name__":=by decide) (hdb:(x==("__debug__":Str))=false:=by decide)
  (he:starEach (e::es) X.env=(false,eval e X.env)::starEach es X.env:=by rfl) (hpl:(backTo pos (starEach es X.env)).any (·.1)=false:=by rfl):PE X (.Call (.Name x p) (e::es) [] pos) (tCB r t):=by
 intro pins s σ H Q I h
 refine wpAny_Call_Name_kw (Zex I hg hm hv ?_ hn hdb)
 exact PyProof.Rows.callWith_builtin1 (thn (ha pos pins s σ H _ I h) fun us s1 ⟨vs,H1,I1,r1,q1⟩=>hc pins s1 σ H1 vs us Q I1 r1 q1) he hpl
theorem Zjc (hc:CallR X (.type T) r) (hg:Gl X x) (hm:X.mg x=none) (hv:bootBuiltins x=some (.type T)) (ha:PA X (e::es) t) (hn:x≠"__name__":=by decide) (hdb:(x==("__debug__":Str))=false:=by decide)
  (he:starEach (e::es) X.env=(false,eval e X.env)::starEach es X.env:=by rfl) (hpl:(backTo pos (starEach es X.env)).any (·.1)=false:=by rfl):PE X (.Call (.Name x p) (e::es) [] pos) (tCB r t):=by
 intro pins s σ H Q I h
 refine wpAny_Call_Name_kw (Zex I hg hm hv ?_ hn hdb)
 exact PyProof.Rows.callWith_type1 (thn (ha pos pins s σ H _ I h) fun us s1 ⟨vs,H1,I1,r1,q1⟩=>hc pins s1 σ H1 vs us Q I1 r1 q1) he hpl
end
end L2
namespace HT
open PySem PyProof.Rows
theorem rcLt_int (A:Around) (s:Shared) (a:Int) (t:Tok) (c:Int) (u:Tok) (prog:Program) (w:World) (E:Value→Shared→Prop) (Q:Value→Shared→Prop) (h:Q (.bool (decide (a<c))) s) :
  wpAny (model prog w) A (richCompare .Lt (.int a t) (.int c u)) Q E s :=
 (PyProof.Rows.lt_int h:wpAny (model prog w) A (compareOp .Lt (.int a t) (.int c u)) Q E s)
section
open PySem.SeqAt
open PySem.AutoSeq1 (wpAny_loadPart')
open PySem.MeetsSeq PySem.MeetsSeq2 PySem.MeetsSeq3
end
section
variable {prog:Program} {w:World} {A:Around} {E:Value→Shared→Prop} {s:Shared}
def sIx (n d:Nat):Option Int→Nat
 | none=>d
 | some v=>if v<0 then (v+(n:Int)).toNat else min v.toNat n
theorem Zq2 (n d:Nat) (hd:d≤n) (o:Option Int):sIx n d o≤n:=by
 cases o with
 | none=>exact hd
 | some v =>
  show (if v<0 then (v+(n:Int)).toNat else min v.toNat n)≤n
  by_cases hv:v<0
  ·rw [if_pos hv];omega
  ·rw [if_neg hv];exact Nat.min_le_right _ _
theorem ZlB (v:Int) (n d:Nat):(if v<0 then max (v+(n:Int)) 0 else min v (n:Int))=((sIx n d (some v):Nat):Int):=by
 show (if v<0 then max (v+(n:Int)) 0 else min v (n:Int))=(((if v<0 then (v+(n:Int)).toNat else min v.toNat n):Nat):Int)
 by_cases hv:v<0
 ·simp only [if_pos hv];omega
 ·simp only [if_neg hv];omega
theorem Zmv (lo hi:Option Int) (n:Nat):Builtin.Slice.sliceAdjust lo hi 1 (n:Int)=(((sIx n 0 lo:Nat):Int),((sIx n n hi:Nat):Int)):=by
 have h1:¬ ((1:Int)<0):=by omega
 unfold Builtin.Slice.sliceAdjust
 simp only [h1,if_false]
 refine Prod.ext ?_ ?_
 ·cases lo with
  | none=>rfl
  | some v=>exact ZlB v n 0
 ·cases hi with
  | none=>rfl
  | some v=>exact ZlB v n n
theorem Zms (i j:Nat):Builtin.Slice.slicePlaces (i:Int) (j:Int) 1=j-i:=by
 unfold Builtin.Slice.slicePlaces
 have h1:(1:Int) > 0:=by omega
 simp only [h1,if_true,Int.ediv_one]
 split<;>omega
theorem Zib {v:Value} {o:Option Int} {Q:Option Int→Shared→Prop} (p:IsPart v o) (h:Q o s):wpAny (model prog w) A (Builtin.Slice.slicePartIndex v) Q E s:=by
 cases p with
 | none=>exact slicePart_none h
 | int i t=>exact slicePart_int h
theorem sliceApplied_gen {sl:Addr} {vl vu:Value} {lo hi:Option Int} {n:Nat} {Q:Int×Int×Nat→Shared→Prop} (hs:s.heap.IsSliceOf sl vl vu .none) (pl:IsPart vl lo) (pu:IsPart vu hi)
  (h:Q (((sIx n 0 lo:Nat):Int),1,sIx n n hi-sIx n 0 lo) s):wpAny (model prog w) A (Builtin.Slice.sliceApplied (.ref sl) (pure (n:Int))) Q E s:=by
 obtain ⟨os,hos,hcs,hds⟩:=id hs
 unfold Builtin.Slice.sliceApplied Builtin.Slice.sliceFields
 refine wpAny_bind (wpAny_bind (wpAny_field hos hds (x:=vl) rfl (wpAny_bind (wpAny_field hos hds (x:=vu) rfl (wpAny_bind (wpAny_field hos hds (x:=.none) rfl (wpAny_pure ?_)))))))
 refine wpAny_bind (slicePart_none ?_)
 show wpAny _ _ (if ((1:Int)==0)=true then _ else _) _ _ s
 rw [if_neg (by decide)]
 refine wpAny_bind (Zib pl (wpAny_bind (Zib pu (wpAny_bind (wpAny_pure ?_)))))
 show wpAny _ _ (match Builtin.Slice.sliceAdjust lo hi 1 (n:Int) with | (lo,hi)=>pure (lo,(1:Int),Builtin.Slice.slicePlaces lo hi 1)) _ _ s
 rw [Zmv lo hi n]
 show wpAny _ _ (pure (((sIx n 0 lo:Nat):Int),(1:Int),Builtin.Slice.slicePlaces ((sIx n 0 lo:Nat):Int) ((sIx n n hi:Nat):Int) 1)) _ _ s
 rw [Zms]
 exact wpAny_pure h
theorem Zoy (xs:Array Value) (i k:Nat):((List.range k).filterMap fun (m:Nat)=>xs[((i:Int)+(m:Int) * 1).toNat]?).toArray=((xs.toList.drop i).take k).toArray:=by
 have e:(fun (m:Nat)=>xs[((i:Int)+(m:Int) * 1).toNat]?)=fun m=>xs[i+m]?:=by
  funext m
  have:((i:Int)+(m:Int) * 1).toNat=i+m:=by omega
  rw [this]
 rw [e]
 have:=pick_run xs i k
 rw [List.filterMap_map] at this
 have e2:((fun x=>xs[x]?)∘fun x=>i+x)=fun m=>xs[i+m]?:=rfl
 rw [e2] at this
 rw [this]
theorem getItem_tuple_cut {t sl:Addr} {items:Array Value} {vl vu:Value} {lo hi:Option Int} {Q:Value→Shared→Prop} (ht:IsTup s.heap t items) (hs:s.heap.IsSliceOf sl vl vu .none) (pl:IsPart vl lo) (pu:IsPart vu hi)
  (hw:¬ (sIx items.size 0 lo=0∧sIx items.size items.size hi=items.size))
  (h:Q (.ref s.heap.objs.size) { s with heap:=s.heap.push { cls:=.type "tuple",data:=.seq ((items.toList.drop (sIx items.size 0 lo)).take (sIx items.size items.size hi-sIx items.size 0 lo)).toArray } })
  (hsz:items.size≤sizeLine):wpAny (model prog w) A (getItem (.ref t) (.ref sl)) Q E s:=by
 have htake:sizeOk (.seq ((items.toList.drop (sIx items.size 0 lo)).take (sIx items.size items.size hi-sIx items.size 0 lo)).toArray):=by
  show ((items.toList.drop (sIx items.size 0 lo)).take (sIx items.size items.size hi-sIx items.size 0 lo)).toArray.size≤sizeLine
  rw [List.size_toArray,List.length_take,List.length_drop,Array.length_toList]
  omega
 have hj:sIx items.size items.size hi≤items.size:=Zq2 _ _ (Nat.le_refl _) hi
 obtain ⟨os,hos,hcs,hds⟩:=id hs
 have hTs:s.TypeIs (.ref sl) "slice":=⟨os,hos,hcs⟩
 unfold getItem
 try with_reducible refine wpAny_holding ?_
 first | refine wpAny_bind (wpAny_pure ?_) | skip
 refine wpAny_bind (wpAny_sequenceKey ht.typeIs (by decide) ?_)
 refine wpAny_bind (wpAny_callSpecial?_slot (name:=Str.ofString "__getitem__") ht.typeIs PyProof.Rows.slot_tuple_getitem
  (wpAny_call_entry PyProof.Rows.slot_tuple_getitem ht.typeIs entry_tuple_getitem ?_ (args_tuple_getitem _ _)))
 show wpAny _ _ (Builtin.Tuple.tupleItemsOf (.ref t) >>= _) _ _ s
 refine wpAny_bind (tupleItemsOf_ ht ?_)
 refine wpAny_bind (wpAny_typeOf hTs ?_)
 rw [if_pos (by decide)]
 refine wpAny_bind (sliceApplied_gen hs pl pu ?_)
 have hno:¬ ((((sIx items.size 0 lo:Nat):Int)==0&&(1:Int)==1&&(sIx items.size items.size hi-sIx items.size 0 lo)==items.size)=true):=by
  intro q
  rw [Bool.and_eq_true,Bool.and_eq_true] at q
  have q1:((sIx items.size 0 lo:Nat):Int)=0:=eq_of_beq q.1.1
  have q2:sIx items.size items.size hi-sIx items.size 0 lo=items.size:=eq_of_beq q.2
  exact hw ⟨by omega,by omega⟩
 show wpAny _ _ (if (((sIx items.size 0 lo:Nat):Int)==0&&(1:Int)==1&&(sIx items.size items.size hi-sIx items.size 0 lo)==items.size)=true then _ else _) _ _ s
 rw [if_neg hno,Zoy]
 first
  | exact wpAny_bind (m:=Builtin.Tuple.tupleExact _) (wpAny_newObj_type (wpAny_pure ⟨_,rfl,wpAny_pure h⟩) htake)
  | exact wpAny_bind (m:=Builtin.Tuple.tupleExact _) (wpAny_newObj_type (wpAny_bind (wpAny_pure (wpAny_pure ⟨_,rfl,wpAny_pure h⟩))) htake)
  | exact wpAny_bind (wpAny_bind (m:=Builtin.Tuple.tupleExact _) (wpAny_newObj_type (wpAny_pure (wpAny_pure ⟨_,rfl,wpAny_pure h⟩)) htake))
  | exact wpAny_bind (wpAny_bind (m:=Builtin.Tuple.tupleExact _) (wpAny_newObj_type (wpAny_pure ⟨_,rfl,wpAny_pure h⟩) htake))
end
end HT
namespace L2
open PySem PySem.Spec PyProof.Rows
abbrev TO:=St→Hp→(Option Int→Hp→Prop)→Prop
def PO (X:Cx) (e:Option Expr) (t:TO):Prop :=
 ∀ (pins:List (Addr×Obj)) (s:Shared) (σ:St) (H:Hp) (Q:Option Int→Hp→Prop),Inv X pins σ H s→t σ H Q →
  wpAny (model X.prog X.w) X.A (evalPart e X.env) (fun u s'=>∃ o H',Inv X pins σ H' s'∧IsPart u o∧Q o H') X.xe s
def ZpY:TO:=fun _ H Q=>Q none H
def ZtR (t:TE):TO:=fun σ H Q=>t σ H fun x H1=>∃ i,x=.int i∧Q (some i) H1
section
variable {X:Cx} {e:Expr} {te:TE} {lo hi:Option Expr} {tl th:TO} {pos p2:Pos}
theorem Zpw:PO X none ZpY:=by
 intro pins s σ H Q I h
 rw [evalPart_none]
 exact wpAny_pure ⟨none,H,I,.none,h⟩
theorem Zpu (h:PE X e te):PO X (some e) (ZtR te):=by
 intro pins s σ H Q I hw
 rw [evalPart_some]
 refine thn (h pins s σ H _ I hw) fun u s1 ⟨x,H1,I1,r1,q1⟩=>?_
 obtain ⟨i,rfl,q⟩:=q1
 obtain ⟨t,rfl⟩:=r1
 exact ⟨some i,H1,I1,.int i t,q⟩
def SlR (X:Cx) (r:V→Option Int→Option Int→Hp→VK→Prop):Prop :=
 ∀ (pins:List (Addr×Obj)) (s:Shared) (σ:St) (H:Hp) (x:V) (v vl vu:Value) (lo hi:Option Int) (sl:Addr) (Q:VK),Inv X pins σ H s→RelV x v→s.heap.IsSliceOf sl vl vu .none→IsPart vl lo→IsPart vu hi→r x lo hi H Q →
  ∃ T id,typeLookup (.type T) "__getitem__"=pure (some (.builtin id))∧s.TypeIs v T∧wpAny (model X.prog X.w) X.A (getItem v (.ref sl)) (EP X pins σ Q) X.xe s
theorem SlR.or {r r':V→Option Int→Option Int→Hp→VK→Prop} (h:SlR X r) (h':SlR X r'):SlR X (fun x lo hi H Q=>r x lo hi H Q∨r' x lo hi H Q):=by
 intro pins s σ H x v vl vu lo hi sl Q I rx hs pl pu q
 rcases q with q | q
 ·exact h pins s σ H x v vl vu lo hi sl Q I rx hs pl pu q
 ·exact h' pins s σ H x v vl vu lo hi sl Q I rx hs pl pu q
def tSl (r:V→Option Int→Option Int→Hp→VK→Prop) (te:TE) (tl th:TO):TE:=fun σ H Q=>te σ H fun x H1=>tl σ H1 fun l H2=>th σ H2 fun u H3=>r x l u H3 Q
theorem ZnM {r:V→Option Int→Option Int→Hp→VK→Prop} (hr:SlR X r) (he:PE X e te) (hl:PO X lo tl) (hu:PO X hi th):PE X (.Subscript e (.Slice lo hi none p2) pos) (tSl r te tl th):=by
 intro pins s σ H Q I h
 refine Subscript_ (thn (he pins s σ H _ I h) fun v s1 ⟨x,H1,I1,r1,q1⟩=>?_)
 refine wpAny_Slice (thn (hl pins s1 σ H1 _ I1 q1) fun vl s2 ⟨l,H2,I2,pl,q2⟩=>thn (hu pins s2 σ H2 _ I2 q2) fun vu s3 ⟨u,H3,I3,pu,q3⟩=>?_)
 rw [evalPart_none]
 refine wpAny_pure ?_
 have I4:Inv X pins σ H3 { s3 with heap:=s3.heap.push { cls:=.type "slice",data:=.fields #[vl,vu,.none] } }:=I3.kept (t':=s3.toks) fun b ob q=>Heap.get?_push_of_some _ q
 obtain ⟨T,id,hT,ht,hg⟩:=hr pins { s3 with heap:=s3.heap.push { cls:=.type "slice",data:=.fields #[vl,vu,.none] } } σ H3 x v vl vu l u s3.heap.objs.size Q I4 r1 (Heap.IsSliceOf.new ..) pl pu q3
 show wpAny (model X.prog X.w) X.A (subscriptTail e (.Slice lo hi none p2) v (.ref s3.heap.objs.size)) (EP X pins σ Q) X.xe { s3 with heap:=s3.heap.push { cls:=.type "slice",data:=.fields #[vl,vu,.none] } }
 exact tail_any (ops:=[.ref s3.heap.objs.size,v]) ht hT hg (by with_unfolding_all rfl)
def Zem (xs:List V) (lo hi:Option Int):List V:=(xs.drop (HT.sIx xs.length 0 lo)).take (HT.sIx xs.length xs.length hi-HT.sIx xs.length 0 lo)
theorem Zhv (xs:List V) (lo hi:Option Int):(Zem xs lo hi).length≤xs.length:=by
 unfold Zem
 rw [List.length_take,List.length_drop]
 omega
def Zt7 (K:PySem.W.Frag):V→Option Int→Option Int→Hp→VK→Prop:=fun x lo hi H Q=>∃ a xs,x=.ref a∧SqT K H a xs ∧
 ¬ (HT.sIx xs.length 0 lo=0∧HT.sIx xs.length xs.length hi=xs.length)∧∀ p,H p=none→Q (.ref p) (upd H p (.tup (Zem xs lo hi)))
theorem ZqJ:SlR X (Zt7 X.K):=by
 intro pins s σ H x v vl vu lo hi sl Q I rx hs pl pu h
 obtain ⟨a,xs,rfl,hx,hw,q⟩:=h
 cases rx
 obtain ⟨its,r,ht,hz⟩:=I.tuple hx
 have hlen:its.toArray.size=xs.length:=by rw [List.size_toArray];exact r.length.symm
 refine ⟨"tuple",_,PyProof.Rows.slot_tuple_getitem.lookup,ht.typeIs,?_⟩
 refine HT.getItem_tuple_cut ht hs pl pu (by rw [hlen];exact hw) ?_ (by rw [hlen];exact hz)
 rw [hlen]
 refine ⟨.ref s.heap.objs.size,_,I.laid (t':=s.toks) (o:=.tup (Zem xs lo hi)) (fun b ob q=>Heap.get?_push_of_some _ q) (Nat.le_refl _) ?_,rfl,q _ (I.hok.fresh (Nat.le_refl _))⟩
 exact ⟨Nat.le_trans (Zhv xs lo hi) hz,_,(r.drop (HT.sIx xs.length 0 lo)).take (HT.sIx xs.length xs.length hi-HT.sIx xs.length 0 lo),IsTup.new _ _⟩
end
end L2
namespace L2
open PySem PySem.Spec PyProof.Rows
def ixN (n:Nat) (i:Int):Option Nat:=if 0≤i then (if i<n then some i.toNat else none) else if -(n:Int)≤i then some (i+n).toNat else none
def atI {α:Type} (xs:List α) (i:Int):Option α:=(ixN xs.length i).bind fun j=>xs[j]?
theorem Zqe {n:Nat} {i:Int} {j:Nat} (h:ixN n i=some j):seqIndex? i n=some j∧j<n ∧ -(n:Int)≤i∧i<n:=by
 unfold ixN at h
 by_cases h0:0≤i
 ·rw [if_pos h0] at h
  by_cases h1:i<n
  ·rw [if_pos h1] at h
   have e:i.toNat=j:=Option.some.inj h
   exact ⟨by rw [seqIndex_of h0 h1,e],by omega,by omega,h1⟩
  ·rw [if_neg h1] at h;cases h
 ·rw [if_neg h0] at h
  by_cases h1 : -(n:Int)≤i
  ·rw [if_pos h1] at h
   have e:(i+n).toNat=j:=Option.some.inj h
   exact ⟨by rw [seqIndex_neg (by omega) h1,e],by omega,h1,by omega⟩
  ·rw [if_neg h1] at h;cases h
theorem Ziv {α:Type} {xs:List α} {i:Int} {v:α} (h:atI xs i=some v):∃ j,seqIndex? i xs.length=some j∧xs[j]?=some v∧j<xs.length ∧ -(xs.length:Int)≤i∧i<xs.length:=by
 unfold atI at h
 cases e:ixN xs.length i with
 | none=>rw [e] at h;cases h
 | some j =>
  rw [e] at h
  obtain ⟨h1,h2,h3,h4⟩:=Zqe e
  exact ⟨j,h1,h,h2,h3,h4⟩
theorem ZbH {α:Type} {xs:List α} {j:Nat} {v:α} (h:xs[j]?=some v):atI xs (j:Int)=some v:=by
 have hj:j<xs.length:=(List.getElem?_eq_some_iff.mp h).1
 have e:ixN xs.length (j:Int)=some j:=by
  unfold ixN
  rw [if_pos (by omega),if_pos (by omega)];simp
 unfold atI;rw [e];exact h
theorem ZkS {α:Type} (xs:List α) (v:α):atI (xs++[v]) (-1)=some v:=by
 have hl:(xs++[v]).length=xs.length+1:=by simp
 have e:ixN (xs++[v]).length (-1)=some xs.length:=by
  unfold ixN
  rw [hl,if_neg (by decide),if_pos (by omega)]
  congr 1
  omega
 unfold atI
 rw [e]
 show (xs++[v])[xs.length]?=some v
 simp
def Zhd (b:Expr):Prop:=∀ o i,subscripted b false o i=operate [o,i] (getItem o i)
def IxR (X:Cx) (r:R2):Prop :=
 ∀ (value slice:Expr) (pins:List (Addr×Obj)) (s:Shared) (σ:St) (H:Hp) (x y:V) (v u:Value) (Q:VK),Inv X pins σ H s→RelV x v→RelV y u→r x y H Q →
  subscripted slice false v u=operate [v,u] (getItem v u)→wpAny (model X.prog X.w) X.A (subscriptTail value slice v u) (EP X pins σ Q) X.xe s
def MtR (X:Cx) (id:String) (r:V→List V→Hp→VK→Prop):Prop :=
 ∀ (pins:List (Addr×Obj)) (s:Shared) (σ:St) (H:Hp) (x:V) (xs:List V) (v:Value) (us:List Value) (Q:VK),Inv X pins σ H s→RelV x v→Vals xs us→r x xs H Q →
  wpAny (model X.prog X.w) X.A (call (.builtin id) (v::us)) (EP X pins σ Q) X.xe s
section
variable {X:Cx} {a b:Expr} {ta tb:TE} {pos:Pos}
theorem IxR.or {r r':R2} (h:IxR X r) (h':IxR X r'):IxR X (fun x y H Q=>r x y H Q∨r' x y H Q):=by
 intro value slice pins s σ H x y v u Q I rx ry q hs
 rcases q with q | q
 ·exact h value slice pins s σ H x y v u Q I rx ry q hs
 ·exact h' value slice pins s σ H x y v u Q I rx ry q hs
theorem MtR.or {id:String} {r r':V→List V→Hp→VK→Prop} (h:MtR X id r) (h':MtR X id r'):MtR X id (fun x xs H Q=>r x xs H Q∨r' x xs H Q):=by
 intro pins s σ H x xs v us Q I rx rs q
 rcases q with q | q
 ·exact h pins s σ H x xs v us Q I rx rs q
 ·exact h' pins s σ H x xs v us Q I rx rs q
theorem ZtD {r:R2} (hr:IxR X r) (ha:PE X a ta) (hb:PE X b tb) (hs:Zhd b):PE X (.Subscript a b pos) (tOp r ta tb):=by
 intro pins s σ H Q I h
 exact Subscript_ (ZoE ha hb I h fun v u s2 x y H2 I2 rx ry q=>hr a b pins s2 σ H2 x y v u Q I2 rx ry q (hs _ _))
def Zrf (K:PySem.W.Frag):R2:=fun x y H Q=>∃ p xs i v,x=.ref p∧y=.int i∧SqL K H p xs∧atI xs i=some v∧Q v H
def Zsz (K:PySem.W.Frag):R2:=fun x y H Q=>∃ p xs i v,x=.ref p∧y=.int i∧SqT K H p xs∧atI xs i=some v∧Q v H
def Zrw:R2:=fun x y H Q=>∃ z i c,x=.str z∧y=.int i∧z.length≤sizeLine∧atI z.cps.toList i=some c∧Q (.str ⟨#[c]⟩) H
theorem ix_list:IxR X (Zrf X.K):=by
 intro value slice pins s σ H x y v u Q I rx ry h hs
 obtain ⟨p,xs,i,z,rfl,rfl,hq,he,q⟩:=h
 cases rx
 obtain ⟨t,rfl⟩:=ry
 obtain ⟨its,r,pl,hz⟩:=I.list hq
 obtain ⟨j,h1,h2,h3,h4,h5⟩:=Ziv he
 obtain ⟨w,ew,rw'⟩:=r.get h2
 have hl:=r.length
 have hn:=ZgL
 have fin:EP X pins σ Q w s:=⟨z,H,I,rw',q⟩
 by_cases h0:0≤i
 ·have hj:i.toNat=j:=by
   rw [seqIndex_of h0 h5] at h1
   exact Option.some.inj h1
  exact item_listR pl.isList h0 (by omega) (by rw [hj];simpa using ew) fin hs
 ·have hj:(i+(its.toArray.size:Int)).toNat=j:=by
   rw [seqIndex_neg (by omega) h4] at h1
   rw [List.size_toArray,← hl]
   exact Option.some.inj h1
  exact subscriptTail_builtinR (x:=w) pl.isList.typeIs slot_list_getitem.lookup
   (wpAny_getItem_list_neg (Q:=fun r s'=>r=w∧EP X pins σ Q r s') pl.isList (by omega) (by rw [List.size_toArray]<;>omega) (by omega) (by rw [hj];simpa using ew) ⟨rfl,fin⟩) hs
theorem ix_tup:IxR X (Zsz X.K):=by
 intro value slice pins s σ H x y v u Q I rx ry h hs
 obtain ⟨p,xs,i,z,rfl,rfl,hq,he,q⟩:=h
 cases rx
 obtain ⟨t,rfl⟩:=ry
 obtain ⟨its,r,pl,hz⟩:=I.tuple hq
 obtain ⟨j,h1,h2,h3,h4,h5⟩:=Ziv he
 obtain ⟨w,ew,rw'⟩:=r.get h2
 have hl:=r.length
 have hn:=ZgL
 have fin:EP X pins σ Q w s:=⟨z,H,I,rw',q⟩
 exact subscriptTail_builtinR (x:=w) pl.typeIs slot_tuple_getitem.lookup
  (getItem_tuple (j:=j) (Q:=fun r s'=>r=w∧EP X pins σ Q r s') pl (by omega) (by omega) (by rw [List.size_toArray,← hl];exact h1) (by simpa using ew) ⟨rfl,fin⟩) hs
theorem Zsk:IxR X Zrw:=by
 intro value slice pins s σ H x y v u Q I rx ry h hs
 obtain ⟨z,i,c,rfl,rfl,hz,he,q⟩:=h
 obtain ⟨t,rfl⟩:=rx
 obtain ⟨t',rfl⟩:=ry
 obtain ⟨j,h1,h2,h3,h4,h5⟩:=Ziv he
 have hl:z.cps.toList.length=z.length:=by simp [Str.length]
 rw [hl] at h1 h4 h5
 have hn:=ZgL
 exact tail_any (typeIs_str s z t) slot_str_getitem.lookup (getItem_str (c:=c) (by
  have e1:decide (i < -(2^63:Int))=false:=decide_eq_false (by omega)
  have e2:decide (i≥2^63)=false:=decide_eq_false (by omega)
  rw [e1,e2,Bool.or_false]) (by rw [h1];simpa using h2) ⟨.str ⟨#[c]⟩,H,I.tok _,⟨_,rfl⟩,q⟩) hs
def rIx (K:PySem.W.Frag):R2:=fun x y H Q=>Zrf K x y H Q∨Zsz K x y H Q∨Zrw x y H Q
theorem ZqB:IxR X (rIx X.K):=ix_list.or (ix_tup.or Zsk)
theorem Inv.lst {pins:List (Addr×Obj)} {σ:St} {H:Hp} {s:Shared} {p:Addr} {xs:List V} (I:Inv X pins σ H s) (h:H p=some (.lst xs)) :
  ∃ (its:List Value) (n:Nat),Vals xs its∧s.heap.get? p=some { cls:=.type "list",data:=.seq its.toArray n }∧xs.length≤sizeLine:=by
 obtain ⟨z,its,n,r,e⟩:=I.hok p _ h
 exact ⟨its,n,r,e,z⟩
theorem Zkg (lo hi:Option Int) (n:Nat):(sliceBounds lo hi none n).1=((HT.sIx n 0 lo:Nat):Int)∧(sliceBounds lo hi none n).2.1=((HT.sIx n n hi:Nat):Int)∧(sliceBounds lo hi none n).2.2=1:=by
 refine ⟨?_,?_,rfl⟩
 ·cases lo with
  | none=>simp [sliceBounds,HT.sIx]
  | some i =>
   simp only [sliceBounds,HT.sIx,Option.getD_none,show (1:Int) > 0 by decide,if_true]
   by_cases h:i<0
   ·simp only [h,if_true]<;>omega
   ·simp only [h,if_false]<;>omega
 ·cases hi with
  | none=>simp [sliceBounds,HT.sIx]
  | some i =>
   simp only [sliceBounds,HT.sIx,Option.getD_none,show (1:Int) > 0 by decide,if_true]
   by_cases h:i<0
   ·simp only [h,if_true]<;>omega
   ·simp only [h,if_false]<;>omega
theorem Zjt (its:List Value) (lo hi:Option Int):slicePick its.toArray lo hi none=((its.drop (HT.sIx its.length 0 lo)).take (HT.sIx its.length its.length hi-HT.sIx its.length 0 lo)).toArray:=by
 obtain ⟨h1,h2,h3⟩:=Zkg lo hi its.toArray.size
 unfold slicePick
 rw [h1,h2,h3]
 simp only [sliceRange_one,pick_run,List.size_toArray]<;>rfl
def ZuF (K:PySem.W.Frag):V→Option Int→Option Int→Hp→VK→Prop:=fun x lo hi H Q=>∃ a xs,x=.ref a∧SqL K H a xs∧∀ p,H p=none→Q (.ref p) (upd H p (.lst (Zem xs lo hi)))
theorem sl_list:SlR X (ZuF X.K):=by
 intro pins s σ H x v vl vu lo hi sl Q I rx hs pl pu h
 obtain ⟨a,xs,rfl,hx,q⟩:=h
 cases rx
 obtain ⟨its,r,ht,hz⟩:=I.list hx
 have hlen:=r.length
 refine ⟨"list",_,slot_list_getitem.lookup,ht.isList.typeIs,?_⟩
 refine wpAny_getItem_list_slice ht.isList hs pl pu .none (by simp) ?_ (by rw [List.size_toArray]<;>omega)
 rw [Zjt,← hlen]
 refine ⟨.ref s.heap.objs.size,_,I.laid (t':=s.toks) (o:=.lst (Zem xs lo hi)) (fun b ob q=>Heap.get?_push_of_some _ q) (Nat.le_refl _) ?_,rfl,q _ (I.hok.fresh (Nat.le_refl _))⟩
 exact ⟨Nat.le_trans (Zhv xs lo hi) hz,_,0,(r.drop (HT.sIx xs.length 0 lo)).take (HT.sIx xs.length xs.length hi-HT.sIx xs.length 0 lo),Heap.get?_push_size _ rfl⟩
def Zo2:V→Bool
 | .non=>true
 | .bl _=>true
 | .int _=>true
 | .str _=>true
 | _=>false
def eqV:V→V→Bool
 | .non,.non=>true
 | .bl a,.bl b=>a==b
 | .bl a,.int b=>(if a then 1 else 0)==b
 | .int a,.bl b=>a==(if b then 1 else 0)
 | .int a,.int b=>a==b
 | .str a,.str b=>a==b
 | _,_=>false
theorem CallR.or {f:Value} {r r':List V→Hp→VK→Prop} (h:CallR X f r) (h':CallR X f r'):CallR X f (fun xs H Q=>r xs H Q∨r' xs H Q):=by
 intro pins s σ H xs us Q I rs q
 rcases q with q | q
 ·exact h pins s σ H xs us Q I rs q
 ·exact h' pins s σ H xs us Q I rs q
theorem ZkQ:CallR X (.type "list") (fun xs H Q=>∃ p ys,xs=[.ref p]∧(SqL X.K H p ys∨SqT X.K H p ys)∧∀ l,H l=none→Q (.ref l) (upd H l (.lst ys))):=by
 intro pins s σ H xs us Q I r h
 obtain ⟨p,ys,rfl,hq,q⟩:=h
 obtain ⟨u,rfl,rx⟩:=Zd6 r
 cases rx
 have fin:∀ (its:List Value),Vals ys its→ys.length≤sizeLine→∀ (h':Heap) (c':Nat),(∀ b o',s.heap.get? b=some o'→h'.get? b=some o') →
   h'.get? s.heap.objs.size=some { cls:=.type "list",dict:=none,data:=.seq its.toArray c',slots:=#[] }→EP X pins σ Q (.ref s.heap.objs.size) { s with heap:=h' }:=fun its r' hz h' c' kp e =>
  ⟨.ref s.heap.objs.size,_,I.laid (t':=s.toks) kp (Nat.le_refl _) (show ObjOk X.prog X.w _ h' _ (.lst ys) from ⟨hz,its,c',r',e⟩),rfl,q _ (I.hok.fresh (Nat.le_refl _))⟩
 rcases hq with hq | hq
 ·obtain ⟨its,r',pl,hz⟩:=I.list hq
  have hlen:=r'.length
  obtain ⟨o,ho,hc,n,hd⟩:=pl.isList
  exact call_list_seq p (.inl rfl) ho hc hd (fun h' c' kp e=>fin its r' hz h' c' kp e) (by simp only [List.size_toArray]<;>omega)
 ·obtain ⟨its,r',pl,hz⟩:=I.tuple hq
  have hlen:=r'.length
  obtain ⟨o,ho,hc,n,hd⟩:=pl
  exact call_list_seq p (.inr rfl) ho hc hd (fun h' c' kp e=>fin its r' hz h' c' kp e) (by simp only [List.size_toArray]<;>omega)
theorem Zgg:CallR X (.type "tuple") (fun xs H Q=>∃ p ys,xs=[.ref p]∧((SqL X.K H p ys∧∀ l,H l=none→Q (.ref l) (upd H l (.tup ys)))∨(SqT X.K H p ys∧Q (.ref p) H))):=by
 intro pins s σ H xs us Q I r h
 obtain ⟨p,ys,rfl,h⟩:=h
 obtain ⟨u,rfl,rx⟩:=Zd6 r
 cases rx
 rcases h with ⟨hq,q⟩ | ⟨hq,q⟩
 ·obtain ⟨its,r',pl,hz⟩:=I.list hq
  have hlen:=r'.length
  refine call_tuple_list pl.isList (fun h' kp=>?_) (by simp only [List.size_toArray]<;>omega)
  have I1:Inv X pins σ H { s with heap:=h' }:=I.kept (t':=s.toks) kp
  have I2:Inv X pins σ (upd H h'.objs.size (.tup ys)) { s with heap:=h'.push { cls:=.type "tuple",data:=.seq its.toArray } } :=
   I1.laid (t':=s.toks) (fun b o e=>Heap.get?_push_of_some _ e) (Nat.le_refl _) (show ObjOk X.prog X.w _ _ _ (.tup ys) from ⟨hz,its,r',IsTup.new _ _⟩)
  exact ⟨.ref h'.objs.size,_,I2,rfl,q _ (I1.hok.fresh (Nat.le_refl _))⟩
 ·obtain ⟨its,r',pl,hz⟩:=I.tuple hq
  exact call_tuple_same pl ⟨.ref p,H,I,rfl,q⟩
def tyV (K:PySem.W.Frag) (T:String) (x:V) (H:Hp):Prop:=match x with
 | .str _=>T="str"
 | .int _=>T="int"
 | .ref p=>(T="list"∧∃ xs,SqL K H p xs)∨(T="tuple"∧∃ o,K.lookup p=some o∧o.cls=.type "tuple"∧o.dict=none) ∨
   (T="dict"∧((∃ kvs,H p=some (.dK kvs))∨(∃ kvs,H p=some (.dT kvs))∨∃ ks vs,Rd H p (.dct ks vs)))∨(T="set"∧∃ S n,H p=some (.set S n))
 | _=>False
theorem Zny {pins:List (Addr×Obj)} {σ:St} {H:Hp} {s:Shared} {T:String} {x:V} {v:Value} (I:Inv X pins σ H s) (r:RelV x v) (ty:tyV X.K T x H) :
  s.TypeIs v T∧∀ a,v=.ref a→∃ ob,s.heap.get? a=some ob∧ob.dict=none:=by
 cases x with
 | str z =>
  obtain ⟨t,rfl⟩:=r
  cases (show T="str" from ty)
  exact ⟨typeIs_str s z t,fun _ e=>nomatch e⟩
 | int i =>
  obtain ⟨t,rfl⟩:=r
  cases (show T="int" from ty)
  exact ⟨typeIs_int s i t,fun _ e=>nomatch e⟩
 | ref p =>
  cases r
  rcases ty with ⟨rfl,xs,hq⟩ | ⟨rfl,o,hk,hc,hd⟩ | ⟨rfl,hk⟩ | ⟨rfl,S,n,hk⟩
  ·obtain ⟨its,_,pl,_⟩:=I.list hq
   refine ⟨pl.isList.typeIs,fun a e=>?_⟩
   cases e
   obtain ⟨o,n,e,c,hd,_⟩:=pl
   exact ⟨o,e,hd⟩
  ·refine ⟨⟨o,I.kIn p o hk,hc⟩,fun a e=>?_⟩
   cases e
   exact ⟨o,I.kIn _ o hk,hd⟩
  ·have z:∃ o,s.heap.get? p=some o∧o.ExactDict:=by
    rcases hk with ⟨kvs,hk⟩ | ⟨kvs,hk⟩ | ⟨ks,vs,hk⟩
    ·obtain ⟨_,_,_,_,o,_,_,e,ex,_⟩:=I.hok p _ hk
     exact ⟨o,e,ex⟩
    ·obtain ⟨_,_,_,_,o,_,_,e,ex,_⟩:=I.hok p _ hk
     exact ⟨o,e,ex⟩
    ·obtain ⟨_,_,_,o,_,_,e,ex,_⟩:=hk.ok I.hok
     exact ⟨o,e,ex⟩
   obtain ⟨o,e,ex⟩:=z
   refine ⟨⟨o,e,ex.1⟩,fun a e2=>?_⟩
   cases e2
   exact ⟨o,e,ex.2.1⟩
  ·obtain ⟨o,_,_,_,e,ex,_⟩:=I.hok p _ hk
   refine ⟨⟨o,e,ex.1⟩,fun a e2=>?_⟩
   cases e2
   exact ⟨o,e,ex.2.1⟩
 | _=>exact False.elim ty
def Zul (K:PySem.W.Frag) (T:String) (r:V→List V→Hp→VK→Prop) (to:TE):TE:=fun σ H Q=>to σ H fun x H1=>tyV K T x H1∧r x [] H1 Q
def tBM (K:PySem.W.Frag) (T:String) (r:V→List V→Hp→VK→Prop) (to:TE) (t:TA):TE:=fun σ H Q=>to σ H fun x H1=>tyV K T x H1∧t σ H1 fun xs H2=>r x xs H2 Q
variable {o e:Expr} {es:List Expr} {to:TE} {t:TA} {name:Str} {apos cpos:Pos} {T id:String} {r:V→List V→Hp→VK→Prop}
theorem Zrd (pa:PlainAttrs T) (slot:Slot T name id) (hty:typeOf (.builtin id)=pure (.type "method_descriptor")) (hm:MtR X id r) (ho:PE X o to)
  (hbase:attributeBase o name X.env (eval o X.env)=eval o X.env:=by rfl) (hline:(apos.endLine==cpos.line)=true:=by rfl):PE X (.Call (.Attribute o name apos) [] [] cpos) (Zul X.K T r to):=by
 intro pins s σ H Q I h
 refine wpAny_Call_method0_late hbase hline (thn (ho pins s σ H _ I h) fun v s1 ⟨x,H1,I1,r1,ty,q1⟩=>?_)
 obtain ⟨h1,h2⟩:=Zny I1 r1 ty
 exact ⟨T,id,pa,slot,hty,h1,h2,Calls.callWith_builtin rfl (PySem.evalArgs_none (hm pins s1 σ H1 x [] v [] Q I1 r1 .nil q1))⟩
theorem Zmm (pa:PlainAttrs T) (slot:Slot T name id) (hty:typeOf (.builtin id)=pure (.type "method_descriptor")) (hm:MtR X id r) (ho:PE X o to) (ha:PA X (e::es) t)
  (hbase:attributeBase o name X.env (eval o X.env)=eval o X.env:=by rfl)
  (hfew:((backTo cpos (starEach (e::es) X.env)).all (fun x=>!x.1)&&(backToKw cpos (keywordEach [] X.env)).all (fun x=>x.1.isSome)
   && decide ((e::es).length+([]:List Keyword).length+(if ([]:List Keyword).isEmpty then 0 else 1)<30))=true:=by rfl)
  (hline:(apos.endLine==cpos.line)=true:=by rfl) (hs:starEach (e::es) X.env=(false,eval e X.env)::starEach es X.env:=by rfl) (hplain:(backTo cpos (starEach es X.env)).any (·.1)=false:=by rfl) :
  PE X (.Call (.Attribute o name apos) (e::es) [] cpos) (tBM X.K T r to t):=by
 intro pins s σ H Q I h
 refine wpAny_Call_method_late hbase hfew hline rfl (thn (ho pins s σ H _ I h) fun v s1 ⟨x,H1,I1,r1,ty,q1⟩=>?_)
 obtain ⟨h1,h2⟩:=Zny I1 r1 ty
 refine ⟨T,id,pa,slot,hty,h1,h2,?_⟩
 have hA:=ha cpos pins s1 σ H1 _ I1 q1
 rw [hs] at hA ⊢
 refine Calls.callWith_builtin (by show (false||(backTo cpos (starEach es X.env)).any (·.1))=false;rw [hplain]<;>rfl) (Calls.evalArgs_plain ?_)
 exact thn hA fun us s2 ⟨vs,H2,I2,r2,q2⟩=>hm pins s2 σ H2 x vs v us Q I2 r1 r2 q2
end
end L2
namespace L2
open PySem PySem.Spec PyProof.Rows
def MtM (X:Cx) (id:String) (r:V→List V→Hp→VK→Prop):Prop :=
 ∀ (pins:List (Addr×Obj)) (s:Shared) (σ:St) (H:Hp) (x:V) (xs:List V) (v:Value) (us:List Value) (Q:VK),Inv X pins σ H s→RelV x v→Vals xs us→r x xs H Q →
  wpAny (model X.prog X.w) X.A (call (.builtin id) (v::us)) (EP X pins σ Q) X.xe s
theorem Vals.one:∀ {x:V} {us:List Value},Vals [x] us→∃ u,us=[u]∧RelV x u
 | _,_,.cons r .nil=>⟨_,rfl,r⟩
theorem Vals.two:∀ {x y:V} {us:List Value},Vals [x,y] us→∃ u v,us=[u,v]∧RelV x u∧RelV y v
 | _,_,_,.cons r (.cons q .nil)=>⟨_,_,rfl,r,q⟩
theorem Vals.zero:∀ {us:List Value},Vals [] us→us=[]
 | _,.nil=>rfl
theorem Vals.dropLast {xs:List V} {us:List Value} (h:Vals xs us):Vals xs.dropLast us.dropLast:=by
 induction h with
 | nil=>exact .nil
 | cons r t ih =>
  cases t with
  | nil=>exact .nil
  | cons q t'=>exact .cons r ih
theorem Vals.eraseIdx:∀ {xs:List V} {us:List Value} (i:Nat),Vals xs us→Vals (xs.eraseIdx i) (us.eraseIdx i)
 | _,_,_,.nil=>.nil
 | _,_,0,.cons _ t=>t
 | _,_,i+1,.cons r t=>.cons r (Vals.eraseIdx i t)
theorem Vals.reverse {xs:List V} {us:List Value} (h:Vals xs us):Vals xs.reverse us.reverse:=by
 induction h with
 | nil=>exact .nil
 | cons r t ih=>rw [List.reverse_cons,List.reverse_cons];exact Vals.append ih (.cons r .nil)
theorem Vals.rep {xs:List V} {us:List Value} (h:Vals xs us):∀ k:Nat,Vals (List.replicate k xs).flatten (List.replicate k us).flatten
 | 0=>.nil
 | k+1=>by
  rw [List.replicate_succ,List.replicate_succ,List.flatten_cons,List.flatten_cons]
  exact Vals.append h (Vals.rep h k)
theorem Zmz {α:Type} (l:List α):l.eraseIdx (l.length-1)=l.dropLast:=by
 induction l with
 | nil=>rfl
 | cons a r ih =>
  cases r with
  | nil=>rfl
  | cons b r =>
   have e:(a::b::r).length-1=((b::r).length-1)+1:=by
    have h1:(a::b::r).length=r.length+2:=rfl
    have h2:(b::r).length=r.length+1:=rfl
    omega
   rw [e,List.eraseIdx_cons_succ,ih]
   all_goals rfl
section
variable {X:Cx} {pins:List (Addr×Obj)} {σ:St} {H:Hp} {s:Shared} {l b:Addr} {xs ys zs:List V}
theorem Inv.lset {its its':List Value} {n:Nat} {f:Array Value→Array Value} {t':Nat} (I:Inv X pins σ H s) (hH:H l=some (.lst xs))
  (e:s.heap.get? l=some { cls:=.type "list",data:=.seq its.toArray n }) (hf:f its.toArray=its'.toArray) (hv:Vals ys its') (hz:ys.length≤sizeLine) :
  Inv X pins σ (upd H l (.lst ys)) { s with heap:=s.heap.update l (Obj.mapSeq f),toks:=t' }:=by
 have q:=PySem.IsL.update e f
 rw [hf] at q
 refine I.write (x:=l) (e:=l) (by rw [hH];exact trivial) (.inl rfl) (fun b' u hb hu=>(Heap.get?_update_other s.heap (Obj.mapSeq f) (Ne.symm hb)).trans hu) ⟨_,q⟩ ?_
 exact ⟨hz,its',_,hv,q⟩
theorem Inv.lnew {its:List Value} {t':Nat} (I:Inv X pins σ H s) (hv:Vals ys its) (hz:ys.length≤sizeLine) :
  Inv X pins σ (upd H s.heap.objs.size (.lst ys)) { s with heap:=s.heap.push { cls:=.type "list",data:=.seq its.toArray },toks:=t' } :=
 I.laid (fun _ _ q=>Heap.get?_push_of_some _ q) (Nat.le_refl _) ⟨hz,its,0,hv,Heap.get?_push_size _ rfl⟩
theorem Inv.fresh (I:Inv X pins σ H s):H s.heap.objs.size=none:=I.hok.fresh (Nat.le_refl _)
theorem Inv.lstM (I:Inv X pins σ H s) (hH:H l=some (.lst xs)):xs.length≤sizeLine∧∃ (its:List Value) (n:Nat),Vals xs its∧xs.length=its.length∧s.heap.get? l=some { cls:=.type "list",data:=.seq its.toArray n }:=by
 obtain ⟨z,its,n,r,e⟩:=I.hok l _ hH
 exact ⟨z,its,n,r,r.length,e⟩
end
section
variable {X:Cx}
def Zqd:V→List V→Hp→VK→Prop:=fun x vs H Q=>∃ l xs y,x=.ref l∧vs=[y]∧H l=some (.lst xs)∧xs.length<sizeLine∧Q .non (upd H l (.lst (xs++[y])))
theorem ZmK:MtM X "list.append" Zqd:=by
 intro pins s σ H x vs v us Q I rx rv h
 obtain ⟨l,xs,y,rfl,rfl,hH,hz,q⟩:=h
 cases rx
 obtain ⟨u,rfl,ru⟩:=rv.one
 obtain ⟨z,its,n,r,hl,e⟩:=I.lstM hH
 refine call_meets F.slot_list_append ⟨_,e,rfl⟩ F.entry_list_append (F.args_list_append_2 _ _) (PySem.list_append l its.toArray n u (by rw [List.size_toArray];omega)) ⟨e,?_⟩
 refine ⟨.non,_,I.lset (its':=its++[u]) hH e (by simp) (r.append (.cons ru .nil)) ?_,rfl,q⟩
 rw [List.length_append,List.length_singleton]
 omega
def Zuw:V→List V→Hp→VK→Prop:=fun x vs H Q=>∃ l xs y,x=.ref l∧vs=[]∧H l=some (.lst xs)∧xs[xs.length-1]?=some y∧Q y (upd H l (.lst xs.dropLast))
theorem Zu0:MtM X "list.pop" Zuw:=by
 intro pins s σ H x vs v us Q I rx rv h
 obtain ⟨l,xs,y,rfl,rfl,hH,hy,q⟩:=h
 cases rx
 have hus:=rv.zero
 subst hus
 obtain ⟨z,its,n,r,hl,e⟩:=I.lstM hH
 obtain ⟨u,hu,ru⟩:=r.get hy
 have hy':its.toArray[its.toArray.size-1]?=some u:=by
  show its.toArray[its.length-1]?=some u
  rw [← Array.getElem?_toList,← hl]
  exact hu
 refine call_meets F.slot_list_pop ⟨_,e,rfl⟩ F.entry_list_pop (F.args_list_pop_1 _) (MeetsSeq.list_pop_last l its.toArray n u hy' (by rw [List.size_toArray];omega)) ⟨e,?_⟩
 refine ⟨y,_,I.lset (its':=its.dropLast) hH e ?_ r.dropLast ?_,ru,q⟩
 ·show its.toArray.eraseIdxIfInBounds (its.toArray.size-1)=its.dropLast.toArray
  rw [List.size_toArray,List.eraseIdxIfInBounds_toArray,Zmz]
 ·rw [List.length_dropLast]
  omega
def Zq6:V→List V→Hp→VK→Prop:=fun x vs H Q=>∃ l xs,x=.ref l∧vs=[]∧H l=some (.lst xs)∧Q .non (upd H l (.lst []))
theorem ZoI:MtM X "list.clear" Zq6:=by
 intro pins s σ H x vs v us Q I rx rv h
 obtain ⟨l,xs,rfl,rfl,hH,q⟩:=h
 cases rx
 have hus:=rv.zero
 subst hus
 obtain ⟨z,its,n,r,hl,e⟩:=I.lstM hH
 refine call_meets F.slot_list_clear ⟨_,e,rfl⟩ F.entry_list_clear (F.args_list_clear_1 _) (AutoSeq1.list_clear_list_0 l its.toArray n (by rw [List.size_toArray];omega)) ⟨e,?_⟩
 exact ⟨.non,_,I.lset (its':=[]) (ys:=[]) hH e rfl .nil (Nat.zero_le _),rfl,q⟩
end
section
variable {prog:Program} {w:World} {A:Around} {E:Value→Shared→Prop} {s:Shared}
set_option maxRecDepth 100000 in
end
section
variable {X:Cx}
end
end L2
namespace Att
open PySem PySem.W PySem.Calls PyProof.Rows
theorem Zid {P:Params} {h:Heap}:∀ (ns:List Int) (vs:List Value),WellAll P h vs (ns.map WData.int)→IntsAre vs ns:=by
 intro ns
 induction ns with
 | nil =>
  intro vs w
  rw [List.map_nil] at w
  cases w
  exact .nil
 | cons n ns ih =>
  intro vs w
  rw [List.map_cons] at w
  cases w with
  | cons a b =>
   cases a
   exact .cons _ _ (ih _ b)
theorem Znf {l:OpenLaw} {n:Nat} (hn:l.most=some n) {P:Params} {h:Heap} {args:List WData} {Zr:List Value}
  (hpre:l.row.toRowW.claim.pre args=true) (hwl:WellAll P h Zr args) :
  ∃ a vs ns,Zr=[Value.ref a]∧args=[WData.list (ns.map WData.int)]∧h.get? a=some { cls:=.type "list",data:=.seq vs.toArray }∧IntsAre vs ns∧ns.length≤n:=by
 have hsh:WShape.hasAll [] args [.list .int]=true:=(pre_splitW hpre).1
 have hc:l.pre.holds [] { args:=args }=true:=(pre_splitW hpre).2
 obtain ⟨d,r,rfl,h1,h2⟩:=hasAllW_cons hsh
 obtain rfl:=hasAllW_nil h2
 obtain ⟨xs,rfl,h3⟩:=hasW_list h1
 obtain ⟨ns,rfl⟩:=items_int h3
 have hlen:ns.length≤n:=by
  unfold OpenLaw.pre at hc
  have h4:(WTm.not (.lt (.lit (.int (n:Int))) (.len (.arg 0)))).holds [] { args:=[.list (ns.map .int)] }=true:=by
   have h4:=(holds_andW hc).1
   rw [hn] at h4
   exact h4
  have h5:=condW_of h4 (w_not (w_lt w_lit (w_len_list (w_arg rfl))))
  rw [List.length_map] at h5
  refine Nat.le_of_not_lt fun q=>?_
  have q':(n:Int)<((ns.length:Nat):Int):=by omega
  first
   | (rw [decide_eq_true q'] at h5;exact absurd h5 (by decide))
   | (simp at h5;omega)
 cases hwl with
 | cons w1 w2 =>
  cases w2
  cases w1 with
  | list ho hall=>exact ⟨_,_,ns,rfl,rfl,ho,Zid ns _ hall,hlen⟩
theorem Zm2 (l:OpenLaw) (args:List WData):l.row.toRowW.claim.post args (.bool true) args=true :=
 postW_of (r:=l.row.toRowW) (X:=(true==true))
  (show WShape.has [] (.bool true) .bool=true by first | rfl | decide | simp [WShape.has,WShape.arms,WShape.armsAll])
  (show (WTm.eq .res (.lit (.bool true))).value [] { args:=args,res:=some (.bool true),after:=args }=some (.bool (true==true)) from w_eq_bool (w_res rfl) w_lit) rfl
theorem attach_call {l:OpenLaw} {n:Nat} {q:Program} {loose:List Str} {XP:(Str→Option Value)→Heap→Prop} {YP:World→Heap→Prop} {d:DefRec}
  (hn:l.most=some n) (hdf:d.params.defaults=[])
  (call:∀ (w:World) (s₀ s₁:Shared) (mg mb:Str→Option Value) (fa:Addr) (o:Obj) (pm cd doc:Value) (a:Addr) (vs:List Value) (ns:List Int),
   Ground q loose [] XP w s₀ mg mb s₁.heap→YP w s₁.heap →
   s₁.heap.get? fa=some o→o.data=.func (docDef d.name d.params d.body d.scope pm cd doc)→s₁.heap.CodeRec cd d.name→mg d.name=some (.ref fa) →
   s₁.heap.get? a=some { cls:=.type "list",data:=.seq vs.toArray }→IntsAre vs ns→ns.length≤n→s₁.gens=#[] →
   codeAny (model l.prog w) callerA (.call (.ref fa) ⟨[.ref a],[]⟩) (fun r s'=>r=.ok (.ret (.bool true))∧OldK s₁.heap s'.heap∧s'.os=s₁.os∧AllBare s'.gens) s₁) :
  WalkO q loose XP YP l.row.toRowW d [] (fun f vs=>PySem.call f vs):=by
 intro w s₀ s₁ mg mb G Y fa o pm cd doc dV kV ho hd hcd hD hmg hg args Zr as hpre hlay hrd hwl hlo
 obtain rfl:dV=.none:=Dflts.none hD hdf
 obtain rfl:kV=.none:=Dflts.noKw hD
 obtain ⟨a,vs,ns,rfl,rfl,hobj,hints,hlen⟩:=Znf hn hpre hwl
 refine enter_call (codeAny_mono (call w s₀ s₁ mg mb fa o pm cd doc a vs ns G Y ho (fd_plain hd) hcd hmg hobj hints hlen hg) fun r s' hq=>?_)
 obtain ⟨rfl,h2,h3,h4⟩:=hq
 exact ⟨.inl ⟨.bool true,.bool true,[],rfl,fun _=>rfl,.bool true,Zm2 l _,fun _=>⟨List.Pairwise.nil,fun _ hm=>(nomatch hm)⟩⟩,h2,h3,h4⟩
section
variable {prog:Program} {w:World} {A:Around} {E:Value→Shared→Prop} {s:Shared} {K:Frag}
end
end Att
namespace L2
open PySem PySem.Spec PyProof.Rows
theorem Zi3:∀ {vs:List Value} {ns:List Int},IntsAre vs ns→Vals (ns.map V.int) vs
 | _,_,.nil=>.nil
 | _,_,.cons n t h=>.cons ⟨t,rfl⟩ (Zi3 h)
def ZoH (H:Hp):Prop:=∀ b,H b=none∨∃ o xs,H b=some (.frz o (.lst xs))
theorem ZoP {P:Program} {w:World} {K:PySem.W.Frag} {mg mb:Str→Option Value} {CX:CXT} {k:Nat} {fa a:Addr} {fd:FuncData} {x:Str} {sp:Sp} {s₁:Shared} {vs:List Value} {ns:List Int}
  (KX:K.In s₁.heap) (hns:s₁.heap.Ns mainGlobals mg) (hb:s₁.heap.Ns builtinsNs mb) (hbb:∀ x:Str,x≠"__name__"→mb x=bootBuiltins x) (hlim:s₁.heap.NoLimit) (hg:s₁.gens=#[])
  (ha:s₁.heap.get? a=some { cls:=.type "list",data:=.seq vs.toArray }) (hi:IntsAre vs ns) (hl:ns.length≤sizeLine) (hr:Room k callerA)
  (F:∀ base:Heap,K.In base→base.Ns mainGlobals mg→FnOk P w K mg base CX k fa fd [x] sp) (hbind:∀ (s:Shared) (u:Value),BindsTo s fd ⟨[u],[]⟩ [(x,u)])
  (hsp:∀ H:Hp,ZoH H→SqL K H a (ns.map V.int)→sp [.ref a] H (fun v _=>v=.bl true) fun _ _ _=>False)
  (hCX:∀ H e s',CX [] H s₁ (fun _ _ _=>False) e s'→False) :
  codeAny (model P w) callerA (.call (.ref fa) ⟨[.ref a],[]⟩) (fun r s'=>r=.ok (.ret (.bool true))∧OldK s₁.heap s'.heap∧s'.os=s₁.os∧AllBare s'.gens) s₁:=by
 have rv:=Zi3 hi
 have lenV:=hi.length
 -- from an abstract heap in which nothing but the script may be tracked
 have core:∀ H:Hp,ZoH H→SqL K H a (ns.map V.int)→HOk P w H s₁.heap→(∀ b,H b≠none→b=a)→(H a≠none→K.lookup a=none) →
   codeAny (model P w) callerA (.call (.ref fa) ⟨[.ref a],[]⟩) (fun r s'=>r=.ok (.ret (.bool true))∧OldK s₁.heap s'.heap∧s'.os=s₁.os∧AllBare s'.gens) s₁:=by
  intro H hO hS hok hA hK
  have base_of:∀ {b:Addr} {o:Obj},s₁.heap.get? b=some o→H b=none→(Zfz s₁.heap H).get? b=some o:=fun e n=>ZoC e n
  have noA:∀ {b:Addr} {o:Obj} {es:Array DictEntry} {ep:Nat},s₁.heap.get? b=some o→o.data=.dict es ep→H b=none:=fun {b o es ep} e d=>by
   cases q:H b with
   | none=>rfl
   | some u =>
    have e':b=a:=hA b (by rw [q];simp)
    subst e'
    rw [ha] at e;cases e
    have d':Data.seq vs.toArray _=Data.dict es ep:=d
    cases d'
  have nsK:∀ {b:Addr} {m:Str→Option Value},s₁.heap.Ns b m→(Zfz s₁.heap H).Ns b m:=fun {b m} ⟨o,es,ep,e,d,r⟩=>⟨o,es,ep,base_of e (noA e d),d,r⟩
  have hKb:K.In (Zfz s₁.heap H):=fun b o e=>base_of (KX b o e) (by
   cases q:H b with
   | none=>rfl
   | some u =>
    have e':b=a:=hA b (by rw [q];simp)
    subst e'
    rw [hK (by rw [q];simp)] at e;cases e)
  have hM:Mod K mg (Zfz s₁.heap H):=⟨hKb,nsK hns,⟨mb,nsK hb,hbb⟩,let ⟨mc,h1,h2⟩:=hlim;⟨mc,nsK h1,h2⟩⟩
  have e0:Env0 P w K mg (Zfz s₁.heap H) callerA [] s₁ H:=⟨rfl,hM,fun b o e=>Zqw e,Nat.le_of_eq (ZmT _ _),trivial,fun b hb=>absurd (show b∈([]:List Addr) from hb) (by simp),hok,.of_eq hg⟩
  refine codeAny_mono ((F _ hKb (nsK hns)).run callerA [] s₁ H ⟨[.ref a],[]⟩ [.ref a] [.ref a] _ _ hr e0 (hbind s₁ (.ref a)) (.cons rfl .nil) (hsp H hO hS)) fun r s' h=>?_
  cases r with
  | error e=>exact (hCX H e s' h).elim
  | ok fl =>
   cases fl with
   | next=>exact False.elim h
   | brk=>exact False.elim h
   | cont=>exact False.elim h
   | ret u =>
    obtain ⟨v,H',os,bare,un,hok',r',q⟩:=h
    have q':v=.bl true:=q
    subst q'
    obtain rfl:u=Value.bool true:=r'
    refine ⟨rfl,OldK.of_keep fun b o e=>?_,os,bare⟩
    cases q:H b with
    | none=>exact un.keep b o e q (by intro z;exact absurd (show b∈([]:List Addr) from z) (by simp)) (by simp)
    | some u =>
     rcases hO b with z | ⟨ob,xs,z⟩
     ·rw [q] at z;cases z
     ·have z2:=un.frzs b ob _ z
      obtain ⟨e1,_⟩:=hok b _ z
      obtain ⟨e2,_⟩:=hok' b _ z2
      rw [e] at e1;cases e1
      exact e2
 cases hk:K.lookup a with
 | some o =>
  -- the script is one of the module's own objects
  have e:=KX a o hk
  rw [ha] at e
  cases e
  refine core (fun _=>none) (fun _=>.inl rfl) (.inr ⟨_,vs.toArray,_,hk,rfl,rfl,rfl,by rw [List.size_toArray,lenV];exact hl,by simpa using rv⟩) (fun b u z=>by have z':(none:Option HO)=some u:=z;cases z') (fun b z=>absurd rfl z) fun z=>absurd rfl z
 | none =>
  refine core (fun b=>if b=a then some (.frz { cls:=.type "list",data:=.seq vs.toArray } (.lst (ns.map V.int))) else none) (fun b=>?_) (.inl (.inr ⟨{ cls:=.type "list",data:=.seq vs.toArray },if_pos rfl⟩)) (fun b u z=>?_) (fun b z=>?_) fun _=>hk
  ·by_cases hb:b=a
   ·exact .inr ⟨_,_,if_pos hb⟩
   ·exact .inl (if_neg hb)
  ·by_cases hb:b=a
   ·have z':=(if_pos hb).symm.trans z
    cases z'
    subst hb
    exact ⟨ha,by rw [List.length_map];exact hl,vs,_,rv,ha⟩
   ·have z':=(if_neg hb).symm.trans z
    cases z'
  ·by_cases hb:b=a
   ·exact hb
   ·exact absurd (if_neg hb) z
end L2
namespace L2
open PySem PySem.Spec PyProof.Rows
theorem walk_of {l:PySem.W.OpenLaw} {n k:Nat} {q:Program} {loose:List Str} {XP:(Str→Option Value)→Heap→Prop} {YP:World→Heap→Prop} {d:DefRec} {K:Params→PySem.W.Frag} {CX:World→CXT} {sp:World→Sp} {x:Str}
  (hn:l.most=some n) (hn2:n≤sizeLine) (hdf:d.params.defaults=[]) (hr:Room k callerA)
  (hY:∀ (w:World) (h:Heap),YP w h→(K w.params).In h)
  (F:∀ (w:World) (mg:Str→Option Value) (fa:Addr) (h:Heap),(K w.params).In h→h.Ns mainGlobals mg→mg d.name=some (.ref fa) →
   ∃ fd:FuncData,(∀ (s:Shared) (u:Value),BindsTo s fd ⟨[u],[]⟩ [(x,u)]) ∧
    ∀ base:Heap,(K w.params).In base→base.Ns mainGlobals mg→FnOk l.prog w (K w.params) mg base (CX w) k fa fd [x] (sp w))
  (hsp:∀ (w:World) (H:Hp) (a:Addr) (ns:List Int),ns.length≤n→ZoH H→SqL (K w.params) H a (ns.map V.int)→sp w [.ref a] H (fun v _=>v=.bl true) fun _ _ _=>False)
  (hCX:∀ (w:World) (H:Hp) (s:Shared) (e:Value) (s':Shared),CX w [] H s (fun _ _ _=>False) e s'→False) :
  PySem.W.WalkO q loose XP YP l.row.toRowW d [] (fun f vs=>PySem.call f vs):=by
 refine Att.attach_call hn hdf fun w s₀ s₁ mg mb fa o pm cd doc a vs ns G Y ho hd hcd hmg hobj hints hlen hg=>?_
 have KX:=hY w _ Y
 obtain ⟨fd,hb,hF⟩:=F w mg fa _ KX G.T.g hmg
 exact ZoP KX G.T.g G.T.b G.T.builtins G.T.nolimit hg hobj hints (Nat.le_trans hlen hn2) hr hF hb (fun H hO hS=>hsp w H a ns hlen hO hS) fun H e s'=>hCX w H s₁ e s'
end L2
namespace L2
open PySem PySem.Spec PyProof.Rows
def ZJ (s:Stmt):Arguments:=match s with
 | .FunctionDef _ a _ _ _ _ _ _ _ _=>a
 | _=>{ posonlyargs:=[],args:=[],vararg:=none,kwonlyargs:=[],kw_defaults:=[],kwarg:=none,defaults:=[] }
def ZG (s:Stmt):List Stmt:=match s with
 | .FunctionDef _ _ b _ _ _ _ _ _ _=>b
 | _=>[]
def Zj (s:Stmt):Scope:=match s with
 | .FunctionDef _ _ _ _ _ _ sc _ _ _=>sc
 | _=>{ kind:=.function,names:=[],isGenerator:=false,isCoroutine:=false }
abbrev CX0:CXT:=fun _ _ _ _ _ _=>False
abbrev E0:XK:=fun _ _ _=>False
theorem ZL {X:Cx}:Zef CX0 X E0:=fun _ _ _ _ _ _ _ h=>h.elim
structure Fun (K:PySem.W.Frag) (x qual:Str) (st:Stmt) (f:Addr) (fd:FuncData):Prop where
 ex:∃ (oc:Value) (od:Option Addr) (kV doc pm:Value) (an:Option Addr) (cdv ct:Value) (osl:Array (Option Value)),
  fd=PySem.W.fnOf x qual (ZJ st) (ZG st) (Zj st) .none kV doc pm an cdv ct∧K.lookup f=some ⟨oc,od,.func fd,osl⟩∧PySem.W.codeIn K cdv qual=true
 kp:PySem.W.keepIn K (.ref f)=true
section
variable {P:Program} {w:World} {K:PySem.W.Frag} {mg:Str→Option Value} {base:Heap}
theorem Fun.ok {x qual:Str} {st:Stmt} {f:Addr} {fd:FuncData} {N ps:List Str} {k:Nat} {sp:Sp} (F:Fun K x qual st f fd) (S:ZI N ps (Zj st)) (len:∀ vs H Q E,sp vs H Q E→vs.length=ps.length)
  (hbody:∀ (cdv:Value) (A:Around) (outer:List Env) (s:Shared) (H:Hp) (vs:List V) (Q:VK) (E:XK),Room k (A.deeper (envOfC qual (Zj st) s.heap.objs.size f cdv))→sp vs H Q E →
   ∃ t,PSs (ZeK CX0 P w K mg base N qual (Zj st) f cdv A outer s H E).nox (ZG st) t∧t { nx:=fun _ H'=>Q .non H',rt:=Q } (ZcX N vs) H):FnOk P w K mg base CX0 (k+1) f fd ps sp:=by
 obtain ⟨oc,od,kV,doc,pm,an,cdv,ct,osl,rfl,lk,hcd⟩:=F.ex
 refine Zo9 lk hcd S len fun A outer s H vs Q E hr hsp=>?_
 obtain ⟨t,h,q⟩:=hbody cdv A outer s H vs Q E hr hsp
 exact ⟨t,h.nox,q⟩
theorem Fun.binds {x qual:Str} {st:Stmt} {f:Addr} {fd:FuncData} {ps:List Str} (F:Fun K x qual st f fd)
  (h:∀ (kV doc pm:Value) (an:Option Addr) (cdv ct:Value) (us:List Value),us.length=ps.length→bindArgs (PySem.W.fnOf x qual (ZJ st) (ZG st) (Zj st) .none kV doc pm an cdv ct) ⟨us,[]⟩=pure (ps.zip us)):Binds K fd ps []:=by
 obtain ⟨oc,od,kV,doc,pm,an,cdv,ct,osl,rfl,lk,hcd⟩:=F.ex
 exact .all (h kV doc pm an cdv ct)
theorem Z0 {x qual:Str} {st:Stmt} {f:Addr} {oc:Value} {od an:Option Addr} {osl:Array (Option Value)} {kV doc pm cdv ct:Value} (l:K.lookup f=some ⟨oc,od,.func (PySem.W.fnOf x qual (ZJ st) (ZG st) (Zj st) .none kV doc pm an cdv ct),osl⟩)
  (c:PySem.W.codeIn K cdv qual=true) (k:PySem.W.keepIn K (.ref f)=true):Fun K x qual st f (PySem.W.fnOf x qual (ZJ st) (ZG st) (Zj st) .none kV doc pm an cdv ct):=⟨⟨oc,od,kV,doc,pm,an,cdv,ct,osl,rfl,l,c⟩,k⟩
end
theorem Zno {n:Nat} (h:n≤1000):n<sizeLine:=Nat.lt_of_le_of_lt h (by decide)
section
variable {X:Cx}
end
def Same (H H':Hp):Prop:=∀ b o,H b=some o→H' b=some o
theorem Same.refl (H:Hp):Same H H:=fun _ _ h=>h
theorem Same.trans {H H1 H2:Hp} (a:Same H H1) (b:Same H1 H2):Same H H2:=fun c o h=>b c o (a c o h)
theorem Same.free {H H':Hp} (e:Same H H') {l:Addr} (h:H' l=Option.none):H l=Option.none:=by
 cases q:H l with
 | none=>rfl
 | some o =>
  rw [e l o q] at h
  cases h
theorem Same.seq {K:PySem.W.Frag} {H H':Hp} {a:Addr} {xs:List V} (e:Same H H') (h:SqL K H a xs):SqL K H' a xs:=by
 rcases h with (h | ⟨o,h⟩) | h
 ·exact .inl (.inl (e _ _ h))
 ·exact .inl (.inr ⟨o,e _ _ h⟩)
 ·exact .inr h
end L2
set_option Elab.async false
set_option linter.all false
set_option maxRecDepth 100000
set_option maxHeartbeats 4000000
namespace L2
open PySem PySem.Spec PyProof.Rows
def Zbf (env:Env):List (Str×NameKind)→List (Str×Addr)→List (Str×Addr)
 | [],cs=>cs
 | (n,k)::r,cs=>if k=NameKind.free then Zbf env r ((n,(env.cells.lookup n).getD 0)::cs) else Zbf env r cs
theorem Zjs {scope:Scope} {env:Env} (h:∀ x∈scope.names,x.2=.free→∃ c,env.cells.lookup x.1=some c) :
  closureFor scope env=pure (Zbf env scope.names []):=by
 have all:∀ (l:List (Str×NameKind)) (cs:List (Str×Addr)),(∀ x∈l,x.2=.free→∃ c,env.cells.lookup x.1=some c) →
   (forIn l cs (fun (x:Str×NameKind) (cs:List (Str×Addr))=>if (x.2==NameKind.free)=true then (do let a ← cellOf env x.1;pure (ForInStep.yield ((x.1,a)::cs))) else pure (ForInStep.yield cs)):Sem (List (Str×Addr)))=pure (Zbf env l cs):=by
  intro l
  induction l with
  | nil=>intro cs _;rfl
  | cons x l ih =>
   intro cs hx
   obtain ⟨n,k⟩:=x
   rw [List.forIn_cons]
   have hr:=fun cs=>ih cs (fun y hy=>hx y (List.mem_cons_of_mem _ hy))
   by_cases hk:k=.free
   ·subst hk
    obtain ⟨c,hc⟩:=hx (n,.free) List.mem_cons_self rfl
    have e:cellOf env n=pure c:=by unfold cellOf;simp only [hc]
    simp only [beq_self_eq_true,if_true,e,pure_bind,hr,Zbf,hc,Option.getD_some]
   ·have hb:(k==NameKind.free)=false:=by simpa using hk
    simp only [hb,Bool.false_eq_true,if_false,pure_bind,hr,Zbf,hk]
 have:=all scope.names [] h
 simp only [closureFor]
 rw [← bind_pure (pure (Zbf env scope.names []):Sem _),← this]
theorem ZgU {env:Env}:∀ (l:List (Str×NameKind)) (cs:List (Str×Addr)),(∀ x∈l,x.2=.free→∃ c,env.cells.lookup x.1=some c) →
  (∀ p∈cs,env.cells.lookup p.1=some p.2)→∀ p∈Zbf env l cs,env.cells.lookup p.1=some p.2
 | [],cs,_,h=>h
 | (n,k)::r,cs,hx,h=>by
  have hr:∀ x∈r,x.2=.free→∃ c,env.cells.lookup x.1=some c:=fun y hy=>hx y (List.mem_cons_of_mem _ hy)
  by_cases hk:k=.free
  ·subst hk
   obtain ⟨c,hc⟩:=hx (n,.free) List.mem_cons_self rfl
   simp only [Zbf,if_true]
   refine ZgU r _ hr fun p hp=>?_
   rcases List.mem_cons.mp hp with e | hp
   ·subst e;simp only [hc,Option.getD_some]
   ·exact h p hp
  ·simp only [Zbf,hk,if_false]
   exact ZgU r cs hr h
theorem ZgM {env:Env}:∀ (l:List (Str×NameKind)) (cs:List (Str×Addr)) (x:Str),((x,NameKind.free)∈l∨∃ c,(x,c)∈cs)→∃ c,(x,c)∈Zbf env l cs
 | [],cs,x,h=>by
  rcases h with h | h
  ·cases h
  ·exact h
 | (n,k)::r,cs,x,h=>by
  by_cases hk:k=.free
  ·subst hk
   simp only [Zbf,if_true]
   refine ZgM r _ x ?_
   rcases h with h | ⟨c,h⟩
   ·rcases List.mem_cons.mp h with e | h
    ·cases e;exact .inr ⟨_,List.mem_cons_self⟩
    ·exact .inl h
   ·exact .inr ⟨c,List.mem_cons_of_mem _ h⟩
  ·simp only [Zbf,hk,if_false]
   refine ZgM r cs x ?_
   rcases h with h | h
   ·rcases List.mem_cons.mp h with e | h
    ·cases e;exact absurd rfl hk
    ·exact .inl h
   ·exact .inr h
theorem Zif {β:Type}:∀ {l:List (Str×β)} {x:Str} {c:β},(x,c)∈l→∃ d,l.lookup x=some d
 | [],_,_,h=>by cases h
 | (n,b)::r,x,c,h=>by
  rw [List.lookup_cons]
  cases e:x==n with
  | true=>exact ⟨b,rfl⟩
  | false =>
   rcases List.mem_cons.mp h with z | h
   ·cases z;simp at e
   ·exact Zif h
structure ZaF (own outs:List Str) (sc osc:Scope):Prop where
 kind:sc.kind=.function
 nocell:∀ x∈sc.names,x.2≠.cell
 free:∀ x∈sc.names,x.2=.free→osc.names.lookup x.1=some .cell∨osc.names.lookup x.1=some .free
 loc:∀ x∈sc.names,x.2=.local→sc.names.lookup x.1=some .local
 out:∀ x∈outs,sc.names.lookup x=some .free
 nd:(own++outs).Nodup
theorem relabel_free {env:Env}:∀ {names:List (Str×NameKind)} {x:Str},names.lookup x=some .free →
  ((names.map fun (n,k)=>if (k==NameKind.free&&env.scope.kind==.function&&env.kindOf n==some .cell) then (n,NameKind.cell) else (n,k)).lookup x=some .cell ∨
    (names.map fun (n,k)=>if (k==NameKind.free&&env.scope.kind==.function&&env.kindOf n==some .cell) then (n,NameKind.cell) else (n,k)).lookup x=some .free)
 | [],_,h=>by simp at h
 | (n,k)::r,x,h=>by
  have ih:=@relabel_free env r x
  rw [List.map_cons]
  by_cases hc:(k==NameKind.free&&env.scope.kind==.function&&env.kindOf n==some .cell)=true
  ·rw [show (match ((n,k):Str×NameKind) with | (n,k)=>if (k==NameKind.free&&env.scope.kind==.function&&env.kindOf n==some .cell) then (n,NameKind.cell) else (n,k))=(n,NameKind.cell) from if_pos hc]
   rw [List.lookup_cons] at h ⊢
   cases hx:x==n with
   | true=>exact .inl rfl
   | false=>rw [hx] at h;exact ih h
  ·rw [show (match ((n,k):Str×NameKind) with | (n,k)=>if (k==NameKind.free&&env.scope.kind==.function&&env.kindOf n==some .cell) then (n,NameKind.cell) else (n,k))=(n,k) from if_neg hc]
   rw [List.lookup_cons] at h ⊢
   cases hx:x==n with
   | true=>rw [hx] at h;exact .inr h
   | false=>rw [hx] at h;exact ih h
theorem relabel_mem {env:Env}:∀ {names:List (Str×NameKind)} {x:Str} {k:NameKind},k=.cell∨k=.free→(∀ y∈names,y.2≠.cell) →
  (names.map fun (n,k)=>if (k==NameKind.free&&env.scope.kind==.function&&env.kindOf n==some .cell) then (n,NameKind.cell) else (n,k)).lookup x=some k→(x,NameKind.free)∈names
 | [],_,_,_,_,h=>by simp at h
 | (n,j)::r,x,k,hk,hn,h=>by
  have ih:=@relabel_mem env r x k hk fun y hy=>hn y (List.mem_cons_of_mem _ hy)
  rw [List.map_cons] at h
  by_cases hc:(j==NameKind.free&&env.scope.kind==.function&&env.kindOf n==some .cell)=true
  ·rw [show (match ((n,j):Str×NameKind) with | (n,k)=>if (k==NameKind.free&&env.scope.kind==.function&&env.kindOf n==some .cell) then (n,NameKind.cell) else (n,k))=(n,NameKind.cell) from if_pos hc] at h
   rw [List.lookup_cons] at h
   cases hx:x==n with
   | true =>
    have e:x=n:=by simpa using hx
    have ej:j=.free:=by
     simp only [Bool.and_eq_true,beq_iff_eq] at hc
     exact hc.1.1
    subst e ej
    exact List.mem_cons_self
   | false=>rw [hx] at h;exact List.mem_cons_of_mem _ (ih h)
  ·rw [show (match ((n,j):Str×NameKind) with | (n,k)=>if (k==NameKind.free&&env.scope.kind==.function&&env.kindOf n==some .cell) then (n,NameKind.cell) else (n,k))=(n,j) from if_neg hc] at h
   rw [List.lookup_cons] at h
   cases hx:x==n with
   | true =>
    rw [hx] at h
    have e:x=n:=by simpa using hx
    have ej:j=k:=Option.some.inj h
    subst e ej
    rcases hk with hk | hk
    ·exact absurd hk (hn _ List.mem_cons_self)
    ·subst hk;exact List.mem_cons_self
   | false=>rw [hx] at h;exact List.mem_cons_of_mem _ (ih h)
def cxC (X:Cx) (own outs:List Str) (scope:Scope) (C:Addr) (s2:Shared) (H2:Hp) (fp:List Addr) (pins:List (Addr×Obj)):Cx where
 prog:=X.prog
 w:=X.w
 K:=X.K
 mg:=X.mg
 base:=X.base
 A:=X.A
 N:=own++outs
 s₀:=s2
 H₀:=H2
 env:=compEnvC scope (Zbf X.env scope.names []) C X.env
 outer:=X.stack
 stack:=X.stack
 ex:=fp
 fn:=fun _=>false
 calm:=X.calm
 pn:=X.pn++pins
 xe:=fun _ _=>False
def PFs (X:Cx) (ifs:List Expr) (tt:TT):Prop :=
 ∀ (pins:List (Addr×Obj)) (s:Shared) (σ:St) (H:Hp) (Q:Bool→Hp→Prop),Inv X pins σ H s→tt σ H Q →
  wpAny (model X.prog X.w) X.A (forIn ifs true fun c r=>if r=true then do let ok ← isTrue c X.env (eval c X.env);pure (ForInStep.yield ok) else pure (ForInStep.yield r)) (TP X pins σ Q) X.xe s
def Zuo:TT:=fun _ H Q=>Q true H
theorem ZqI {X:Cx}:PFs X [] Zuo:=fun _ _ _ H _ I h=>wpAny_tests_nil ⟨H,I,h⟩
theorem Zsn {X:Cx} {c:Expr} {tt:TT} (h:PT X c tt):PFs X [c] tt:=fun pins s σ H Q I q=>wpAny_tests_one (h pins s σ H Q I q)
def ZaO (k:Nat) (oix:List Nat) (σ:St):St:=List.replicate k none++oix.map fun j=>(σ[j]?).join
def Zm8 (k:Nat) (oix:List Nat) (g:TG) (tt:TT) (te:TE) (J:It) (σ:St) (H:Hp) (Q:VK):Prop :=
 ∃ (n:Nat) (W:Nat→List V→Hp→Prop),W 0 [] H∧∀ i ys H2,W i ys H2 →
  (J.stop i H2∧ys.length≤sizeLine∧∀ p,H2 p=none→Q (.ref p) (upd H2 p (.lst ys))) ∨
  (J.go i H2∧i<n∧ys.length<sizeLine∧∃ N:List V→Hp→Prop,(∀ ys' H',N ys' H'→W (i+1) ys' H')∧∀ x H3,J.yld i H2 x H3→g x (ZaO k oix σ) H3 fun σ4 H4=>σ4.drop k=(ZaO k oix σ).drop k ∧
   tt σ4 H4 fun b H5=>if b=true then te σ4 H5 fun y H6=>N (ys++[y]) H6 else N ys H5)
def Zo1 (k:Nat) (oix:List Nat) (wi:TI) (g:TG) (tt:TT) (te:TE):TE:=fun σ H Q=>wi σ H fun J H1=>Zm8 k oix g tt te J σ H1 Q
def ZcY (its:List Value) (n:Nat):Obj:={ cls:=.type "list",data:=.seq its.toArray n }
theorem HOk.track {P:Program} {w:World} {H:Hp} {h:Heap} {a:Addr} {o:HO} (x:HOk P w H h) (hn:H a=none) (new:ObjOk P w (upd H a o) h a o):HOk P w (upd H a o) h:=fun b u e=>by
 by_cases hb:b=a
 ·subst hb;rw [Zak] at e;cases e;exact new
 ·rw [ZE hb] at e
  exact (x b u e).stay (fun c v _ q=>q) (fun c q=>by rw [ZE (Z5 q hn)];exact q) fun c xs q=>by rw [ZE (Z5 q hn)];exact q
theorem Zm7 {X:Cx} {pins:List (Addr×Obj)} {σ:St} {H2:Hp} {s2:Shared} {tg elt iter:Expr} {ifs:List Expr} {scope:Scope} {pos:Pos} {J:It} {fp:List Addr} {it:Addr} {tn:Nat→Heap→Prop}
  {own outs:List Str} {oix:List Nat} {g:TG} {tt:TT} {te:TE} {Q:VK} {E:Value→Shared→Prop} {RR:Value→Addr→Result→Shared→Prop}
  (S:ZaF own outs scope X.env.scope) (hox:oix.map (fun j=>X.N[j]?)=outs.map some) (hc:X.calm=true)
  (hg:∀ C s2 H2 fp pins,PG (cxC X own outs scope C s2 H2 fp pins) tg g)
  (ht:∀ C s2 H2 fp pins,PFs (cxC X own outs scope C s2 H2 fp pins) ifs tt)
  (he:∀ C s2 H2 fp pins,PE (cxC X own outs scope C s2 H2 fp pins) elt te)
  (I2:Inv X pins σ H2 s2) (T:Zgl X.prog X.w X.K tg J fp it tn) (st:tn 0 s2.heap) (f2:∀ b∈fp,Zeh X pins H2 b)
  (h:Zm8 own.length oix g tt te J σ H2 Q)
  (hRR:∀ (C:Addr) (s':Shared) (m:Str→Option Value) (H':Hp),s'.heap.Ns C m→Inv X pins σ H' s'→H' C=none→C≠X.env.locals→X.s₀.heap.objs.size≤C →
   (∀ x c,X.env.cells.lookup x=some c→c≠C)→(∀ p∈X.pn++pins,p.1≠C)→Q (.ref s2.heap.objs.size) H'→RR (.ref s2.heap.objs.size) C (.ok .next) s') :
  wpAny (model X.prog X.w) X.A (newList []) (fun acc s₃=>wpAny (model X.prog X.w) X.A (newFunctionEnv scope X.env.globals (Zbf X.env scope.names []) [] X.env.qual none .none (some X.env)) (fun cenv s₄ =>
   codeAny (model X.prog X.w) X.A (.compStart (.ListComp elt [⟨tg,iter,ifs,0⟩] scope pos) 0 (.ref it) acc { cenv with scope:=relabel scope X.env }) (RR acc cenv.locals) s₄) E s₃) E s2:=by
 obtain ⟨n,W,w0,turn⟩:=h
 refine wpAny_newObj_type (wpAny_newFunctionEnv S.nocell (by intro y hy;simp at hy) (fun h₁ hns₁ hsb₁=>?_) S.kind)
 dsimp only at hns₁ hsb₁ ⊢
 generalize hP:s2.heap.push { cls:=.type "list",dict:=none,data:=.seq ([]:List Value).toArray }=hp at hns₁ hsb₁ ⊢
 have hC:hp.objs.size=s2.heap.objs.size+1:=by rw [← hP,Heap.size_push]
 generalize hCC:hp.objs.size=C at hns₁ hsb₁ hC ⊢
 have hDC:s2.heap.objs.size≠C:=by rw [hC];exact Nat.ne_of_lt (Nat.lt_succ_self _)
 have hDC':s2.heap.objs.size<C:=by rw [hC];exact Nat.lt_succ_self _
 have old:∀ b o,s2.heap.get? b=some o→h₁.get? b=some o:=fun b o e =>
  hsb₁.extBut b o (Nat.ne_of_lt (Nat.lt_trans (Heap.lt_size e) hDC')) (Heap.get?_push_of_some _ (hP ▸ Heap.get?_push_of_some _ e))
 have hacc:h₁.get? s2.heap.objs.size=some (ZcY [] 0):=hsb₁.extBut _ _ hDC (Heap.get?_push_of_some _ (hP ▸ Heap.get?_push_size _ rfl))
 -- the cells of the closure are cells of the frame
 have hcells:∀ x∈scope.names,x.2=.free→∃ c,X.env.cells.lookup x.1=some c:=fun x hx hf=>I2.ok.has x.1 (S.free x hx hf)
 have clX:∀ x c,(Zbf X.env scope.names []).lookup x=some c→X.env.cells.lookup x=some c:=fun x c e =>
  ZgU scope.names [] hcells (fun p hp=>by cases hp) (x,c) (PySem.mem_of_lookup e)
 have clHas:∀ x,(x,NameKind.free)∈scope.names→∃ c,(Zbf X.env scope.names []).lookup x=some c:=fun x hx=>by
  obtain ⟨c,hc⟩:=ZgM (env:=X.env) scope.names [] x (.inl hx)
  exact Zif hc
 have fpLt:∀ b∈fp,b<s2.heap.objs.size:=fun b hb=>by
  obtain ⟨o,e,_⟩:=T.obj 0 _ st b hb
  exact Heap.lt_size e
 have cLt:∀ x c,X.env.cells.lookup x=some c→c<s2.heap.objs.size:=fun x c e=>by
  obtain ⟨v,q⟩:=I2.cell x c e
  exact q.lt
 have fpStk:∀ b∈fp,b∉frs X.stack:=fun b hb z=>by
  rcases List.mem_cons.mp (I2.stkSub b z) with e | z
  ·exact (f2 b hb).2.1 e
  ·exact (f2 b hb).2.2.1 z
 have pinLt:∀ p∈X.pn++pins,p.1<s2.heap.objs.size:=fun p hp=>Heap.lt_size (I2.pin p hp).1
 have pinStk:∀ p∈X.pn++pins,p.1∉frs X.stack:=fun p hp z=>by
  rcases List.mem_cons.mp (I2.stkSub _ z) with e | z
  ·exact (I2.pin p hp).2.2.1 e
  ·exact (I2.pin p hp).2.2.2.1 z
 have fsLt:∀ b∈frs X.stack,b<s2.heap.objs.size:=fun b hb=>by
  obtain ⟨_,o,ho,_⟩:=I2.stack.mem hb
  exact Heap.lt_size ho
 let Y:Cx:=cxC X own outs scope C s2 H2 fp pins
 have okY:Y.Ok:={
  mod:=I2.ok.mod
  kind:=S.kind
  glob:=I2.ok.glob
  blt:=I2.ok.blt
  above:=Nat.le_of_lt hDC'
  inj:=fun x y c h1 h2=>I2.ok.inj x y c (clX x c h1) (clX y c h2)
  has:=fun x hx=>by
   refine clHas x ?_
   rcases hx with hx | hx
   ·exact relabel_mem (env:=X.env) (.inl rfl) S.nocell hx
   ·exact relabel_mem (env:=X.env) (.inr rfl) S.nocell hx
  cab:=fun x c hf _=>absurd (show false=true from hf) Bool.false_ne_true
  hd:=I2.ok.hd
  frames:=I2.ok.frames
  stk:=.inl rfl
  exf:=fun b hb=>⟨Nat.ne_of_lt (Nat.lt_trans (fpLt b hb) hDC'),fun x c e=>(f2 b hb).2.2.2.2.1 x c (clX x c e)⟩
  bs:=I2.bs
  bsz:=Nat.le_trans I2.ok.bsz I2.sz
  noex:=fun b o e hb=>by
   rcases (f2 b hb).2.2.2.1 with z | z
   ·exact I2.ok.noex b o e z
   ·exact absurd (Nat.lt_of_lt_of_le (Heap.lt_size e) (Nat.le_trans I2.ok.bsz z)) (Nat.lt_irrefl _)
  exfs:=fpStk
  funs:=I2.stack
  frf:=I2.stkFree }
 have hCH:∀ H':Hp,HOk X.prog X.w H' h₁→True:=fun _ _=>trivial
 have lenS:(ZaO own.length oix σ).length=Y.N.length:=by
  have e:=congrArg List.length hox
  simp only [List.length_map] at e
  show (List.replicate own.length none++oix.map _).length=(own++outs).length
  rw [List.length_append,List.length_append,List.length_replicate,List.length_map,e]
 have I4:Inv Y [(s2.heap.objs.size,ZcY [] 0)] (ZaO own.length oix σ) H2 { s2 with heap:=h₁ }:={
  ok:=okY
  os:=rfl
  bare:=I2.bare
  base:=Un.kept old
  loc:=by
   refine ⟨_,hns₁,fun i x v e1 e2 e3=>?_⟩
   -- an outer name
   have hi:own.length≤i:=by
    apply Nat.le_of_not_lt
    intro hlt
    unfold ZaO at e2
    rw [List.getElem?_append_left (by rw [List.length_replicate];exact hlt),List.getElem?_replicate] at e2
    rw [if_pos hlt] at e2
    cases e2
   unfold ZaO at e2
   rw [List.getElem?_append_right (by rw [List.length_replicate];exact hi),List.length_replicate,List.getElem?_map] at e2
   have e1':outs[i-own.length]?=some x:=by
    have e1:(own++outs)[i]?=some x:=e1
    rwa [List.getElem?_append_right hi] at e1
   cases ej:oix[i-own.length]? with
   | none=>rw [ej] at e2;cases e2
   | some j =>
    rw [ej] at e2
    have e2':(σ[j]?).join=some v:=Option.some.inj e2
    have e2'':σ[j]?=some (some v):=by
     cases eσ:σ[j]? with
     | none=>rw [eσ] at e2';cases e2'
     | some z=>rw [eσ] at e2';exact congrArg some e2'
    have eN:X.N[j]?=some x:=by
     have q:=congrArg (fun l=>l[i-own.length]?) hox
     simp only [List.getElem?_map,ej,e1',Option.map_some] at q
     exact Option.some.inj q
    have hfree:scope.names.lookup x=some .free:=S.out x (List.mem_of_getElem? e1')
    have hmem:(x,NameKind.free)∈scope.names:=PySem.mem_of_lookup hfree
    have hk:X.env.scope.names.lookup x=some .cell∨X.env.scope.names.lookup x=some .free:=S.free (x,.free) hmem rfl
    obtain ⟨m,hn,hl⟩:=I2.loc
    obtain ⟨u,r,l⟩:=hl j x v eN e2'' (by rcases hk with hk | hk;exact .inr (.inl hk);exact .inr (.inr hk))
    refine ⟨u,r,.inr ⟨relabel_free (env:=X.env) hfree,?_⟩⟩
    obtain ⟨c,ec⟩:=clHas x hmem
    refine ⟨c,ec,?_⟩
    have ec':=clX x c ec
    rcases l with ⟨k,_⟩ | ⟨_,c',e',o,ho,hd⟩
    ·rcases hk with hk | hk
     ·exact absurd (k.symm.trans hk) (by decide)
     ·exact absurd (k.symm.trans hk) (by decide)
    ·rw [ec'] at e'
     cases e'
     exact ⟨o,old _ _ ho,hd⟩
  cell:=fun x c e=>by
   obtain ⟨v,o,ho,hd⟩:=I2.cell x c (clX x c e)
   exact ⟨v,o,old _ _ ho,hd⟩
  free:=I2.hok.fresh (Nat.le_of_lt hDC')
  freeC:=fun x c e=>I2.freeC x c (clX x c e)
  pin:=fun p hp=>by
   rcases List.mem_append.mp hp with hp | hp
   ·obtain ⟨e,n,_,_,d⟩:=I2.pin p hp
    exact ⟨old _ _ e,n,Nat.ne_of_lt (Nat.lt_trans (pinLt p hp) hDC'),pinStk p hp,d⟩
   ·have e:p=(s2.heap.objs.size,ZcY [] 0):=by simpa using hp
    subst e
    refine ⟨hacc,I2.hok.fresh (Nat.le_refl _),hDC,fun z=>absurd (fsLt _ z) (Nat.lt_irrefl _),fun v z=>?_⟩
    have z':Data.seq _ _=Data.cell v:=z
    cases z'
  hok:=I2.hok.kept old
  len:=lenS }
 -- what stays of the iterator's records
 have fpY:∀ {H':Hp} {its:List Value} {k:Nat},(∀ b∈fp,H' b=none)→∀ b∈fp,Zeh Y [(s2.heap.objs.size,ZcY its k)] H' b:=fun {H' its k} hn b hb=>by
  refine ⟨hn b hb,Nat.ne_of_lt (Nat.lt_trans (fpLt b hb) hDC'),fpStk b hb,.inl hb,fun x c e=>(f2 b hb).2.2.2.2.1 x c (clX x c e),fun p hp=>?_⟩
  rcases List.mem_append.mp hp with hp | hp
  ·exact (f2 b hb).2.2.2.2.2 p hp
  ·have e:p=(s2.heap.objs.size,ZcY its k):=by simpa using hp
   subst e
   exact Nat.ne_of_gt (fpLt b hb)
 -- the end
 have fin:∀ (i:Nat) (ys:List V) (its:List Value) (k:Nat) (H':Hp) (s':Shared),Inv Y [(s2.heap.objs.size,ZcY its k)] (ZaO own.length oix σ) H' s'→Vals ys its→ys.length≤sizeLine →
   Q (.ref s2.heap.objs.size) (upd H' s2.heap.objs.size (.lst ys))→RR (.ref s2.heap.objs.size) C (.ok .next) s':=fun i ys its k H' s' I' rv hz q=>by
  obtain ⟨m,hn,_⟩:=I'.loc
  obtain ⟨eD,nD,_⟩:=I'.pin (s2.heap.objs.size,ZcY its k) (List.mem_append_right _ (by simp))
  have un:Un (frs X.stack) fp H2 H' s2.heap s'.heap:=I'.base
  have neD:∀ b o,s2.heap.get? b=some o→b≠s2.heap.objs.size:=fun b o e=>Nat.ne_of_lt (Heap.lt_size e)
  have neH:∀ b o,H2 b=some o→b≠s2.heap.objs.size:=fun b o e=>Nat.ne_of_lt (I2.hok.lt e)
  have un':Un (frs X.stack) fp H2 (upd H' s2.heap.objs.size (.lst ys)) s2.heap s'.heap :=
   ⟨un.keep,un.slot,fun b o e n hx=>by rw [ZE (neD b o e)];exact un.free b o e n hx,un.there,fun b xs e=>by rw [ZE (neH b _ e)];exact un.tups b xs e,
    fun b o u e=>by rw [ZE (neH b _ e)];exact un.frzs b o u e,fun b ps e=>by rw [ZE (neH b _ e)];exact un.tbls b ps e⟩
  have hok':HOk X.prog X.w (upd H' s2.heap.objs.size (.lst ys)) s'.heap:=HOk.track I'.hok nD ⟨hz,its,k,rv,eD⟩
  have IX:Inv X pins σ (upd H' s2.heap.objs.size (.lst ys)) s':=I2.call' (ch:=fp) I'.os un' hok' I'.bare fun b hb=>⟨(f2 b hb).2.2.2.1,(f2 b hb).2.1,(f2 b hb).2.2.2.2.1,(f2 b hb).2.2.2.2.2⟩
  refine hRR C s' m _ hn IX ?_ ?_ ?_ ?_ ?_ q
  ·rw [ZE (Ne.symm hDC)];exact I'.free
  ·exact Nat.ne_of_gt (Nat.lt_trans I2.lt hDC')
  ·exact Nat.le_trans I2.sz (Nat.le_of_lt hDC')
  ·exact fun x c e=>Nat.ne_of_lt (Nat.lt_trans (cLt x c e) hDC')
  ·exact fun p hp=>Nat.ne_of_lt (Nat.lt_trans (pinLt p hp) hDC')
 have loop:codeAny (model X.prog X.w) X.A (.compLoop (.ListComp elt [⟨tg,iter,ifs,0⟩] scope pos) 0 (.ref it) (.ref s2.heap.objs.size) Y.env) (RR (.ref s2.heap.objs.size) C) { s2 with heap:=h₁ }:=by
  refine codeAny_loop rfl (fun k s'=>∃ (i:Nat) (ys:List V) (its:List Value) (c:Nat) (H':Hp),Inv Y [(s2.heap.objs.size,ZcY its c)] (ZaO own.length oix σ) H' s'∧Vals ys its∧tn i s'.heap∧(∀ b∈fp,H' b=none)∧W i ys H'∧k=n-i) (fun k s' hI=>?_) n
   ⟨0,[],[],0,H2,I4,.nil,T.keep 0 _ _ st fun b _ o e=>old b o e,fun b hb=>(f2 b hb).1,w0,rfl⟩
  show wpAny _ X.A ((compTurn (.ListComp elt [⟨tg,iter,ifs,0⟩] scope pos) 0 (.ref it) (.ref s2.heap.objs.size) Y.env).onRaise (fun x=>do noteFrame x Y.env;theTreesLotGoes x)) _ _ s'
  refine wpAny_noted ?_
  rw [compTurn_list]
  obtain ⟨i,ys,its,c,H',I',rv,st',fr',w',ek⟩:=hI
  rcases turn i ys H' w' with ⟨stop,hz,q⟩ | ⟨go,hin,hz,N,hN,step⟩
  ·refine wpAny_bind (wpAny_standAt (wpAny_bind (thn (T.done Y rfl rfl rfl hc i _ s' _ H' _ I' (fpY fr') st' stop) fun r s1 ⟨hr,I1⟩=>?_)))
   subst hr
   obtain ⟨_,nD,_⟩:=I1.pin (s2.heap.objs.size,ZcY its c) (List.mem_append_right _ (by simp))
   exact wpAny_pure (fin i ys its c H' s1 I1 rv hz (q _ nD))
  ·refine wpAny_bind (wpAny_standAt (wpAny_bind (thn (T.item Y rfl rfl rfl hc i _ s' _ H' _ I' (fpY fr') st' go) fun r s1 ⟨u,hr,h1⟩=>?_)))
   subst hr
   refine wpAny_bind (thn h1 fun _ s5 ⟨x,H5,I5,r5,y5,st5,fr5⟩=>?_)
   have I5':=I5.pinned (fpY fr5) (T.obj _ _ st5)
   refine wpAny_bind (wpAny_noRaise (thn (hg C s2 H2 fp pins _ s5 _ H5 x u _ I5' r5 (step x H5 y5)) fun _ s6 ⟨σ6,H6,I6,dr6,q6⟩=>?_))
   refine wpAny_bind (wpAny_noRaise (thn (ht C s2 H2 fp pins _ s6 σ6 H6 _ I6 q6) fun ok s7 ⟨H7,I7,q7⟩=>?_))
   -- back to the begin of a turn
   have back:∀ {H8:Hp} {s8:Shared} {its8:List Value} {c8:Nat},Inv Y ([(s2.heap.objs.size,ZcY its8 c8)]++Zeq fp s5.heap) σ6 H8 s8 →
     Inv Y [(s2.heap.objs.size,ZcY its8 c8)] (ZaO own.length oix σ) H8 s8∧tn (i+1) s8.heap∧∀ b∈fp,H8 b=none:=fun {H8 s8 its8 c8} I8=>by
    refine ⟨I8.unpinned.weak ?_ fun j v e=>?_,T.keep _ _ _ st5 fun b hb o e=>(I8.pin (b,o) (List.mem_append_right _ (List.mem_append_right _ (ZdY hb e)))).1,fun b hb=>?_⟩
    ·exact lenS.trans I8.len.symm
    ·have hj:own.length≤j:=by
      apply Nat.le_of_not_lt
      intro hlt
      unfold ZaO at e
      rw [List.getElem?_append_left (by rw [List.length_replicate];exact hlt),List.getElem?_replicate] at e
      rw [if_pos hlt] at e
      cases e
     have e':=congrArg (fun l=>l[j-own.length]?) dr6
     simp only [List.getElem?_drop] at e'
     rw [show own.length+(j-own.length)=j by omega] at e'
     exact e'.trans e
    ·obtain ⟨o,e,d⟩:=T.obj _ _ st5 b hb
     exact (I8.pin (b,o) (List.mem_append_right _ (List.mem_append_right _ (ZdY hb e)))).2.1
   cases ok with
   | false =>
    obtain ⟨I8,st8,fr8⟩:=back I7
    exact wpAny_pure ⟨rfl,n-(i+1),by omega,i+1,ys,its,c,H7,I8,rv,st8,fr8,hN _ _ q7,rfl⟩
   | true =>
    refine wpAny_bind (wpAny_bind (wpAny_noRaise (thn (he C s2 H2 fp pins _ s7 σ6 H7 _ I7 q7) fun y s8 ⟨z,H8,I8,r8,w8⟩=>?_)))
    obtain ⟨eD,nD,neL,nF,dD⟩:=I8.pin (s2.heap.objs.size,ZcY its c) (List.mem_append_right _ (List.mem_append_left _ (by simp)))
    have hl:=rv.length
    refine wpAny_bind (call_meets F.slot_list_append ⟨_,eD,rfl⟩ F.entry_list_append (F.args_list_append_2 _ _) (PySem.list_append _ its.toArray c y (by rw [List.size_toArray];omega)) ⟨eD,?_⟩)
    obtain ⟨n',q⟩:∃ n',(s8.heap.update s2.heap.objs.size (Obj.mapSeq (·.push y))).get? s2.heap.objs.size=some (ZcY (its++[y]) n'):=by
     have q:=PySem.IsL.update eD (·.push y)
     rw [show its.toArray.push y=(its++[y]).toArray by simp] at q
     exact ⟨_,q⟩
    have I9:Inv Y (Zeq fp s5.heap) σ6 H8 { s8 with heap:=s8.heap.update s2.heap.objs.size (Obj.mapSeq (·.push y)) } :=
     (I8.pins_of fun p hp=>I8.pin p (List.mem_append_right _ (List.mem_append_right _ hp))).turned (t':=s8.toks) (it:=s2.heap.objs.size) (fun b o hb e=>(Heap.get?_update_other _ _ (Ne.symm hb)).trans e) nD hDC (.inr (Nat.le_refl _))
      (fun x c' e=>Nat.ne_of_lt (cLt x c' (clX x c' e))) fun p hp=>by
       rcases List.mem_append.mp hp with hp | hp
       ·exact Nat.ne_of_lt (pinLt p hp)
       ·exact Nat.ne_of_lt (fpLt _ (ZiW hp).1)
    have I10:Inv Y ([(s2.heap.objs.size,ZcY (its++[y]) n')]++Zeq fp s5.heap) σ6 H8 { s8 with heap:=s8.heap.update s2.heap.objs.size (Obj.mapSeq (·.push y)) }:=I9.pins_of fun p hp=>by
     rcases List.mem_append.mp hp with hp | hp
     ·have e:p=(s2.heap.objs.size,ZcY (its++[y]) n'):=by simpa using hp
      subst e
      exact ⟨q,nD,neL,nF,fun v z=>by
       have z':Data.seq _ _=Data.cell v:=z
       cases z'⟩
     ·exact I9.pin p (List.mem_append_right _ hp)
    obtain ⟨I11,st11,fr11⟩:=back I10
    exact wpAny_pure (wpAny_pure ⟨rfl,n-(i+1),by omega,i+1,ys++[z],its++[y],_,H8,I11,rv.append (.cons r8 .nil),st11,fr11,hN _ _ w8,rfl⟩)
 exact codeAny_compStart_list loop (T.self _ 0 _ _ _ (T.keep 0 _ _ st fun b _ o e=>old b o e) loop)
section
variable {X:Cx} {tg elt iter:Expr} {ifs:List Expr} {scope:Scope} {pos:Pos} {oix:List Nat} {wi:TI} {g:TG} {tt:TT} {te:TE}
theorem Zpe (own outs:List Str) (oix:List Nat) (S:ZaF own outs scope X.env.scope) (hox:oix.map (fun j=>X.N[j]?)=outs.map some) (hc:X.calm=true) (hi:PI X tg iter wi)
  (hg:∀ C s2 H2 fp pins,PG (cxC X own outs scope C s2 H2 fp pins) tg g)
  (ht:∀ C s2 H2 fp pins,PFs (cxC X own outs scope C s2 H2 fp pins) ifs tt)
  (he:∀ C s2 H2 fp pins,PE (cxC X own outs scope C s2 H2 fp pins) elt te)
  (hs:∀ x,foldedSetIterable iter X.env x=pure x:=by intro _;rfl) :
  PE X (.ListComp elt [⟨tg,iter,ifs,0⟩] scope pos) (Zo1 own.length oix wi g tt te):=by
 intro pins s σ H Q I h
 rw [eval_ListComp]
 refine wpAny_comprehension_free (use:=none) rfl hs (Zjs fun x hx hf=>I.ok.has x.1 (S.free x hx hf)) S.kind S.loc (thn (hi pins s σ H _ I h) fun xv s₁ h₁=>thn h₁ fun itv s₂ h₂=>?_)
 obtain ⟨it,fp,tn,J,H2,e,I2,T,st2,f2,turns⟩:=h₂
 subst e
 refine Zm7 (RR:=fun acc C=>compPost (model X.prog X.w) X.A X.xe none (EP X pins σ Q) acc C) S hox hc hg ht he I2 T st2 f2 turns ?_
 intro C s' m H' hn I' hC hL h0 hcell hpin q
 exact ⟨m,hn,fun h' hs'=>⟨.ref _,H',I'.turned (h':=h') (t':=s'.toks) (it:=C) (fun b o hb e=>hs'.extBut b o hb e) hC hL (.inr h0) hcell hpin,rfl,q⟩⟩
end
section
variable {K:PySem.W.Frag} {k:Nat} {oix:List Nat} {g:TG} {tt:TT} {te:TE} {σ:St} {H:Hp} {Q:VK}
end
def Its (x:Str):It:=⟨fun i _=>i<x.cps.size,fun i H v H'=>H'=H∧∃ c,x.cps[i]?=some c∧v=.str ⟨#[c]⟩,fun i _=>x.cps.size≤i⟩
theorem Zmo {P:Program} {w:World} {K:PySem.W.Frag} {tg:Expr} (it:Addr) (x:Str) (t:Tok):Zgl P w K tg (Its x) [it] it (fun i h=>h.IsStrIter it "str_ascii_iterator" x t i) where
 mem:=by simp
 obj:=fun i h st b hb=>by
  have e:b=it:=by simpa using hb
  subst e
  obtain ⟨o,e,c,d⟩:=st
  exact ⟨o,e,fun v z=>by rw [d] at z;cases z⟩
 keep:=fun i h h' st k=>by
  obtain ⟨o,e,r⟩:=st
  exact ⟨o,k it (by simp) o e,r⟩
 item:=by
  intro X hP hw hK hc i pins s σ H E I hf st hg
  subst hP hw hK
  obtain ⟨f0,f1,f2,f3,f4,f5⟩:=hf it (by simp)
  have hg':i<x.cps.size:=hg
  refine wpAny_pyNext_ascii_item st (c:=x.cps[i]) (by simp [hg']) fun h' st' sb=>?_
  have I1:Inv X pins σ H { s with heap:=h',toks:=s.toks+1 }:=I.turned (t':=s.toks+1) (fun b o hb e=>(sb.2 b hb).trans e) f0 f1 f3 f4 f5
  obtain ⟨o,e,c,d⟩:=id st'
  exact ⟨_,rfl,ZhY (s:={ s with heap:=h',toks:=s.toks+1 }) e c d (by decide) ⟨.str ⟨#[x.cps[i]]⟩,H,I1,⟨_,rfl⟩,⟨rfl,_,by simp [hg'],rfl⟩,st',fun b hb=>(hf b hb).1⟩⟩
 done:=by
  intro X hP hw hK hc i pins s σ H E I hf st hg
  subst hP hw hK
  obtain ⟨f0,f1,f2,f3,f4,f5⟩:=hf it (by simp)
  have hg':x.cps.size≤i:=hg
  exact wpAny_pyNext_ascii_end (I.ok.hd hc) st (by simp [hg']) fun h' eb=>⟨rfl,I.turned (t':=s.toks) (fun b o hb e=>eb b o hb e) f0 f1 f3 f4 f5⟩
 self:=fun _ _ _ _ _ st h=>wpAny_pyIter_striter_ascii st h
theorem Znz {P:Program} {w:World} {K:PySem.W.Frag} {tg:Expr} (it:Addr) (x:Str) (t:Tok):Zgl P w K tg (Its x) [it] it (fun i h=>h.IsStrIter it "str_iterator" x t i) where
 mem:=by simp
 obj:=fun i h st b hb=>by
  have e:b=it:=by simpa using hb
  subst e
  obtain ⟨o,e,c,d⟩:=st
  exact ⟨o,e,fun v z=>by rw [d] at z;cases z⟩
 keep:=fun i h h' st k=>by
  obtain ⟨o,e,r⟩:=st
  exact ⟨o,k it (by simp) o e,r⟩
 item:=by
  intro X hP hw hK hc i pins s σ H E I hf st hg
  subst hP hw hK
  obtain ⟨f0,f1,f2,f3,f4,f5⟩:=hf it (by simp)
  have hg':i<x.cps.size:=hg
  refine wpAny_pyNext_wide_item st (c:=x.cps[i]) (by simp [hg']) fun h' st' sb=>?_
  have I1:Inv X pins σ H { s with heap:=h',toks:=s.toks+1 }:=I.turned (t':=s.toks+1) (fun b o hb e=>(sb.2 b hb).trans e) f0 f1 f3 f4 f5
  obtain ⟨o,e,c,d⟩:=id st'
  exact ⟨_,rfl,ZhY (s:={ s with heap:=h',toks:=s.toks+1 }) e c d (by decide) ⟨.str ⟨#[x.cps[i]]⟩,H,I1,⟨_,rfl⟩,⟨rfl,_,by simp [hg'],rfl⟩,st',fun b hb=>(hf b hb).1⟩⟩
 done:=by
  intro X hP hw hK hc i pins s σ H E I hf st hg
  subst hP hw hK
  obtain ⟨f0,f1,f2,f3,f4,f5⟩:=hf it (by simp)
  have hg':x.cps.size≤i:=hg
  exact wpAny_pyNext_wide_end (I.ok.hd hc) st (by simp [hg']) fun h' eb=>⟨rfl,I.turned (t':=s.toks) (fun b o hb e=>eb b o hb e) f0 f1 f3 f4 f5⟩
 self:=fun _ _ _ _ _ st h=>wpAny_pyIter_striter_wide st h
section
variable {X:Cx} {tg:Expr}
def ZuE (tl:TE):TI:=fun σ H R=>tl σ H fun v H1=>∃ x,v=.str x∧R (Its x) H1
theorem Zsh {l:Expr} {tl:TE} (hl:PE X l tl):PI X tg l (ZuE tl):=by
 intro pins s σ H R I h
 refine thn (hl pins s σ H _ I h) fun v s1 ⟨y,H1,I1,r1,q1⟩=>?_
 obtain ⟨x,e,q⟩:=q1
 subst e
 obtain ⟨t,rfl⟩:=r1
 have fp:∀ {o:Obj} (b:Addr),b∈[s1.heap.objs.size]→Zeh X pins H1 b:=fun {o} b hb=>by
  have e:b=s1.heap.objs.size:=by simpa using hb
  subst e
  exact I1.fpOk (Nat.le_refl _) (I1.hok.fresh (Nat.le_refl _))
 cases ha:x.cps.all (·<128)
 ·exact wpAny_pyIter_wide ha ⟨s1.heap.objs.size,[s1.heap.objs.size],_,_,H1,rfl,I1.kept (t':=s1.toks) fun b o e=>Heap.get?_push_of_some _ e,Znz _ x t,⟨_,Heap.get?_push_size _ rfl,rfl,rfl⟩,fp (o:=default),q⟩
 ·exact wpAny_pyIter_ascii ha ⟨s1.heap.objs.size,[s1.heap.objs.size],_,_,H1,rfl,I1.kept (t':=s1.toks) fun b o e=>Heap.get?_push_of_some _ e,Zmo _ x t,⟨_,Heap.get?_push_size _ rfl,rfl,rfl⟩,fp (o:=default),q⟩
end
end L2
set_option Elab.async false
set_option linter.all false
set_option maxRecDepth 100000
set_option maxHeartbeats 4000000
namespace L2
open PySem PySem.Spec PyProof.Rows
section
variable {X:Cx}
end
section
variable {X:Cx}
def Zuy:V→Option Int→Option Int→Hp→VK→Prop:=fun x lo hi H Q=>∃ z,x=.str z∧z.length≤sizeLine∧Q (.str (Txt.slice z lo hi)) H
theorem Zse:SlR X Zuy:=by
 intro pins s σ H x v vl vu lo hi sl Q I rx hs pl pu h
 obtain ⟨z,rfl,hz,q⟩:=h
 obtain ⟨t,rfl⟩:=rx
 refine ⟨"str",_,PySem.F.slot_str_getitem.lookup,typeIs_str s z t,?_⟩
 cases pl with
 | none =>
  cases pu with
  | none=>exact wpAny_getItem_str_slice (l:=none) (u:=none) (st:=none) hs rfl (post_val_or_str ⟨Nat.le_trans (Txt.slice_le z _ _) hz,fun t' k=>⟨.str (Txt.slice z none none),H,I.tok _,⟨_,rfl⟩,q⟩⟩)
  | int j uj=>exact wpAny_getItem_str_slice (l:=none) (u:=some (j,uj)) (st:=none) hs rfl (post_val_or_str ⟨Nat.le_trans (Txt.slice_le z _ _) hz,fun t' k=>⟨.str (Txt.slice z none (some j)),H,I.tok _,⟨_,rfl⟩,q⟩⟩)
 | int i ui =>
  cases pu with
  | none=>exact wpAny_getItem_str_slice (l:=some (i,ui)) (u:=none) (st:=none) hs rfl (post_val_or_str ⟨Nat.le_trans (Txt.slice_le z _ _) hz,fun t' k=>⟨.str (Txt.slice z (some i) none),H,I.tok _,⟨_,rfl⟩,q⟩⟩)
  | int j uj=>exact wpAny_getItem_str_slice (l:=some (i,ui)) (u:=some (j,uj)) (st:=none) hs rfl (post_val_or_str ⟨Nat.le_trans (Txt.slice_le z _ _) hz,fun t' k=>⟨.str (Txt.slice z (some i) (some j)),H,I.tok _,⟨_,rfl⟩,q⟩⟩)
end
theorem Zhp {bs:List Bool}:∀ {us:List Value},Vals (bs.map V.bl) us→LSm.BoolsAre us bs:=by
 induction bs with
 | nil=>intro us r;rw [List.map_nil] at r;cases r;exact .nil
 | cons n ns ih =>
  intro us r
  rw [List.map_cons] at r
  cases r with
  | cons r1 r2 =>
   have e:_=Value.bool n:=r1
   subst e
   exact .cons n (ih r2)
section
variable {X:Cx}
theorem Zep (hc:X.calm=true):CallR X (.builtin "all") (fun xs H Q=>∃ (a:Addr) (bs:List Bool),xs=[.ref a]∧SqL X.K H a (bs.map V.bl)∧Q (.bl (bs.all id)) H):=by
 intro pins s σ H xs us Q I r h
 obtain ⟨a,bs,rfl,hq,q⟩:=h
 obtain ⟨u,rfl,ru⟩:=Zd6 r
 cases ru
 obtain ⟨its,rv,pl,hz⟩:=I.list hq
 have hb:=Zhp rv
 have hl:=pl.isList
 have hlt:a<s.heap.objs.size:=by obtain ⟨_,e,_⟩:=hl;exact Heap.lt_size e
 refine call_all_walk (wpAny_pyIter_list hl ?_)
 refine ⟨s.heap.objs.size,[s.heap.objs.size,a],[s.heap.objs.size],its.toArray.size,_,_,fun i=>(bs[i]?).getD true,rfl,Walks.list (A:=X.A.in1) (I.ok.hd hc) _ a (Nat.ne_of_lt hlt) its.toArray,
  ⟨⟨_,Heap.get?_push_size _ rfl,rfl,rfl⟩,hl.push _⟩,fun i v s' Q' E' hP hQ=>?_,fun h' tk hk=>⟨.bl _,H,I.kept (LSm.kept_iter hk),rfl,?_⟩⟩
 ·obtain ⟨b,e,rfl⟩:=hb.get i v (by simpa using hP)
  simp only [e,Option.getD_some] at hQ
  exact wpAny_truthy_bool hQ
 ·have e:((List.range its.toArray.size).all fun i=>(bs[i]?).getD true)=bs.all id:=by
   rw [List.size_toArray,hb.length];exact LSm.range_all bs
  rw [e]
  exact q
end
section
open PySem.SeqAt
inductive ZeJ (A:Around) (s:Shared):List Value→List Value→Bool→Prop where
 | nn:ZeJ A s [] [] false
 | nc {w ws}:ZeJ A s [] (w::ws) true
 | cn {v vs}:ZeJ A s (v::vs) [] false
 | eq {v w vs ws b}:EqAt A s v w true→ZeJ A s vs ws b→ZeJ A s (v::vs) (w::ws) b
 | ne {v w vs ws b}:EqAt A s v w false→(∀ (prog:Program) (wo:World) (E Q:Value→Shared→Prop),Q (.bool b) s→wpAny (model prog wo) A (richCompare .Lt v w) Q E s)→ZeJ A s (v::vs) (w::ws) b
end
section
open PySem.SeqAt
open PySem.AutoSeq1 (wpAny_loadPart')
open PySem.MeetsSeq PySem.MeetsSeq2 PySem.MeetsSeq3
theorem Zk4 (l b:Addr) (items items2:Array Value) (n n2:Nat) (dd dd2:Option Addr) (sl sl2:Array (Option Value)) (r:Bool) :
  Meets (Builtin.«tuple.__lt__» ⟨[.ref l,.ref b],[]⟩)
   (fun A R s=>s.heap.get? l=some { cls:=.type "tuple",dict:=dd,data:=.seq items n,slots:=sl }∧s.heap.get? b=some { cls:=.type "tuple",dict:=dd2,data:=.seq items2 n2,slots:=sl2 } ∧
    ZeJ A.in1 s items.toList items2.toList r∧R (.ok (.ret (.bool r))) s) :=
 .of_wp fun prog w A R s h=>by
  obtain ⟨hp,g,d,tk,os⟩:=s;obtain ⟨hl,hb,hlt,h⟩:=h
  have f2:=AutoSeq1.sub_tuple_tuple
  wp_walk using wpAny_loadPart' hl,wpAny_loadPart' hb,wpAny_forIn_list _ (fun rest b s'=>b.1=none∧s'=⟨hp,g,d,tk,os⟩∧∃ (vs ws:List Value),rest=vs.zip ws ∧
   ZeJ A.in1 ⟨hp,g,d,tk,os⟩ vs ws r∧vs.length+items2.size=ws.length+items.size) _
  case turn =>
   rintro ⟨y,x⟩ rest b s' ⟨hb',rfl,vs,ws,hz,hlt',hlen⟩
   cases hlt' with
   | nn=>rw [List.zip_nil_left] at hz;cases hz
   | nc=>rw [List.zip_nil_left] at hz;cases hz
   | cn=>rw [List.zip_nil_right] at hz;cases hz
   | eq he hr =>
    rw [List.zip_cons_cons] at hz
    injection hz with hyx hrest
    injection hyx with hy hx
    subst hy hx
    simp only [List.length_cons] at hlen
    refine wpAny_bind (he prog w _ _ ?_)
    wp_walk
    exact ⟨rfl,rfl,_,_,hrest,hr,by omega⟩
   | ne he hr =>
    rw [List.zip_cons_cons] at hz
    injection hz with hyx hrest
    injection hyx with hy hx
    subst hy hx
    refine wpAny_bind (he prog w _ _ ?_)
    have hri:=hr prog w
    wp_walk using hri
    exact ⟨_,rfl,by simpa using h⟩
  case fin =>
   rintro ⟨b1,b2⟩ s' ⟨hb',rfl,vs,ws,hz,hlt',hlen⟩
   simp only at hb'
   subst hb'
   have hv:r=decide (items.size<items2.size):=by
    cases hlt' with
    | nn =>
     simp only [List.length_nil] at hlen
     exact (decide_eq_false (by omega)).symm
    | nc =>
     simp only [List.length_nil,List.length_cons] at hlen
     exact (decide_eq_true (by omega)).symm
    | cn =>
     simp only [List.length_nil,List.length_cons] at hlen
     exact (decide_eq_false (by omega)).symm
    | eq _ _=>rw [List.zip_cons_cons] at hz;cases hz
    | ne _ _=>rw [List.zip_cons_cons] at hz;cases hz
   rw [hv] at h
   wp_walk
   exact ⟨_,rfl,by simpa [Builtin.Tuple.tupleCompareSizes] using h⟩
  case h =>
   exact ⟨rfl,rfl,items.toList,items2.toList,rfl,hlt,by simp;omega⟩
end
section
variable {prog:Program} {w:World} {A:Around} {E:Value→Shared→Prop} {s:Shared}
theorem Zn7 {l b:Addr} {items items2:Array Value} {r:Bool} {Q:Value→Shared→Prop} (hl:IsTup s.heap l items) (hb:IsTup s.heap b items2) (hr:ZeJ A.in1 s items.toList items2.toList r)
  (hu:A.units<cLine) (h:Q (.bool r) s):wpAny (model prog w) A (richCompare .Lt (.ref l) (.ref b)) Q E s:=by
 obtain ⟨⟨cls,dd,data,sl⟩,ho,hc,n,hd⟩:=id hl
 obtain ⟨⟨cls2,dd2,data2,sl2⟩,ho2,hc2,n2,hd2⟩:=id hb
 simp only at hc hd hc2 hd2
 subst hc hd hc2 hd2
 exact richCompare_meets_room (op:=.Lt) ⟨_,ho,rfl⟩ ⟨_,ho2,rfl⟩ PySem.F.slot_tuple_lt PySem.F.entry_tuple_lt (PySem.F.args_tuple_lt_2 _ _) (Zk4 l b items items2 n n2 dd dd2 sl sl2 r)
  ⟨ho,ho2,hr,show Value.bool r≠Value.notImplemented∧Q (.bool r) s from ⟨(fun x=>nomatch x),h⟩⟩ hu
end
def ltS:V→V→Option Bool
 | .int i,.int j=>some (decide (i<j))
 | .str a,.str b=>some (decide (a.cps.toList<b.cps.toList))
 | _,_=>none
def ltL:List V→List V→Option Bool
 | [],[]=>some false
 | [],_::_=>some true
 | _::_,[]=>some false
 | x::xs,y::ys=>if (Zo2 x&&Zo2 y)=true then (if eqV x y=true then ltL xs ys else ltS x y) else none
section
variable {X:Cx}
end
theorem ZbI (x:Str):x.cps.toList.length=x.length:=by simp [Str.length]
def ZjG (K:PySem.W.Frag):Sp:=fun vs H Q _=>∃ (a:Addr) (ns:List Int),vs=[.ref a]∧SqL K H a (ns.map V.int)∧ns.length≤63∧∀ H',Q (.bl true) H'
section
variable {X:Cx}
end
section
variable {X:Cx}
end
theorem Zoa {H:Hp} {p:Addr} {o:HO} (h:H p=none):Same H (upd H p o):=fun b u e=>by rw [ZE (Z5 e h)];exact e
end L2
set_option Elab.async false
set_option linter.all false
set_option maxRecDepth 100000
namespace L2
open PySem PySem.Spec PyProof.Rows
theorem Zd0 {A B:Prop} (h:A):(if true=true then A else B):=(if_pos (c:=true=true) rfl:ite _ A B=A) ▸ h
theorem Zd4 {A B:Prop} (h:B):(if false=true then A else B):=(if_neg (c:=false=true) Bool.false_ne_true:ite _ A B=B) ▸ h
inductive D where
 | non | bl (b:Bool) | int (i:Int) | str (x:Str) | ty (n:String) | tup (xs:List D) | lst (xs:List D) (b:Bool:=false)
def Zn6:D→At
 | .int i=>.int i
 | .str x=>.str x
 | _=>.non
def Zon:D→KT
 | .tup l=>.tup (l.map Zn6)
 | d=>.at (Zn6 d)
def ZfA:List D→List KT
 | k::_::r=>Zon k::ZfA r
 | _=>[]
def CO (b:Bool) (xs:List D) (vs:List V):HO:=match b with
 | false=>.lst vs
 | true=>.dct (ZfA xs) vs
def isL:HO→Bool
 | .lst _=>true
 | .dct _ _=>true
 | _=>false
theorem ZrK (b:Bool) (xs:List D) (vs:List V):isL (CO b xs vs)=true:=by cases b<;>rfl
abbrev Fb:=Addr→Prop
def KL (K:PySem.W.Frag) (a:Addr) (vs:List V):Prop:=SqL K (fun _=>none) a vs
def LstAt (K:PySem.W.Frag) (N:Fb) (H:Hp) (a:Addr) (o:HO):Prop:=(¬ N a∧Rd H a o)∨∃ vs,o=.lst vs∧KL K a vs
theorem KL.sq {K:PySem.W.Frag} {H:Hp} {a:Addr} {vs:List V} (h:KL K a vs):SqL K H a vs:=by
 rcases h with (h | ⟨o,h⟩) | h
 ·cases h
 ·cases h
 ·exact .inr h
theorem LstAt.sq {K:PySem.W.Frag} {N:Fb} {H:Hp} {a:Addr} {vs:List V} (h:LstAt K N H a (.lst vs)):SqL K H a vs:=by
 rcases h with ⟨_,h⟩ | ⟨ws,e,h⟩
 ·exact .inl h
 ·cases e;exact h.sq
theorem LstAt.of {K:PySem.W.Frag} {N:Fb} {H:Hp} {a:Addr} {o:HO} (n:¬ N a) (h:H a=some o):LstAt K N H a o:=.inl ⟨n,.inl h⟩
theorem LstAt.of_sq {K:PySem.W.Frag} {H:Hp} {a:Addr} {vs:List V} (h:SqL K H a vs):LstAt K (fun _=>False) H a (.lst vs):=by
 rcases h with h | h
 ·exact .inl ⟨id,h⟩
 ·exact .inr ⟨vs,rfl,.inr h⟩
mutual
def Den (K:PySem.W.Frag) (N:Fb) (H:Hp):D→V→Prop
 | .non,v=>v=.non
 | .bl b,v=>v=.bl b
 | .int i,v=>v=.int i
 | .str x,v=>v=.str x
 | .ty n,v=>v=.ty n
 | .tup xs,v=>∃ a vs,v=.ref a∧SqT K H a vs∧DenL K N H xs vs
 | .lst xs b,v=>∃ a vs,v=.ref a∧LstAt K N H a (CO b xs vs)∧DenL K N H xs vs
def DenL (K:PySem.W.Frag) (N:Fb) (H:Hp):List D→List V→Prop
 | [],vs=>vs=[]
 | x::xs,vs=>∃ v r,vs=v::r∧Den K N H x v∧DenL K N H xs r
end
structure Step (M N N':Fb) (H H':Hp):Prop where
 kp:∀ a o,H a=some o→(¬ N a∨M a∨isL o=false)→H' a=some o
 nw:∀ a,N' a→N a∨H a=none
theorem Step.trans {M N N1 N2:Fb} {H H1 H2:Hp} (a:Step M N N1 H H1) (b:Step M N1 N2 H1 H2):Step M N N2 H H2 where
 kp:=fun c o h z=>by
  have h1:=a.kp c o h z
  refine b.kp c o h1 ?_
  rcases z with z | z | z
  ·refine .inl fun n1=>?_
   rcases a.nw c n1 with q | q
   ·exact z q
   ·rw [h] at q;cases q
  ·exact .inr (.inl z)
  ·exact .inr (.inr z)
 nw:=fun c n2=>by
  rcases b.nw c n2 with q | q
  ·exact a.nw c q
  ·cases e:H c with
   | none=>exact .inr rfl
   | some o =>
    refine .inl (Classical.byContradiction fun z=>?_)
    rw [a.kp c o e (.inl z)] at q
    cases q
theorem Step.of_same {M N:Fb} {H H':Hp} (s:Same H H'):Step M N N H H':=⟨fun a o h _=>s a o h,fun a h=>.inl h⟩
theorem Step.refl {M N:Fb} {H:Hp}:Step M N N H H:=Step.of_same (Same.refl H)
theorem Rd.step {M N N':Fb} {H H':Hp} {a:Addr} {u:HO} (s:Step M N N' H H') (h:Rd H a u) (z:¬ N a∨M a∨isL u=false):Rd H' a u:=by
 rcases h with h | ⟨o,h⟩
 ·exact .inl (s.kp a u h z)
 ·exact .inr ⟨o,s.kp a _ h (.inr (.inr rfl))⟩
theorem Rd.same {H H':Hp} {a:Addr} {u:HO} (s:Same H H') (h:Rd H a u):Rd H' a u:=by
 rcases h with h | ⟨o,h⟩
 ·exact .inl (s a u h)
 ·exact .inr ⟨o,s a _ h⟩
theorem SqT.step {K:PySem.W.Frag} {M N N':Fb} {H H':Hp} {a:Addr} {xs:List V} (s:Step M N N' H H') (h:SqT K H a xs):SqT K H' a xs:=by
 rcases h with h | h
 ·exact .inl (h.step s (.inr (.inr rfl)))
 ·exact .inr h
theorem SqT.same {K:PySem.W.Frag} {H H':Hp} {a:Addr} {xs:List V} (s:Same H H') (h:SqT K H a xs):SqT K H' a xs:=SqT.step (M:=fun _=>False) (N:=fun _=>False) (Step.of_same s) h
theorem Rd.has {H:Hp} {a:Addr} {u:HO} (h:Rd H a u):H a≠none:=by
 rcases h with h | ⟨o,h⟩<;>rw [h]<;>exact fun e=>nomatch e
mutual
theorem Den.step {K:PySem.W.Frag} {M N N':Fb} {H H':Hp} (s:Step M N N' H H'):∀ (d:D) (v:V),Den K N H d v→Den K N' H' d v
 | .non,_,h=>h
 | .bl _,_,h=>h
 | .int _,_,h=>h
 | .str _,_,h=>h
 | .ty _,_,h=>h
 | .tup xs,v,h=>by
  simp only [Den] at h ⊢
  obtain ⟨a,vs,e,q,r⟩:=h
  exact ⟨a,vs,e,q.step s,DenL.step s xs vs r⟩
 | .lst xs fl,v,h=>by
  simp only [Den] at h ⊢
  obtain ⟨a,vs,e,q,r⟩:=h
  refine ⟨a,vs,e,?_,DenL.step s xs vs r⟩
  rcases q with ⟨n,q⟩ | q
  ·refine .inl ⟨fun n'=>?_,q.step s (.inl n)⟩
   rcases s.nw a n' with z | z
   ·exact n z
   ·exact q.has z
  ·exact .inr q
theorem DenL.step {K:PySem.W.Frag} {M N N':Fb} {H H':Hp} (s:Step M N N' H H'):∀ (xs:List D) (vs:List V),DenL K N H xs vs→DenL K N' H' xs vs
 | [],_,h=>h
 | x::xs,vs,h=>by
  simp only [DenL] at h ⊢
  obtain ⟨v,r,e,q,t⟩:=h
  exact ⟨v,r,e,Den.step s x v q,DenL.step s xs r t⟩
end
section
variable {K:PySem.W.Frag} {M N N':Fb} {H H':Hp} {d:D} {v:V} {xs ys:List D} {vs ws:List V} {a:Addr}
theorem Den.same (h:Den K N H d v) (s:Same H H'):Den K N H' d v:=Den.step (M:=N) (Step.of_same s) d v h
theorem DenL.same (h:DenL K N H xs vs) (s:Same H H'):DenL K N H' xs vs:=DenL.step (M:=N) (Step.of_same s) xs vs h
theorem Den.nw (h:Den K N H d v) (z:∀ a,N' a→N a∨H a=none):Den K N' H d v:=Den.step (M:=N) (H':=H) ⟨fun _ _ h _=>h,z⟩ d v h
theorem DenL.nw (h:DenL K N H xs vs) (z:∀ a,N' a→N a∨H a=none):DenL K N' H xs vs:=DenL.step (M:=N) (H':=H) ⟨fun _ _ h _=>h,z⟩ xs vs h
theorem DenL.length:∀ {xs:List D} {vs:List V},DenL K N H xs vs→xs.length=vs.length
 | [],_,h=>by simp only [DenL] at h;subst h;rfl
 | _::xs,_,h=>by simp only [DenL] at h;obtain ⟨v,r,e,_,t⟩:=h;subst e;simp [DenL.length t]
theorem DenL.get:∀ {xs:List D} {vs:List V} {i:Nat} {d:D},DenL K N H xs vs→xs[i]?=some d→∃ v,vs[i]?=some v∧Den K N H d v
 | [],_,i,d,_,e=>by simp at e
 | x::xs,_,0,d,h,e=>by
  simp only [DenL] at h;obtain ⟨v,r,e1,q,_⟩:=h;subst e1
  simp at e;subst e;exact ⟨v,rfl,q⟩
 | x::xs,_,i+1,d,h,e=>by
  simp only [DenL] at h;obtain ⟨v,r,e1,_,t⟩:=h;subst e1
  obtain ⟨w,h1,h2⟩:=DenL.get (i:=i) t (by simpa using e)
  exact ⟨w,by simpa using h1,h2⟩
theorem DenL.get':∀ {xs:List D} {vs:List V} {i:Nat} {v:V},DenL K N H xs vs→vs[i]?=some v→∃ d,xs[i]?=some d∧Den K N H d v:=by
 intro xs vs i v h e
 have hl:=h.length
 have hi:i<vs.length:=(List.getElem?_eq_some_iff.mp e).1
 have hx:xs[i]?=some xs[i]:=List.getElem?_eq_getElem (by omega)
 obtain ⟨w,h1,h2⟩:=h.get hx
 rw [e] at h1;cases h1
 exact ⟨_,hx,h2⟩
theorem DenL.append:∀ {xs ys:List D} {vs ws:List V},DenL K N H xs vs→DenL K N H ys ws→DenL K N H (xs++ys) (vs++ws)
 | [],_,_,_,h,h'=>by simp only [DenL] at h;subst h;exact h'
 | x::xs,ys,_,ws,h,h'=>by
  simp only [DenL] at h;obtain ⟨v,r,e,q,t⟩:=h;subst e
  simp only [List.cons_append,DenL]
  exact ⟨v,r++ws,rfl,q,DenL.append t h'⟩
theorem DenL.nil:DenL K N H [] []:=by simp only [DenL]
theorem DenL.cons (h:Den K N H d v) (t:DenL K N H xs vs):DenL K N H (d::xs) (v::vs):=by simp only [DenL];exact ⟨v,vs,rfl,h,t⟩
theorem DenL.take:∀ {xs:List D} {vs:List V} (n:Nat),DenL K N H xs vs→DenL K N H (xs.take n) (vs.take n)
 | _,_,0,_=>by simpa using DenL.nil
 | [],_,n+1,h=>by simp only [DenL] at h;subst h;simpa using DenL.nil
 | x::xs,_,n+1,h=>by
  simp only [DenL] at h;obtain ⟨v,r,e,q,t⟩:=h;subst e
  simpa using DenL.cons q (DenL.take n t)
theorem DenL.drop:∀ {xs:List D} {vs:List V} (n:Nat),DenL K N H xs vs→DenL K N H (xs.drop n) (vs.drop n)
 | _,_,0,h=>by simpa using h
 | [],_,n+1,h=>by simp only [DenL] at h;subst h;simpa using DenL.nil
 | x::xs,_,n+1,h=>by
  simp only [DenL] at h;obtain ⟨v,r,e,q,t⟩:=h;subst e
  simpa using DenL.drop n t
theorem DenL.reverse:∀ {xs:List D} {vs:List V},DenL K N H xs vs→DenL K N H xs.reverse vs.reverse
 | [],_,h=>by simp only [DenL] at h;subst h;simpa using DenL.nil
 | x::xs,_,h=>by
  simp only [DenL] at h;obtain ⟨v,r,e,q,t⟩:=h;subst e
  simpa using DenL.append (DenL.reverse t) (DenL.cons q DenL.nil)
theorem DenL.set:∀ {xs:List D} {vs:List V} (i:Nat),DenL K N H xs vs→Den K N H d v→DenL K N H (xs.set i d) (vs.set i v)
 | [],_,_,h,_=>by simp only [DenL] at h;subst h;simpa using DenL.nil
 | x::xs,_,0,h,q=>by
  simp only [DenL] at h;obtain ⟨v,r,e,_,t⟩:=h;subst e
  simpa using DenL.cons q t
 | x::xs,_,i+1,h,q=>by
  simp only [DenL] at h;obtain ⟨v,r,e,q',t⟩:=h;subst e
  simpa using DenL.cons q' (DenL.set i t q)
theorem DenL.ints:∀ (ns:List Int),DenL K N H (ns.map D.int) (ns.map V.int)
 | []=>DenL.nil
 | n::ns=>DenL.cons (by simp only [Den]) (DenL.ints ns)
end
inductive Sl where
 | no | val (d:D) | own (xs:List D) (b:Bool:=false) | lent (xs:List D) (b:Bool:=false) | exc (c:Str)
def XAt (e C:Addr) (h:Heap):Prop:=∃ o vs,h.get? e=some o∧o.cls=.ref C∧o.data=.fields vs∧vs[2]?=some .none
abbrev VE:=List Sl
def Nf (M:Fb) (ρ:VE) (σ:St):Fb:=fun a=>M a∨∃ (i:Nat) (xs:List D) (b:Bool),ρ[i]?=some (Sl.own xs b)∧σ[i]?=some (some (V.ref a))
def ZqR (K:PySem.W.Frag) (M N:Fb) (H0 H:Hp):Sl→Option V→Prop
 | .no,_=>True
 | .val d,o=>∃ v,o=some v∧Den K N H d v
 | .own xs b,o=>∃ a vs,o=some (.ref a)∧H0 a=none∧¬ M a∧H a=some (CO b xs vs)∧DenL K N H xs vs
 | .lent xs b,o=>∃ a vs,o=some (.ref a)∧M a∧Rd H a (CO b xs vs)∧DenL K N H xs vs
 | .exc c,o=>∃ a C,o=some (.ref a)∧PySem.W.nsIn K mainGlobals c=some (some (.ref C))∧H a=some (.ext (XAt a C))
structure Rel (K:PySem.W.Frag) (M:Fb) (H0:Hp) (ρ:VE) (σ:St) (H:Hp):Prop where
 len:ρ.length=σ.length
 same:Same H0 H
 mh:∀ a,M a→H a≠none
 slot:∀ (i:Nat) (s:Sl),ρ[i]?=some s→ZqR K M (Nf M ρ σ) H0 H s (σ[i]?.join)
 inj:∀ (i j:Nat) (xs ys:List D) (b b':Bool) (a:Addr),ρ[i]?=some (Sl.own xs b)→ρ[j]?=some (Sl.own ys b')→σ[i]?=some (some (V.ref a))→σ[j]?=some (some (V.ref a))→i=j
section
variable {K:PySem.W.Frag} {M N:Fb} {H0 H H':Hp} {ρ:VE} {σ:St}
theorem Rel.nh (R:Rel K M H0 ρ σ H):∀ a,Nf M ρ σ a→H a≠none:=by
 rintro a (h | ⟨i,xs,fl,h1,h2⟩)
 ·exact R.mh a h
 ·obtain ⟨b,vs,e,_,_,q,_⟩:=R.slot i _ h1
  rw [h2] at e
  have e':b=a:=by simpa using e.symm
  rw [← e',q];exact fun z=>nomatch z
theorem Rel.st (R:Rel K M H0 ρ σ H) (s:Same H H'):Rel K M H0 ρ σ H' where
 len:=R.len
 same:=R.same.trans s
 mh:=fun a h z=>R.mh a h (s.free z)
 slot:=fun i sl e=>by
  have q:=R.slot i sl e
  cases sl with
  | no=>trivial
  | val d=>obtain ⟨v,e,h⟩:=q;exact ⟨v,e,h.same s⟩
  | own xs fl=>obtain ⟨a,vs,e,h1,h2,h3,h4⟩:=q;exact ⟨a,vs,e,h1,h2,s _ _ h3,h4.same s⟩
  | lent xs fl=>obtain ⟨a,vs,e,h1,h2,h3⟩:=q;exact ⟨a,vs,e,h1,h2.same s,h3.same s⟩
  | exc c=>obtain ⟨a,C,e,h1,h2⟩:=q;exact ⟨a,C,e,h1,s _ _ h2⟩
 inj:=R.inj
theorem Rel.fresh (R:Rel K M H0 ρ σ H) {p:Addr} (h:H p=none):¬ Nf M ρ σ p:=fun n=>R.nh p n h
end
def tD (K:PySem.W.Frag) (M:Fb) (H0:Hp) (f:VE→Option D):TE:=fun σ H Q=>∃ ρ d,Rel K M H0 ρ σ H∧f ρ=some d∧∀ v H',Same H H'→Den K (Nf M ρ σ) H' d v→Q v H'
def DenP (K:PySem.W.Frag) (N:Fb) (H:Hp) (d:D) (v:V):Prop:=match d with
 | .lst xs=>∃ a vs,v=.ref a∧SqL K H a vs∧DenL K N H xs vs
 | .lst xs true=>∃ a vs,v=.ref a∧Rd H a (.dct (ZfA xs) vs)∧DenL K N H xs vs
 | d=>Den K N H d v
theorem Den.p {K:PySem.W.Frag} {N:Fb} {H:Hp} {d:D} {v:V} (h:Den K N H d v):DenP K N H d v:=by
 cases d with
 | lst xs fl =>
  simp only [Den] at h
  obtain ⟨a,vs,e,q,r⟩:=h
  cases fl with
  | false=>exact ⟨a,vs,e,LstAt.sq q,r⟩
  | true =>
   rcases q with ⟨_,q⟩ | ⟨ws,z,_⟩
   ·exact ⟨a,vs,e,q,r⟩
   ·cases z
 | _=>exact h
theorem DenP.same {K:PySem.W.Frag} {N:Fb} {H H':Hp} {d:D} {v:V} (h:DenP K N H d v) (s:Same H H'):DenP K N H' d v:=by
 cases d with
 | lst xs fl =>
  cases fl with
  | false=>obtain ⟨a,vs,e,q,r⟩:=h;exact ⟨a,vs,e,s.seq q,r.same s⟩
  | true=>obtain ⟨a,vs,e,q,r⟩:=h;exact ⟨a,vs,e,q.same s,r.same s⟩
 | _=>exact Den.same h s
theorem Ziu {K:PySem.W.Frag} {N:Fb} {H:Hp} {xs:List D} {vs:List V} {fl:Bool} {a:Addr} (h:Rd H a (CO fl xs vs)) (r:DenL K N H xs vs):DenP K N H (.lst xs fl) (.ref a):=by
 cases fl with
 | false=>exact ⟨a,vs,rfl,.inl h,r⟩
 | true=>exact ⟨a,vs,rfl,h,r⟩
def tP (K:PySem.W.Frag) (M:Fb) (H0:Hp) (f:VE→Option D):TE:=fun σ H Q=>∃ ρ d,Rel K M H0 ρ σ H∧f ρ=some d∧∀ v H',Same H H'→DenP K (Nf M ρ σ) H' d v→Q v H'
def tFb (fl:Bool) (K:PySem.W.Frag) (M:Fb) (H0:Hp) (f:VE→Option (List D)):TE:=fun σ H Q=>∃ ρ xs,Rel K M H0 ρ σ H∧f ρ=some xs ∧
 ∀ a vs H',Same H H'→H a=none→H' a=some (CO fl xs vs)→DenL K (fun b=>Nf M ρ σ b∨b=a) H' xs vs→Q (.ref a) H'
@[reducible] def tF (K:PySem.W.Frag) (M:Fb) (H0:Hp) (f:VE→Option (List D)):TE:=tFb false K M H0 f
def tB' (K:PySem.W.Frag) (M:Fb) (H0:Hp) (f:VE→Option Bool):TT:=fun σ H Q=>∃ ρ b,Rel K M H0 ρ σ H∧f ρ=some b∧∀ H',Same H H'→Q b H'
structure JE (X:Cx) (e:Expr) (t:TE):Prop where h:PE X e t
structure JT (X:Cx) (e:Expr) (t:TT):Prop where h:PT X e t
structure JW (X:Cx) (e:Expr) (t:TT):Prop where h:PW X e t
structure JA (X:Cx) (e:List Expr) (t:TA):Prop where h:PA X e t
structure JS (X:Cx) (e:Stmt) (t:TS):Prop where h:PS X e t
structure JB (X:Cx) (e:List Stmt) (t:TS):Prop where h:PSs X e t
structure JI (X:Cx) (tg e:Expr) (t:TI):Prop where h:PI X tg e t
structure JG (X:Cx) (e:Expr) (t:TG):Prop where h:PG X e t
structure JK (X:Cx) (e:List Expr) (t:TGs):Prop where h:PGs X e t
structure JO (X:Cx) (e:Option Expr) (t:TO):Prop where h:PO X e t
structure JF (X:Cx) (e:List Expr) (t:TT):Prop where h:PFs X e t
theorem PE.mono {X:Cx} {e:Expr} {t t':TE} (h:PE X e t) (m:∀ σ H Q,t' σ H Q→t σ H Q):PE X e t':=fun pins s σ H Q I q=>h pins s σ H Q I (m σ H Q q)
theorem PT.mono {X:Cx} {e:Expr} {t t':TT} (h:PT X e t) (m:∀ σ H Q,t' σ H Q→t σ H Q):PT X e t':=fun pins s σ H Q I q=>h pins s σ H Q I (m σ H Q q)
theorem PW.mono {X:Cx} {e:Expr} {t t':TT} (h:PW X e t) (m:∀ σ H Q,t' σ H Q→t σ H Q):PW X e t':=fun wh pins s σ H Q I q=>h wh pins s σ H Q I (m σ H Q q)
theorem PA.mono {X:Cx} {e:List Expr} {t t':TA} (h:PA X e t) (m:∀ σ H Q,t' σ H Q→t σ H Q):PA X e t':=fun pos pins s σ H Q I q=>h pos pins s σ H Q I (m σ H Q q)
theorem PS.mono {X:Cx} {e:Stmt} {t t':TS} (h:PS X e t) (m:∀ D σ H,t' D σ H→t D σ H):PS X e t':=fun pins s σ H D I q=>h pins s σ H D I (m D σ H q)
theorem PSs.mono {X:Cx} {e:List Stmt} {t t':TS} (h:PSs X e t) (m:∀ D σ H,t' D σ H→t D σ H):PSs X e t':=fun pins s σ H D I q=>h pins s σ H D I (m D σ H q)
section
variable {X:Cx} {K:PySem.W.Frag} {M:Fb} {H0:Hp} {e a b:Expr} {f g:VE→Option D} {pos:Pos}
theorem PE.p (h:PE X e (tD K M H0 f)):PE X e (tP K M H0 f):=h.mono fun σ H Q ⟨ρ,d,R,e,q⟩=>⟨ρ,d,R,e,fun v H' s z=>q v H' s z.p⟩
theorem j_p (h:JE X e (tD K M H0 f)):JE X e (tP K M H0 f):=⟨PE.p h.h⟩
@[simp] def ZB (o:Option (List D)):Option D:=o.map D.lst
@[simp] def ZvW (o:Option (List D)):Option D:=o.map fun l=>D.lst l true
theorem PE.fd {f:VE→Option (List D)} (h:PE X e (tF K M H0 f)):PE X e (tD K M H0 fun ρ=>ZB (f ρ)):=h.mono fun σ H Q ⟨ρ,d,R,e,q⟩=>by
 try dsimp only at e q
 cases hf:f ρ with
 | none=>rw [hf] at e;cases e
 | some xs =>
  rw [hf] at e
  cases e
  refine ⟨ρ,xs,R,hf,fun a vs H' s z1 z2 z3=>q _ _ s ?_⟩
  simp only [Den]
  refine ⟨a,vs,rfl,.of (R.fresh z1) z2,z3.nw fun b hb=>.inl (.inl hb)⟩
theorem ZbE {f:VE→Option (List D)} (h:JE X e (tF K M H0 f)):JE X e (tD K M H0 fun ρ=>ZB (f ρ)):=⟨PE.fd h.h⟩
@[simp] def rdV (ρ:VE) (i:Nat):Option D:=match ρ[i]? with
  | some (.val d)=>some d
  | _=>none
@[simp] def rdP (ρ:VE) (i:Nat):Option D:=match ρ[i]? with
  | some (.val d)=>some d
  | some (.own xs b)=>some (.lst xs b)
  | some (.lent xs b)=>some (.lst xs b)
  | _=>none
theorem Zoq {ρ:VE} {i:Nat} {d:D} (h:rdV ρ i=some d):ρ[i]?=some (.val d):=by
 unfold rdV at h
 split at h
 ·cases h;assumption
 ·cases h
theorem ZrW {i:Nat} {x:Str} (hN:X.N[i]?=some x) (hv:Vis X.env.scope x) (hd:(x==("__debug__":Str))=false:=by decide) (hcd:(x==("__classdict__":Str))=false:=by decide):PE X (.Name x pos) (tD K M H0 fun ρ=>rdV ρ i) :=
 (ZcP hN hv hd hcd).mono fun σ H Q ⟨ρ,d,R,e,q⟩=>by
  try dsimp only at e q
  obtain ⟨v,e1,h⟩:=R.slot i _ (Zoq e)
  refine ⟨v,?_,q v H (Same.refl H) h⟩
  cases z:σ[i]? with
  | none=>rw [z] at e1;cases e1
  | some o=>rw [z] at e1;cases e1;rfl
theorem ZsE {i:Nat} {x:Str} (hN:X.N[i]?=some x) (hv:Vis X.env.scope x) (hd:(x==("__debug__":Str))=false:=by decide) (hcd:(x==("__classdict__":Str))=false:=by decide):PE X (.Name x pos) (tP K M H0 fun ρ=>rdP ρ i) :=
 (ZcP hN hv hd hcd).mono fun σ H Q ⟨ρ,d,R,e,q⟩=>by
  try dsimp only at e q
  have fin:∀ v,σ[i]?.join=some v→DenP K (Nf M ρ σ) H d v→∃ v,σ[i]?=some (some v)∧Q v H:=fun v e1 h=>by
   refine ⟨v,?_,q v H (Same.refl H) h⟩
   cases z:σ[i]? with
   | none=>rw [z] at e1;cases e1
   | some o=>rw [z] at e1;cases e1;rfl
  unfold rdP at e
  split at e
  ·next h=>cases e;obtain ⟨v,e1,h⟩:=R.slot i _ h;exact fin v e1 h.p
  ·next h=>cases e;obtain ⟨a,vs,e1,_,_,h3,h4⟩:=R.slot i _ h;exact fin _ e1 (Ziu (.inl h3) h4)
  ·next h=>cases e;obtain ⟨a,vs,e1,_,h3,h4⟩:=R.slot i _ h;exact fin _ e1 (Ziu h3 h4)
  ·cases e
theorem ZiG {d:D} {v:V} {e:Expr} (h:PE X e (tC v)) (hd:∀ N H,Den K N H d v):PE X e (tD K M H0 fun _=>some d) :=
 h.mono fun σ H Q ⟨ρ,d',R,e,q⟩=>by (try dsimp only at e q);cases e;exact q v H (Same.refl H) (hd _ _)
theorem Zsg {i j pos}:PE X (.Constant (.int i) j pos) (tD K M H0 fun _=>some (.int i)):=ZiG ZrM fun _ _=>by simp only [Den]
theorem Zd {i j pos}:JE X (.Constant (.int i) j pos) (tD K M H0 fun _=>some (.int i)):=⟨Zsg ⟩
theorem ZtA {i j pos}:PE X (.Constant (.bool i) j pos) (tD K M H0 fun _=>some (.bl i)):=ZiG Ztz fun _ _=>by simp only [Den]
theorem ZX {i j pos}:JE X (.Constant (.bool i) j pos) (tD K M H0 fun _=>some (.bl i)):=⟨ZtA ⟩
theorem ZsB {j pos}:PE X (.Constant .none j pos) (tD K M H0 fun _=>some .non):=ZiG ZsW fun _ _=>by simp only [Den]
theorem Zdy {j pos}:JE X (.Constant .none j pos) (tD K M H0 fun _=>some .non):=⟨ZsB ⟩
theorem Zrl {i j pos}:PE X (.Constant (.str i) j pos) (tD K M H0 fun _=>some (.str i)):=ZiG Zsa fun _ _=>by simp only [Den]
theorem Zbr {i j pos}:JE X (.Constant (.str i) j pos) (tD K M H0 fun _=>some (.str i)):=⟨Zrl ⟩
def R2D (K:PySem.W.Frag) (r:R2) (F:D→D→Option D):Prop:=∀ (N:Fb) (H:Hp) (x y:V) (d1 d2 d:D) (Q:VK),(∀ a,N a→H a≠none)→DenP K N H d1 x→DenP K N H d2 y→F d1 d2=some d →
 (∀ v H',Same H H'→Den K N H' d v→Q v H')→r x y H Q
@[simp] def Ze (F:D→D→Option D) (f g:VE→Option D):VE→Option D:=fun ρ=>(f ρ).bind fun x=>(g ρ).bind fun y=>F x y
theorem Zn9 {F:D→D→Option D} {f g:VE→Option D} {ρ:VE} {d:D} (h:Ze F f g ρ=some d):∃ x y,f ρ=some x∧g ρ=some y∧F x y=some d:=by
 unfold Ze at h
 cases hf:f ρ with
 | none=>rw [hf] at h;cases h
 | some x =>
  cases hg:g ρ with
  | none=>rw [hf,hg] at h;cases h
  | some y=>rw [hf,hg] at h;exact ⟨x,y,rfl,rfl,h⟩
theorem ZjE {r:R2} {F:D→D→Option D} (hr:R2D K r F) {σ:St} {H:Hp} {Q:VK} (h:tD K M H0 (Ze F f g) σ H Q):tOp r (tP K M H0 f) (tP K M H0 g) σ H Q:=by
 obtain ⟨ρ,d,R,e,q⟩:=h
 try dsimp only at e q
 obtain ⟨x,y,e1,e2,e3⟩:=Zn9 e
 refine ⟨ρ,x,R,e1,fun v H1 s1 h1=>⟨ρ,y,R.st s1,e2,fun u H2 s2 h2=>?_⟩⟩
 exact hr (Nf M ρ σ) H2 v u x y d Q ((R.st s1).st s2).nh (h1.same s2) h2 e3 fun w H3 s3 h3=>q w H3 ((s1.trans s2).trans s3) h3
theorem Zha {op:Operator} {r:R2} {F:D→D→Option D} (ho:OpR X (binaryOp op) r) (hr:R2D K r F) (ha:PE X a (tP K M H0 f)) (hb:PE X b (tP K M H0 g)):PE X (.BinOp a op b pos) (tD K M H0 (Ze F f g)) :=
 (ZtB ho ha hb).mono fun _ _ _ h=>ZjE hr h
theorem Znx {op:CmpOp} {r:R2} {F:D→D→Option D} (ho:OpR X (compareOp op) r) (hr:R2D K r F) (ha:PE X a (tP K M H0 f)) (hb:PE X b (tP K M H0 g)) (hm:behindInMarks op b=false):PE X (.Compare a [op] [b] pos) (tD K M H0 (Ze F f g)) :=
 (Zqk ho ha hb hm).mono fun _ _ _ h=>ZjE hr h
theorem Ztl {r:R2} {F:D→D→Option D} (ho:IxR X r) (hr:R2D K r F) (ha:PE X a (tP K M H0 f)) (hb:PE X b (tP K M H0 g)) (hs:Zhd b):PE X (.Subscript a b pos) (tD K M H0 (Ze F f g)) :=
 (ZtD ho ha hb hs).mono fun _ _ _ h=>ZjE hr h
@[simp] def orO {α:Type} (a b:Option α):Option α:=match a with
  | some x=>some x
  | none=>b
theorem R2D.or {r r':R2} {F F':D→D→Option D} (h:R2D K r F) (h':R2D K r' F'):R2D K (fun x y H Q=>r x y H Q∨r' x y H Q) (fun x y=>orO (F x y) (F' x y)):=by
 intro N H x y d1 d2 d Q nh h1 h2 e q
 cases hF:F d1 d2 with
 | some z=>simp only [hF,orO] at e;cases e;exact .inl (h N H x y d1 d2 d Q nh h1 h2 hF q)
 | none=>simp only [hF,orO] at e;exact .inr (h' N H x y d1 d2 d Q nh h1 h2 e q)
@[simp] def asB:Option D→Option Bool
  | some (.bl b)=>some b
  | _=>none
theorem Zdt {o:Option D} {b:Bool} (h:asB o=some b):o=some (.bl b):=by
 unfold asB at h
 split at h
 ·cases h;rfl
 ·cases h
theorem Zll {t:TE} {σ:St} {H:Hp} {Q:Bool→Hp→Prop} (ht:∀ σ H Q,tD K M H0 f σ H Q→t σ H Q) (h:tB' K M H0 (fun ρ=>asB (f ρ)) σ H Q):tB t σ H Q:=by
 obtain ⟨ρ,b,R,e,q⟩:=h
 try dsimp only at e q
 refine ht σ H _ ⟨ρ,.bl b,R,Zdt e,fun v H' s hv=>?_⟩
 simp only [Den] at hv
 exact ⟨b,hv,q H' s⟩
theorem Zfh {op:CmpOp} {r:R2} {F:D→D→Option D} (ho:OpR X (compareOp op) r) (hr:R2D K r F) (ha:PE X a (tP K M H0 f)) (hb:PE X b (tP K M H0 g)) (hm:behindInMarks op b=false):PT X (.Compare a [op] [b] pos) (tB' K M H0 fun ρ=>asB (Ze F f g ρ)) :=
 (Zlv ho ha hb hm).mono fun _ _ _ q=>Zll (t:=tOp r (tP K M H0 f) (tP K M H0 g)) (fun _ _ _ z=>ZjE hr z) q
@[simp] def ZN (o:Option Bool):Option Bool:=o.map (!·)
@[simp] def Zai (o p:Option Bool):Option Bool:=match o with
  | some true=>p
  | some false=>some false
  | none=>none
@[simp] def orB (o p:Option Bool):Option Bool:=match o with
  | some true=>some true
  | some false=>p
  | none=>none
section
variable {c c':VE→Option Bool} {rest:List Expr}
theorem ZsU (h:PT X a (tB' K M H0 c)):PT X (.UnaryOp .Not a pos) (tB' K M H0 fun ρ=>ZN (c ρ)):=(Zs2 h).mono fun σ H Q ⟨ρ,b,R,e,q⟩=>by
 try dsimp only at e q
 cases hc:c ρ with
 | none=>rw [hc] at e;cases e
 | some k=>rw [hc] at e;cases e;exact ⟨ρ,k,R,hc,q⟩
theorem ZU (h:JT X a (tB' K M H0 c)):JT X (.UnaryOp .Not a pos) (tB' K M H0 fun ρ=>ZN (c ρ)):=⟨ZsU h.h⟩
theorem ZpR (h:PT X a (tB' K M H0 c)):PW X (.BoolOp .And [a] pos) (tB' K M H0 c):=ZpQ h
theorem ZgT (h:JT X a (tB' K M H0 c)):JW X (.BoolOp .And [a] pos) (tB' K M H0 c):=⟨ZpR h.h⟩
theorem Zq3 (h:PT X a (tB' K M H0 c)):PW X (.BoolOp .Or [a] pos) (tB' K M H0 c):=ZsR h
theorem Za0 (h:JT X a (tB' K M H0 c)):JW X (.BoolOp .Or [a] pos) (tB' K M H0 c):=⟨Zq3 h.h⟩
theorem Zry {σ:St} {H:Hp} {Q:Bool→Hp→Prop} (h:tB' K M H0 (fun ρ=>Zai (c ρ) (c' ρ)) σ H Q):ZqK (tB' K M H0 c) (tB' K M H0 c') σ H Q:=by
 obtain ⟨ρ,b,R,e,q⟩:=h
 try dsimp only at e q
 cases hc:c ρ with
 | none=>rw [hc] at e;cases e
 | some k =>
  cases k with
  | true=>rw [hc] at e;exact ⟨ρ,true,R,hc,fun H1 s=>by refine Zd0 ?_;exact ⟨ρ,b,R.st s,e,fun H2 s2=>q H2 (s.trans s2)⟩⟩
  | false=>rw [hc] at e;cases e;exact ⟨ρ,false,R,hc,fun H1 s=>by refine Zd4 ?_;exact q H1 s⟩
theorem ZtF {σ:St} {H:Hp} {Q:Bool→Hp→Prop} (h:tB' K M H0 (fun ρ=>orB (c ρ) (c' ρ)) σ H Q):tOr (tB' K M H0 c) (tB' K M H0 c') σ H Q:=by
 obtain ⟨ρ,b,R,e,q⟩:=h
 try dsimp only at e q
 cases hc:c ρ with
 | none=>rw [hc] at e;cases e
 | some k =>
  cases k with
  | false=>rw [hc] at e;exact ⟨ρ,false,R,hc,fun H1 s=>by refine Zd4 ?_;exact ⟨ρ,b,R.st s,e,fun H2 s2=>q H2 (s.trans s2)⟩⟩
  | true=>rw [hc] at e;cases e;exact ⟨ρ,true,R,hc,fun H1 s=>by refine Zd0 ?_;exact q H1 s⟩
theorem ZsP (h:PT X a (tB' K M H0 c)) (h':PW X (.BoolOp .And (b::rest) pos) (tB' K M H0 c')):PW X (.BoolOp .And (a::b::rest) pos) (tB' K M H0 fun ρ=>Zai (c ρ) (c' ρ)):=(Zs0 h h').mono fun _ _ _ q=>Zry q
theorem Zfq (h:JT X a (tB' K M H0 c)) (h':JW X (.BoolOp .And (b::rest) pos) (tB' K M H0 c')):JW X (.BoolOp .And (a::b::rest) pos) (tB' K M H0 fun ρ=>Zai (c ρ) (c' ρ)):=⟨ZsP h.h h'.h⟩
theorem Ztq (h:PT X a (tB' K M H0 c)) (h':PW X (.BoolOp .Or (b::rest) pos) (tB' K M H0 c')):PW X (.BoolOp .Or (a::b::rest) pos) (tB' K M H0 fun ρ=>orB (c ρ) (c' ρ)):=(ZtU h h').mono fun _ _ _ q=>ZtF q
theorem Zax (h:JT X a (tB' K M H0 c)) (h':JW X (.BoolOp .Or (b::rest) pos) (tB' K M H0 c')):JW X (.BoolOp .Or (a::b::rest) pos) (tB' K M H0 fun ρ=>orB (c ρ) (c' ρ)):=⟨Ztq h.h h'.h⟩
@[simp] def blO (o:Option Bool):Option D:=o.map D.bl
theorem ZjB {σ:St} {H:Hp} {Q:VK} (h:tD K M H0 (fun ρ=>blO (c ρ)) σ H Q):∃ ρ b,Rel K M H0 ρ σ H∧c ρ=some b∧∀ H',Same H H'→Q (.bl b) H':=by
 obtain ⟨ρ,d,R,e,q⟩:=h
 try dsimp only at e q
 cases hc:c ρ with
 | none=>rw [hc] at e;cases e
 | some k=>rw [hc] at e;cases e;exact ⟨ρ,k,R,hc,fun H' s=>q _ H' s (by simp only [Den])⟩
theorem Zsq (h:PE X a (tD K M H0 f)):PE X (.UnaryOp .Not a pos) (tD K M H0 fun ρ=>blO (ZN (asB (f ρ)))):=(ZqZ h).mono fun σ H Q q=>by
 obtain ⟨ρ,b,R,e,q⟩:=ZjB q
 try dsimp only at e q
 cases hc:asB (f ρ) with
 | none=>rw [hc] at e;cases e
 | some k =>
  rw [hc] at e;cases e
  refine ⟨ρ,.bl k,R,Zdt hc,fun v H' s hv=>?_⟩
  simp only [Den] at hv
  exact ⟨k,hv,q H' s⟩
theorem ZoJ (h:JE X a (tD K M H0 f)):JE X (.UnaryOp .Not a pos) (tD K M H0 fun ρ=>blO (ZN (asB (f ρ)))):=⟨Zsq h.h⟩
theorem ZrY {op} (h:PE X a (tD K M H0 f)):PE X (.BoolOp op [a] pos) (tD K M H0 fun ρ=>blO (asB (f ρ))):=(Zsi h).mono fun σ H Q q=>by
 obtain ⟨ρ,b,R,e,q⟩:=ZjB q
 try dsimp only at e q
 exact ⟨ρ,.bl b,R,Zdt e,fun v H' s hv=>by simp only [Den] at hv;subst hv;exact q H' s⟩
theorem Zcm {op} (h:JE X a (tD K M H0 f)):JE X (.BoolOp op [a] pos) (tD K M H0 fun ρ=>blO (asB (f ρ))):=⟨ZrY h.h⟩
theorem Zss (h:PE X a (tD K M H0 f)) (h':PE X (.BoolOp .And (b::rest) pos) (tD K M H0 fun ρ=>blO (c' ρ))):PE X (.BoolOp .And (a::b::rest) pos) (tD K M H0 fun ρ=>blO (Zai (asB (f ρ)) (c' ρ))):=(Zq9 h h').mono fun σ H Q q=>by
 obtain ⟨ρ,b,R,e,q⟩:=ZjB q
 try dsimp only at e q
 cases hc:asB (f ρ) with
 | none=>rw [hc] at e;cases e
 | some k =>
  refine ⟨ρ,.bl k,R,Zdt hc,fun v H' s hv=>?_⟩
  simp only [Den] at hv
  refine ⟨k,hv,?_⟩
  cases k with
  | true =>
   rw [hc] at e;refine Zd0 ?_
   have e':c' ρ=some b:=e
   exact ⟨ρ,.bl b,R.st s,by show blO (c' ρ)=_;rw [e'];rfl,fun w H2 s2 hw=>by simp only [Den] at hw;subst hw;exact q H2 (s.trans s2)⟩
  | false=>rw [hc] at e;cases e;refine Zd4 ?_;exact q H' s
theorem Zc4 (h:JE X a (tD K M H0 f)) (h':JE X (.BoolOp .And (b::rest) pos) (tD K M H0 fun ρ=>blO (c' ρ))):JE X (.BoolOp .And (a::b::rest) pos) (tD K M H0 fun ρ=>blO (Zai (asB (f ρ)) (c' ρ))):=⟨Zss h.h h'.h⟩
theorem ZtS (h:PE X a (tD K M H0 f)) (h':PE X (.BoolOp .Or (b::rest) pos) (tD K M H0 fun ρ=>blO (c' ρ))):PE X (.BoolOp .Or (a::b::rest) pos) (tD K M H0 fun ρ=>blO (orB (asB (f ρ)) (c' ρ))):=(ZtQ h h').mono fun σ H Q q=>by
 obtain ⟨ρ,b,R,e,q⟩:=ZjB q
 try dsimp only at e q
 cases hc:asB (f ρ) with
 | none=>rw [hc] at e;cases e
 | some k =>
  refine ⟨ρ,.bl k,R,Zdt hc,fun v H' s hv=>?_⟩
  simp only [Den] at hv
  refine ⟨k,hv,?_⟩
  cases k with
  | false =>
   rw [hc] at e;refine Zd4 ?_
   have e':c' ρ=some b:=e
   exact ⟨ρ,.bl b,R.st s,by show blO (c' ρ)=_;rw [e'];rfl,fun w H2 s2 hw=>by simp only [Den] at hw;subst hw;exact q H2 (s.trans s2)⟩
  | true=>rw [hc] at e;cases e;refine Zd0 ?_;exact q H' s
theorem ZlF (h:JE X a (tD K M H0 f)) (h':JE X (.BoolOp .Or (b::rest) pos) (tD K M H0 fun ρ=>blO (c' ρ))):JE X (.BoolOp .Or (a::b::rest) pos) (tD K M H0 fun ρ=>blO (orB (asB (f ρ)) (c' ρ))):=⟨ZtS h.h h'.h⟩
@[simp] def ZiB {α:Type} (c:Option Bool) (a b:Option α):Option α:=match c with
  | some true=>a
  | some false=>b
  | none=>none
theorem Zoh {k:Expr} (hc:PT X k (tB' K M H0 c)) (ha:PE X a (tD K M H0 f)) (hb:PE X b (tD K M H0 g)):PE X (.IfExp k a b pos) (tD K M H0 fun ρ=>ZiB (c ρ) (f ρ) (g ρ)):=(ZnU hc ha hb).mono fun σ H Q ⟨ρ,d,R,e,q⟩=>by
 try dsimp only at e q
 cases hc:c ρ with
 | none=>rw [hc] at e;cases e
 | some k =>
  refine ⟨ρ,k,R,hc,fun H1 s=>?_⟩
  cases k with
  | true=>rw [hc] at e;refine Zd0 ?_;exact ⟨ρ,d,R.st s,e,fun w H2 s2 hw=>q w H2 (s.trans s2) hw⟩
  | false=>rw [hc] at e;refine Zd4 ?_;exact ⟨ρ,d,R.st s,e,fun w H2 s2 hw=>q w H2 (s.trans s2) hw⟩
theorem ZhZ {k:Expr} (hc:JT X k (tB' K M H0 c)) (ha:JE X a (tD K M H0 f)) (hb:JE X b (tD K M H0 g)):JE X (.IfExp k a b pos) (tD K M H0 fun ρ=>ZiB (c ρ) (f ρ) (g ρ)):=⟨Zoh hc.h ha.h hb.h⟩
@[simp] def isN:D→Bool
  | .non=>true
  | _=>false
@[simp] def Zc2 (o:Option D):Option Bool:=o.map isN
theorem DenP.isN {K:PySem.W.Frag} {N:Fb} {H:Hp} {d:D} {v:V} (h:DenP K N H d v):decide (v=.non)=L2.isN d:=by
 cases d with
 | non=>simp only [DenP,Den] at h;subst h;rfl
 | bl _=>simp only [DenP,Den] at h;subst h;rfl
 | int _=>simp only [DenP,Den] at h;subst h;rfl
 | str _=>simp only [DenP,Den] at h;subst h;rfl
 | ty _=>simp only [DenP,Den] at h;subst h;rfl
 | tup _=>simp only [DenP,Den] at h;obtain ⟨a,vs,e,_⟩:=h;subst e;rfl
 | lst _ fl=>cases fl<;>(obtain ⟨a,vs,e,_⟩:=h;subst e;rfl)
theorem ZqN {j pos'} (h:PE X a (tP K M H0 f)):PT X (.Compare a [.Is] [.Constant .none j pos'] pos) (tB' K M H0 fun ρ=>Zc2 (f ρ)):=(Zm5 (ZsH h)).mono fun σ H Q ⟨ρ,b,R,e,q⟩=>by
 try dsimp only at e q
 cases hf:f ρ with
 | none=>rw [hf] at e;cases e
 | some d=>rw [hf] at e;cases e;exact ⟨ρ,d,R,hf,fun v H' s hv=>⟨_,rfl,by rw [hv.isN];exact q H' s⟩⟩
theorem ZhR {j pos'} (h:JE X a (tP K M H0 f)):JT X (.Compare a [.Is] [.Constant .none j pos'] pos) (tB' K M H0 fun ρ=>Zc2 (f ρ)):=⟨ZqN h.h⟩
theorem Zqo {j pos'} (h:PE X a (tP K M H0 f)):PT X (.Compare a [.IsNot] [.Constant .none j pos'] pos) (tB' K M H0 fun ρ=>ZN (Zc2 (f ρ))):=(Zm5 (Zp1 h)).mono fun σ H Q ⟨ρ,b,R,e,q⟩=>by
 try dsimp only at e q
 cases hf:f ρ with
 | none=>rw [hf] at e;cases e
 | some d=>rw [hf] at e;cases e;exact ⟨ρ,d,R,hf,fun v H' s hv=>⟨_,rfl,by rw [hv.isN];exact q H' s⟩⟩
theorem Zgn {j pos'} (h:JE X a (tP K M H0 f)):JT X (.Compare a [.IsNot] [.Constant .none j pos'] pos) (tB' K M H0 fun ρ=>ZN (Zc2 (f ρ))):=⟨Zqo h.h⟩
end
end
end L2
set_option Elab.async false
set_option linter.all false
set_option maxRecDepth 100000
namespace L2
open PySem PySem.Spec PyProof.Rows
theorem Zaa {e:Expr} {es:List Expr} {env:Env} (h:∀ x p,e≠.Starred x p):starEach (e::es) env=(false,eval e env)::starEach es env:=by
 cases e with
 | Starred x p=>exact absurd rfl (h x p)
 | _=>rfl
def ArgOk (K:PySem.W.Frag) (N:Fb) (H:Hp):Sl→V→Prop
 | .val d,v=>Den K N H d v
 | .lent xs b,v=>∃ a vs,v=.ref a∧N a∧Rd H a (CO b xs vs)∧DenL K N H xs vs
 | _,_=>False
def ArgsOk (K:PySem.W.Frag) (N:Fb) (H:Hp):List Sl→List V→Prop
 | [],vs=>vs=[]
 | s::ss,vs=>∃ v r,vs=v::r∧ArgOk K N H s v∧ArgsOk K N H ss r
@[simp] def pk:Sl→Option D
  | .val d=>some d
  | .lent xs b=>some (.lst xs b)
  | .own xs b=>some (.lst xs b)
  | .no=>none
  | .exc _=>none
theorem ArgOk.same {K:PySem.W.Frag} {N:Fb} {H H':Hp} {s:Sl} {v:V} (h:ArgOk K N H s v) (sm:Same H H'):ArgOk K N H' s v:=by
 cases s with
 | val d=>exact Den.same h sm
 | lent xs fl=>obtain ⟨a,vs,e,n,q,r⟩:=h;exact ⟨a,vs,e,n,q.same sm,r.same sm⟩
 | no=>exact h
 | own xs fl=>exact h
 | exc c=>exact h
theorem ArgsOk.same {K:PySem.W.Frag} {N:Fb} {H H':Hp} (sm:Same H H'):∀ {ss:List Sl} {vs:List V},ArgsOk K N H ss vs→ArgsOk K N H' ss vs
 | [],_,h=>h
 | s::ss,_,⟨v,r,e,h,t⟩=>⟨v,r,e,h.same sm,ArgsOk.same sm t⟩
theorem ArgOk.p {K:PySem.W.Frag} {N:Fb} {H:Hp} {s:Sl} {v:V} (h:ArgOk K N H s v):∃ d,pk s=some d∧DenP K N H d v:=by
 cases s with
 | val d=>exact ⟨d,rfl,Den.p h⟩
 | lent xs fl=>obtain ⟨a,vs,e,n,q,r⟩:=h;subst e;exact ⟨_,rfl,Ziu q r⟩
 | no=>exact False.elim h
 | own xs fl=>exact False.elim h
 | exc c=>exact False.elim h
theorem ArgsOk.length {K:PySem.W.Frag} {N:Fb} {H:Hp}:∀ {ss:List Sl} {vs:List V},ArgsOk K N H ss vs→ss.length=vs.length
 | [],_,h=>by cases h;rfl
 | s::ss,_,⟨v,r,e,h,t⟩=>by subst e;simp [ArgsOk.length t]
theorem ArgsOk.get {K:PySem.W.Frag} {N:Fb} {H:Hp}:∀ {ss:List Sl} {vs:List V} {i:Nat} {s:Sl},ArgsOk K N H ss vs→ss[i]?=some s→∃ v,vs[i]?=some v∧ArgOk K N H s v
 | [],_,i,s,h,e=>by simp at e
 | _::ss,_,0,s,⟨v,r,e1,h,t⟩,e=>by subst e1;simp at e;subst e;exact ⟨v,rfl,h⟩
 | _::ss,_,i+1,s,⟨v,r,e1,h,t⟩,e=>by
  subst e1
  obtain ⟨w,h1,h2⟩:=ArgsOk.get (i:=i) t (by simpa using e)
  exact ⟨w,by simpa using h1,h2⟩
def tA' (K:PySem.W.Frag) (M:Fb) (H0:Hp) (f:VE→Option (List Sl)):TA:=fun σ H Q=>∃ ρ ss,Rel K M H0 ρ σ H∧f ρ=some ss∧∀ vs H',Same H H'→ArgsOk K (Nf M ρ σ) H' ss vs→Q vs H'
def tS1 (K:PySem.W.Frag) (M:Fb) (H0:Hp) (f:VE→Option Sl):TE:=fun σ H Q=>∃ ρ s,Rel K M H0 ρ σ H∧f ρ=some s∧∀ v H',Same H H'→ArgOk K (Nf M ρ σ) H' s v→Q v H'
@[simp] def rdA (ρ:VE) (i:Nat):Option Sl:=match ρ[i]? with
  | some (.val d)=>some (.val d)
  | some (.own xs b)=>some (.lent xs b)
  | some (.lent xs b)=>some (.lent xs b)
  | _=>none
@[simp] def Zi (o:Option D):Option Sl:=o.map Sl.val
@[simp] def Zb {α:Type} (a:Option α) (b:Option (List α)):Option (List α):=a.bind fun x=>b.bind fun y=>some (x::y)
theorem ZeC {α:Type} {a:Option α} {b:Option (List α)} {l:List α} (h:Zb a b=some l):∃ x y,a=some x∧b=some y∧l=x::y:=by
 cases a with
 | none=>cases h
 | some x =>
  cases b with
  | none=>cases h
  | some y=>cases h;exact ⟨x,y,rfl,rfl,rfl⟩
section
variable {X:Cx} {K:PySem.W.Frag} {M:Fb} {H0:Hp} {e a b:Expr} {es:List Expr} {f g:VE→Option D} {fa:VE→Option (List Sl)} {f1:VE→Option Sl} {pos:Pos}
theorem ZqX {i:Nat} {x:Str} (hN:X.N[i]?=some x) (hv:Vis X.env.scope x) (hd:(x==("__debug__":Str))=false:=by decide) (hcd:(x==("__classdict__":Str))=false:=by decide):PE X (.Name x pos) (tS1 K M H0 fun ρ=>rdA ρ i) :=
 (ZcP hN hv hd hcd).mono fun σ H Q ⟨ρ,d,R,e,q⟩=>by
  try dsimp only at e q
  have fin:∀ v,σ[i]?.join=some v→ArgOk K (Nf M ρ σ) H d v→∃ v,σ[i]?=some (some v)∧Q v H:=fun v e1 h=>by
   refine ⟨v,?_,q v H (Same.refl H) h⟩
   cases z:σ[i]? with
   | none=>rw [z] at e1;cases e1
   | some o=>rw [z] at e1;cases e1;rfl
  unfold rdA at e
  split at e
  ·next h=>cases e;obtain ⟨v,e1,h⟩:=R.slot i _ h;exact fin v e1 h
  ·next h =>
   cases e
   obtain ⟨a,vs,e1,_,_,h3,h4⟩:=R.slot i _ h
   refine fin _ e1 ⟨a,vs,rfl,.inr ⟨i,_,_,h,?_⟩,.inl h3,h4⟩
   cases z:σ[i]? with
   | none=>rw [z] at e1;cases e1
   | some o=>rw [z] at e1;cases e1;rfl
  ·next h=>cases e;obtain ⟨a,vs,e1,h2,h3,h4⟩:=R.slot i _ h;exact fin _ e1 ⟨a,vs,rfl,.inl h2,h3,h4⟩
  ·cases e
theorem ZuA (h:PE X e (tD K M H0 f)):PE X e (tS1 K M H0 fun ρ=>Zi (f ρ)):=h.mono fun σ H Q ⟨ρ,s,R,e,q⟩=>by
 try dsimp only at e q
 cases hf:f ρ with
 | none=>rw [hf] at e;cases e
 | some d=>rw [hf] at e;cases e;exact ⟨ρ,d,R,hf,fun v H' s hv=>q v H' s hv⟩
theorem Zk (h:JE X e (tD K M H0 f)):JE X e (tS1 K M H0 fun ρ=>Zi (f ρ)):=⟨ZuA h.h⟩
theorem Zsf:PA X [] (tA' K M H0 fun _=>some []):=pa_nil.mono fun σ H Q ⟨ρ,ss,R,e,q⟩=>by
 try dsimp only at e q
 cases e;exact q [] H (Same.refl H) rfl
theorem Zf :JA X [] (tA' K M H0 fun _=>some []):=⟨Zsf ⟩
theorem Zph (h:PE X e (tS1 K M H0 f1)) (hr:PA X es (tA' K M H0 fa)) (hs:starEach (e::es) X.env=(false,eval e X.env)::starEach es X.env:=by exact Zaa (fun _ _ z=>nomatch z)):PA X (e::es) (tA' K M H0 fun ρ=>Zb (f1 ρ) (fa ρ)):=(Zdb h hr hs).mono fun σ H Q ⟨ρ,ss,R,e,q⟩=>by
 try dsimp only at e q
 obtain ⟨s,r,e1,e2,e3⟩:=ZeC e
 subst e3
 exact ⟨ρ,s,R,e1,fun v H1 s1 h1=>⟨ρ,r,R.st s1,e2,fun vs H2 s2 h2=>q (v::vs) H2 (s1.trans s2) ⟨v,vs,rfl,h1.same s2,h2⟩⟩⟩
theorem Za (h:JE X e (tS1 K M H0 f1)) (hr:JA X es (tA' K M H0 fa)) (hs:starEach (e::es) X.env=(false,eval e X.env)::starEach es X.env:=by exact Zaa (fun _ _ z=>nomatch z)):JA X (e::es) (tA' K M H0 fun ρ=>Zb (f1 ρ) (fa ρ)):=⟨Zph h.h hr.h hs⟩
@[simp] def Zr:List Sl→Option (List D)
  | []=>some []
  | .val d::r=>Zb (some d) (Zr r)
  | _=>none
theorem Zel {K:PySem.W.Frag} {N:Fb} {H:Hp}:∀ {ss:List Sl} {vs:List V} {ds:List D},ArgsOk K N H ss vs→Zr ss=some ds→DenL K N H ds vs
 | [],_,_,h,e=>by cases e;cases h;exact DenL.nil
 | .val d::r,_,_,⟨v,t,e1,h,ht⟩,e=>by
  obtain ⟨x,y,e2,e3,e4⟩:=ZeC e
  cases e2;subst e1 e4
  exact DenL.cons h (Zel ht e3)
 | .no::_,_,_,_,e=>nomatch e
 | .own _ _::_,_,_,_,e=>nomatch e
 | .lent _ _::_,_,_,_,e=>nomatch e
@[simp] def ZC {α:Type} (o:Option (List α)):Option (List α):=o.bind fun l=>if l.length≤sizeLine then some l else none
theorem ZfK {α:Type} {o:Option (List α)} {l:List α} (h:ZC o=some l):o=some l∧l.length≤sizeLine:=by
 cases o with
 | none=>cases h
 | some x =>
  have h':(if x.length≤sizeLine then some x else none)=some l:=h
  split at h'
  ·cases h';exact ⟨rfl,by assumption⟩
  ·cases h'
theorem ZaY {H:Hp} {p:Addr} {o:HO} (h:H p=none):Same H (upd H p o):=fun b u e=>by rw [ZE (Z5 e h)];exact e
theorem Zh4 {fl:Bool} {ρ:VE} {σ:St} {H H1:Hp} {Q:VK} {xs:List D} {vs:List V} {p:Addr} (s:Same H H1) (hp:H1 p=none) (h:DenL K (Nf M ρ σ) H1 xs vs)
  (q:∀ a vs H',Same H H'→H a=none→H' a=some (CO fl xs vs)→DenL K (fun b=>Nf M ρ σ b∨b=a) H' xs vs→Q (.ref a) H'):Q (.ref p) (upd H1 p (CO fl xs vs)):=by
 refine q p vs _ (s.trans (ZaY hp)) (s.free hp) Zak ?_
 refine (h.nw fun b hb=>?_).same (ZaY hp)
 rcases hb with hb | hb
 ·exact .inl hb
 ·subst hb;exact .inr hp
theorem Zrp (h:PA X es (tA' K M H0 fa)):PE X (.List es pos) (tF K M H0 fun ρ=>ZC ((fa ρ).bind Zr)):=(ZqP h).mono fun σ H Q ⟨ρ,xs,R,e,q⟩=>by
 try dsimp only at e q
 obtain ⟨e,hz⟩:=ZfK e
 cases hf:fa ρ with
 | none=>rw [hf] at e;cases e
 | some ss =>
  rw [hf] at e
  refine ⟨ρ,ss,R,hf,fun vs H1 s1 h1=>?_⟩
  have hd:=Zel h1 e
  exact ⟨by rw [← hd.length];exact hz,fun p hp=>Zh4 s1 hp hd q⟩
theorem Zav (h:JA X es (tA' K M H0 fa)):JE X (.List es pos) (tF K M H0 fun ρ=>ZC ((fa ρ).bind Zr)):=⟨Zrp h.h⟩
theorem Zrr {x1} (h:PA X es (tA' K M H0 fa)):PE X (.Tuple es x1 pos) (tD K M H0 fun ρ=>(ZC ((fa ρ).bind Zr)).map D.tup):=(Zsb h).mono fun σ H Q ⟨ρ,d,R,e,q⟩=>by
 try dsimp only at e q
 cases hz:ZC ((fa ρ).bind Zr) with
 | none=>rw [hz] at e;cases e
 | some xs =>
  rw [hz] at e;cases e
  obtain ⟨e,hz⟩:=ZfK hz
  cases hf:fa ρ with
  | none=>rw [hf] at e;cases e
  | some ss =>
   rw [hf] at e
   refine ⟨ρ,ss,R,hf,fun vs H1 s1 h1=>?_⟩
   have hd:=Zel h1 e
   refine ⟨by rw [← hd.length];exact hz,fun p hp=>q _ _ (s1.trans (ZaY hp)) ?_⟩
   simp only [Den]
   exact ⟨p,vs,rfl,SqT.of Zak,hd.same (ZaY hp)⟩
theorem Zcx {x1} (h:JA X es (tA' K M H0 fa)):JE X (.Tuple es x1 pos) (tD K M H0 fun ρ=>(ZC ((fa ρ).bind Zr)).map D.tup):=⟨Zrr h.h⟩
end
inductive Rv where
 | val (d:D) | own (xs:List D) (b:Bool:=false)
def Zml (K:PySem.W.Frag) (N:Fb) (H0 H':Hp):Rv→V→Prop
 | .val d,v=>Den K N H' d v
 | .own xs b,v=>∃ a vs,v=.ref a∧H0 a=none∧H' a=some (CO b xs vs)∧DenL K (fun b=>N b∨b=a) H' xs vs
def spD (K:PySem.W.Frag) (F:List Sl→Option Rv):Sp:=fun vs H Q _=>∃ N ss r,(∀ a,N a→H a≠none)∧ArgsOk K N H ss vs∧F ss=some r∧∀ v H',Same H H'→Zml K N H H' r v→Q v H'
@[simp] def rvD:Rv→D
  | .val d=>d
  | .own xs b=>.lst xs b
@[simp] def rvF:Rv→Option (List D)
  | .own xs=>some xs
  | _=>none
@[simp] def rvG:Rv→Option (List D)
  | .own xs true=>some xs
  | _=>none
section
variable {X:Cx} {K:PySem.W.Frag} {M:Fb} {H0:Hp} {e:Expr} {es:List Expr} {fa:VE→Option (List Sl)} {F:List Sl→Option Rv} {CX:CXT} {k:Nat} {fn:Addr} {fd:FuncData} {ps:List Str} {x:Str} {p pos:Pos} {E:XK}
@[simp] def Zm (F:List Sl→Option Rv) (fa:VE→Option (List Sl)):VE→Option D:=fun ρ=>(fa ρ).bind fun ss=>(F ss).map rvD
@[simp] def Zbx (F:List Sl→Option Rv) (fa:VE→Option (List Sl)):VE→Option (List D):=fun ρ=>(fa ρ).bind fun ss=>(F ss).bind rvF
theorem Zqm {σ:St} {H:Hp} {Q:VK} (h:tD K M H0 (Zm F fa) σ H Q):ZmJ (spD K F) [] E (tA' K M H0 fa) σ H Q:=by
 obtain ⟨ρ,d,R,e,q⟩:=h
 try dsimp only at e q
 unfold Zm at e
 cases hf:fa ρ with
 | none=>rw [hf] at e;cases e
 | some ss =>
  rw [hf] at e
  cases hF:F ss with
  | none=>simp only [Option.bind,hF] at e;cases e
  | some r =>
   simp only [Option.bind,hF] at e;cases e
   refine ⟨ρ,ss,R,hf,fun vs H1 s1 h1=>⟨Nf M ρ σ,ss,r,(R.st s1).nh,by rw [List.append_nil];exact h1,hF,fun v H2 s2 h2=>q v H2 (s1.trans s2) ?_⟩⟩
   cases r with
   | val d=>exact h2
   | own xs fl =>
    obtain ⟨a,ws,e1,z1,z2,z3⟩:=h2
    simp only [rvD,Den]
    exact ⟨a,ws,e1,.of (fun z=>(R.st s1).fresh z1 z) z2,z3.nw fun b hb=>.inl (.inl hb)⟩
@[simp] def ZvA (F:List Sl→Option Rv) (fa:VE→Option (List Sl)):VE→Option (List D):=fun ρ=>(fa ρ).bind fun ss=>(F ss).bind rvG
theorem Zp2 {σ:St} {H:Hp} {Q:VK} (h:tF K M H0 (Zbx F fa) σ H Q):ZmJ (spD K F) [] E (tA' K M H0 fa) σ H Q:=by
 obtain ⟨ρ,d,R,e,q⟩:=h
 try dsimp only at e q
 unfold Zbx at e
 cases hf:fa ρ with
 | none=>rw [hf] at e;cases e
 | some ss =>
  rw [hf] at e
  cases hF:F ss with
  | none=>simp only [Option.bind,hF] at e;cases e
  | some r =>
   simp only [Option.bind,hF] at e
   cases r with
   | val d=>cases e
   | own xs fl =>
    cases fl with
    | true=>cases e
    | false =>
     cases e
     refine ⟨ρ,ss,R,hf,fun vs H1 s1 h1=>⟨Nf M ρ σ,ss,_,(R.st s1).nh,by rw [List.append_nil];exact h1,hF,fun v H2 s2 h2=>?_⟩⟩
     obtain ⟨a,ws,e1,z1,z2,z3⟩:=h2
     subst e1
     exact q a ws H2 (s1.trans s2) (s1.free z1) z2 z3
theorem Zpi (G:FnOk X.prog X.w X.K X.mg X.base CX k fn fd ps (spD K F)) (hr:Room k X.A) (hg:Gl X x) (hm:X.mg x=some (.ref fn)) (hk:PySem.W.keepIn X.K (.ref fn)=true) (hb:Binds X.K fd ps []) (hx:Zef CX X E)
  (ha:PA X (e::es) (tA' K M H0 fa)) (hdb:(x==("__debug__":Str))=false:=by decide) (he:starEach (e::es) X.env=(false,eval e X.env)::starEach es X.env:=by exact Zaa (fun _ _ z=>nomatch z)) (hpl:(backTo pos (starEach es X.env)).any (·.1)=false:=by rfl) :
  PE X (.Call (.Name x p) (e::es) [] pos) (tD K M H0 (Zm F fa)):=(Zlr G hr hg hm hk hb .nil hx ha hdb he hpl).mono fun _ _ _ h=>Zqm h
theorem Zy (G:FnOk X.prog X.w X.K X.mg X.base CX k fn fd ps (spD K F)) (hr:Room k X.A) (hg:Gl X x) (hm:X.mg x=some (.ref fn)) (hk:PySem.W.keepIn X.K (.ref fn)=true) (hb:Binds X.K fd ps []) (hx:Zef CX X E) (ha:JA X (e::es) (tA' K M H0 fa)) (hdb:(x==("__debug__":Str))=false:=by decide) (he:starEach (e::es) X.env=(false,eval e X.env)::starEach es X.env:=by exact Zaa (fun _ _ z=>nomatch z)) (hpl:(backTo pos (starEach es X.env)).any (·.1)=false:=by rfl):JE X (.Call (.Name x p) (e::es) [] pos) (tD K M H0 (Zm F fa)):=⟨Zpi G hr hg hm hk hb hx ha.h hdb he hpl⟩
theorem Zp9 (G:FnOk X.prog X.w X.K X.mg X.base CX k fn fd ps (spD K F)) (hr:Room k X.A) (hg:Gl X x) (hm:X.mg x=some (.ref fn)) (hk:PySem.W.keepIn X.K (.ref fn)=true) (hb:Binds X.K fd ps []) (hx:Zef CX X E)
  (ha:PA X (e::es) (tA' K M H0 fa)) (hdb:(x==("__debug__":Str))=false:=by decide) (he:starEach (e::es) X.env=(false,eval e X.env)::starEach es X.env:=by exact Zaa (fun _ _ z=>nomatch z)) (hpl:(backTo pos (starEach es X.env)).any (·.1)=false:=by rfl) :
  PE X (.Call (.Name x p) (e::es) [] pos) (tF K M H0 (Zbx F fa)):=(Zlr G hr hg hm hk hb .nil hx ha hdb he hpl).mono fun _ _ _ h=>Zp2 h
theorem ZgQ (G:FnOk X.prog X.w X.K X.mg X.base CX k fn fd ps (spD K F)) (hr:Room k X.A) (hg:Gl X x) (hm:X.mg x=some (.ref fn)) (hk:PySem.W.keepIn X.K (.ref fn)=true) (hb:Binds X.K fd ps []) (hx:Zef CX X E) (ha:JA X (e::es) (tA' K M H0 fa)) (hdb:(x==("__debug__":Str))=false:=by decide) (he:starEach (e::es) X.env=(false,eval e X.env)::starEach es X.env:=by exact Zaa (fun _ _ z=>nomatch z)) (hpl:(backTo pos (starEach es X.env)).any (·.1)=false:=by rfl):JE X (.Call (.Name x p) (e::es) [] pos) (tF K M H0 (Zbx F fa)):=⟨Zp9 G hr hg hm hk hb hx ha.h hdb he hpl⟩
end
def RcD (K:PySem.W.Frag) (r:List V→Hp→VK→Prop) (F:List D→Option D):Prop:=∀ (N:Fb) (H:Hp) (vs:List V) (ds:List D) (d:D) (Q:VK),(∀ a,N a→H a≠none)→Paired (DenP K N H) ds vs→F ds=some d →
 (∀ v H',Same H H'→Den K N H' d v→Q v H')→r vs H Q
def RcF (K:PySem.W.Frag) (r:List V→Hp→VK→Prop) (F:List D→Option (List D)):Prop:=∀ (N:Fb) (H:Hp) (vs:List V) (ds:List D) (xs:List D) (Q:VK),(∀ a,N a→H a≠none)→Paired (DenP K N H) ds vs→F ds=some xs →
 (∀ ws p,H p=none→DenL K N H xs ws→Q (.ref p) (upd H p (.lst ws)))→r vs H Q
@[simp] def pks:List Sl→Option (List D)
  | []=>some []
  | s::r=>Zb (pk s) (pks r)
theorem Zg1 {K:PySem.W.Frag} {N:Fb} {H:Hp}:∀ {ss:List Sl} {vs:List V} {ds:List D},ArgsOk K N H ss vs→pks ss=some ds→Paired (DenP K N H) ds vs
 | [],_,_,h,e=>by cases e;cases h;exact .nil
 | s::r,_,_,⟨v,t,e1,h,ht⟩,e=>by
  obtain ⟨x,y,e2,e3,e4⟩:=ZeC e
  subst e1 e4
  obtain ⟨d,hd,hp⟩:=h.p
  rw [hd] at e2;cases e2
  exact .cons hp (Zg1 ht e3)
section
variable {X:Cx} {K:PySem.W.Frag} {M:Fb} {H0:Hp} {e:Expr} {es:List Expr} {fa:VE→Option (List Sl)} {x:Str} {p pos:Pos} {r:List V→Hp→VK→Prop} {F:List D→Option D} {G:List D→Option (List D)} {id:String}
@[simp] def Zq (F:List D→Option D) (fa:VE→Option (List Sl)):VE→Option D:=fun ρ=>((fa ρ).bind pks).bind F
@[simp] def ZK (F:List D→Option (List D)) (fa:VE→Option (List Sl)):VE→Option (List D):=fun ρ=>((fa ρ).bind pks).bind F
theorem Zl1 (hr:RcD K r F) {σ:St} {H:Hp} {Q:VK} (h:tD K M H0 (Zq F fa) σ H Q):tCB r (tA' K M H0 fa) σ H Q:=by
 obtain ⟨ρ,d,R,e,q⟩:=h
 try dsimp only at e q
 unfold Zq at e
 cases hf:fa ρ with
 | none=>rw [hf] at e;cases e
 | some ss =>
  rw [hf] at e
  cases hp:pks ss with
  | none=>simp only [Option.bind,hp] at e;cases e
  | some ds =>
   simp only [Option.bind,hp] at e
   exact ⟨ρ,ss,R,hf,fun vs H1 s1 h1=>hr (Nf M ρ σ) H1 vs ds d Q (R.st s1).nh (Zg1 h1 hp) e fun v H' s hv=>q v H' (s1.trans s) hv⟩
theorem Ztf (hr:RcF K r G) {σ:St} {H:Hp} {Q:VK} (h:tF K M H0 (ZK G fa) σ H Q):tCB r (tA' K M H0 fa) σ H Q:=by
 obtain ⟨ρ,d,R,e,q⟩:=h
 try dsimp only at e q
 unfold ZK at e
 cases hf:fa ρ with
 | none=>rw [hf] at e;cases e
 | some ss =>
  rw [hf] at e
  cases hp:pks ss with
  | none=>simp only [Option.bind,hp] at e;cases e
  | some ds =>
   simp only [Option.bind,hp] at e
   exact ⟨ρ,ss,R,hf,fun vs H1 s1 h1=>hr (Nf M ρ σ) H1 vs ds d Q (R.st s1).nh (Zg1 h1 hp) e fun ws p hp hv=>Zh4 s1 hp hv q⟩
theorem ZoM (hc:CallR X (.builtin id) r) (hF:RcD K r F) (hg:Gl X x) (hm:X.mg x=none) (hv:bootBuiltins x=some (.builtin id)) (ha:PA X (e::es) (tA' K M H0 fa)) (hn:x≠"__name__":=by decide) (hdb:(x==("__debug__":Str))=false:=by decide)
  (he:starEach (e::es) X.env=(false,eval e X.env)::starEach es X.env:=by exact Zaa (fun _ _ z=>nomatch z)) (hpl:(backTo pos (starEach es X.env)).any (·.1)=false:=by rfl):PE X (.Call (.Name x p) (e::es) [] pos) (tD K M H0 (Zq F fa)) :=
 (ZhC hc hg hm hv ha hn hdb he hpl).mono fun _ _ _ h=>Zl1 hF h
theorem Zo (hc:CallR X (.builtin id) r) (hF:RcD K r F) (hg:Gl X x) (hm:X.mg x=none) (hv:bootBuiltins x=some (.builtin id)) (ha:JA X (e::es) (tA' K M H0 fa)) (hn:x≠"__name__":=by decide) (hdb:(x==("__debug__":Str))=false:=by decide) (he:starEach (e::es) X.env=(false,eval e X.env)::starEach es X.env:=by exact Zaa (fun _ _ z=>nomatch z)) (hpl:(backTo pos (starEach es X.env)).any (·.1)=false:=by rfl):JE X (.Call (.Name x p) (e::es) [] pos) (tD K M H0 (Zq F fa)):=⟨ZoM hc hF hg hm hv ha.h hn hdb he hpl⟩
theorem Znk (hc:CallR X (.type id) r) (hF:RcD K r F) (hg:Gl X x) (hm:X.mg x=none) (hv:bootBuiltins x=some (.type id)) (ha:PA X (e::es) (tA' K M H0 fa)) (hn:x≠"__name__":=by decide) (hdb:(x==("__debug__":Str))=false:=by decide)
  (he:starEach (e::es) X.env=(false,eval e X.env)::starEach es X.env:=by exact Zaa (fun _ _ z=>nomatch z)) (hpl:(backTo pos (starEach es X.env)).any (·.1)=false:=by rfl):PE X (.Call (.Name x p) (e::es) [] pos) (tD K M H0 (Zq F fa)) :=
 (Zjc hc hg hm hv ha hn hdb he hpl).mono fun _ _ _ h=>Zl1 hF h
theorem ZeM (hc:CallR X (.type id) r) (hF:RcD K r F) (hg:Gl X x) (hm:X.mg x=none) (hv:bootBuiltins x=some (.type id)) (ha:JA X (e::es) (tA' K M H0 fa)) (hn:x≠"__name__":=by decide) (hdb:(x==("__debug__":Str))=false:=by decide) (he:starEach (e::es) X.env=(false,eval e X.env)::starEach es X.env:=by exact Zaa (fun _ _ z=>nomatch z)) (hpl:(backTo pos (starEach es X.env)).any (·.1)=false:=by rfl):JE X (.Call (.Name x p) (e::es) [] pos) (tD K M H0 (Zq F fa)):=⟨Znk hc hF hg hm hv ha.h hn hdb he hpl⟩
theorem ZmX (hc:CallR X (.type id) r) (hF:RcF K r G) (hg:Gl X x) (hm:X.mg x=none) (hv:bootBuiltins x=some (.type id)) (ha:PA X (e::es) (tA' K M H0 fa)) (hn:x≠"__name__":=by decide) (hdb:(x==("__debug__":Str))=false:=by decide)
  (he:starEach (e::es) X.env=(false,eval e X.env)::starEach es X.env:=by exact Zaa (fun _ _ z=>nomatch z)) (hpl:(backTo pos (starEach es X.env)).any (·.1)=false:=by rfl):PE X (.Call (.Name x p) (e::es) [] pos) (tF K M H0 (ZK G fa)) :=
 (Zjc hc hg hm hv ha hn hdb he hpl).mono fun _ _ _ h=>Ztf hF h
theorem Zla (hc:CallR X (.type id) r) (hF:RcF K r G) (hg:Gl X x) (hm:X.mg x=none) (hv:bootBuiltins x=some (.type id)) (ha:JA X (e::es) (tA' K M H0 fa)) (hn:x≠"__name__":=by decide) (hdb:(x==("__debug__":Str))=false:=by decide) (he:starEach (e::es) X.env=(false,eval e X.env)::starEach es X.env:=by exact Zaa (fun _ _ z=>nomatch z)) (hpl:(backTo pos (starEach es X.env)).any (·.1)=false:=by rfl):JE X (.Call (.Name x p) (e::es) [] pos) (tF K M H0 (ZK G fa)):=⟨ZmX hc hF hg hm hv ha.h hn hdb he hpl⟩
theorem RcD.or {r r':List V→Hp→VK→Prop} {F F':List D→Option D} (h:RcD K r F) (h':RcD K r' F'):RcD K (fun xs H Q=>r xs H Q∨r' xs H Q) (fun ds=>orO (F ds) (F' ds)):=by
 intro N H vs ds d Q nh h1 e q
 cases hF:F ds with
 | some z=>simp only [hF,orO] at e;cases e;exact .inl (h N H vs ds d Q nh h1 hF q)
 | none=>simp only [hF,orO] at e;exact .inr (h' N H vs ds d Q nh h1 e q)
end
inductive Res where
 | fail | next (ρ:VE) | brk (ρ:VE) | cont (ρ:VE) | ret (r:Rv)
def Beh (K:PySem.W.Frag) (M:Fb) (H0:Hp) (ρ:VE) (σ:St) (H:Hp) (ρ':VE) (Q:St→Hp→Prop):Prop:=∀ σ' H',Rel K M H0 ρ' σ' H'→Step M (Nf M ρ σ) (Nf M ρ' σ') H H'→Q σ' H'
def resOk (K:PySem.W.Frag) (M:Fb) (H0:Hp) (ρ:VE) (σ:St) (H:Hp) (D:Zew):Res→Prop
 | .fail=>False
 | .next ρ'=>Beh K M H0 ρ σ H ρ' D.nx
 | .brk ρ'=>Beh K M H0 ρ σ H ρ' D.bk
 | .cont ρ'=>Beh K M H0 ρ σ H ρ' D.ct
 | .ret r=>∀ v H',Same H0 H'→Zml K M H0 H' r v→D.rt v H'
def tS (K:PySem.W.Frag) (M:Fb) (H0:Hp) (g:VE→Res):TS:=fun D σ H=>∃ ρ,Rel K M H0 ρ σ H∧resOk K M H0 ρ σ H D (g ρ)
@[simp] def Zh (a:Res) (g:VE→Res):Res:=match a with
  | .next ρ=>g ρ
  | r=>r
theorem Beh.from {K:PySem.W.Frag} {M:Fb} {H0:Hp} {ρ ρ1 ρ':VE} {σ σ1:St} {H H1:Hp} {Q:St→Hp→Prop} (s:Step M (Nf M ρ σ) (Nf M ρ1 σ1) H H1) (h:Beh K M H0 ρ σ H ρ' Q):Beh K M H0 ρ1 σ1 H1 ρ' Q :=
 fun σ' H' R s'=>h σ' H' R (s.trans s')
theorem resOk.from {K:PySem.W.Frag} {M:Fb} {H0:Hp} {ρ ρ1:VE} {σ σ1:St} {H H1:Hp} {D:Zew} {r:Res} (s:Step M (Nf M ρ σ) (Nf M ρ1 σ1) H H1) (h:resOk K M H0 ρ σ H D r):resOk K M H0 ρ1 σ1 H1 D r:=by
 cases r with
 | fail=>exact h
 | next ρ'=>exact Beh.from s h
 | brk ρ'=>exact Beh.from s h
 | cont ρ'=>exact Beh.from s h
 | ret r=>exact h
section
variable {X:Cx} {K:PySem.W.Frag} {M:Fb} {H0:Hp} {st:Stmt} {rest:List Stmt} {g g1 g2:VE→Res} {pos:Pos} {e:Expr} {f:VE→Option D}
theorem Zr0:PSs X [] (tS K M H0 fun ρ=>.next ρ):=pss_nil.mono fun D σ H ⟨ρ,R,q⟩=>q σ H R Step.refl
theorem Zg :JB X [] (tS K M H0 fun ρ=>.next ρ):=⟨Zr0 ⟩
theorem Zpq (h1:PS X st (tS K M H0 g1)) (h2:PSs X rest (tS K M H0 g2)):PSs X (st::rest) (tS K M H0 fun ρ=>Zh (g1 ρ) g2):=(ZoN h1 h2).mono fun D σ H ⟨ρ,R,q⟩=>by
 try dsimp only at q
 refine ⟨ρ,R,?_⟩
 cases hg:g1 ρ with
 | fail=>rw [hg] at q;exact q
 | next ρ1=>rw [hg] at q;exact fun σ1 H1 R1 s1=>⟨ρ1,R1,q.from s1⟩
 | brk ρ1=>rw [hg] at q;exact q
 | cont ρ1=>rw [hg] at q;exact q
 | ret r=>rw [hg] at q;exact q
theorem Zc (h1:JS X st (tS K M H0 g1)) (h2:JB X rest (tS K M H0 g2)):JB X (st::rest) (tS K M H0 fun ρ=>Zh (g1 ρ) g2):=⟨Zpq h1.h h2.h⟩
@[simp] def Zs (o:Option D):Res:=match o with
  | some d=>.ret (.val d)
  | none=>.fail
theorem ZrO (h:PE X e (tD K M H0 f)):PS X (.Return (some e) pos) (tS K M H0 fun ρ=>Zs (f ρ)):=(Zkp h).mono fun D σ H ⟨ρ,R,q⟩=>by
 try dsimp only at q
 cases hf:f ρ with
 | none=>rw [hf] at q;exact False.elim q
 | some d =>
  rw [hf] at q
  exact ⟨ρ,d,R,hf,fun v H' s hv=>q v H' (R.same.trans s) (hv.nw fun a ha=>.inl (.inl ha))⟩
theorem Zu (h:JE X e (tD K M H0 f)):JS X (.Return (some e) pos) (tS K M H0 fun ρ=>Zs (f ρ)):=⟨ZrO h.h⟩
@[simp] def Zbs (o:Option (List D)):Res:=match o with
  | some xs=>.ret (.own xs)
  | none=>.fail
@[simp] def ZvL (o:Option (List D)):Res:=match o with
  | some xs=>.ret (.own xs true)
  | none=>.fail
theorem ZpF {f:VE→Option (List D)} (h:PE X e (tF K M H0 f)):PS X (.Return (some e) pos) (tS K M H0 fun ρ=>Zbs (f ρ)):=(Zkp h).mono fun D σ H ⟨ρ,R,q⟩=>by
 try dsimp only at q
 cases hf:f ρ with
 | none=>rw [hf] at q;exact False.elim q
 | some xs =>
  rw [hf] at q
  exact ⟨ρ,xs,R,hf,fun a vs H' s z1 z2 z3=>q (.ref a) H' (R.same.trans s) ⟨a,vs,rfl,R.same.free z1,z2,z3.nw fun b hb=>by
   rcases hb with hb | hb
   ·exact .inl (.inl (.inl hb))
   ·exact .inl (.inr hb)⟩⟩
theorem ZeA {f:VE→Option (List D)} (h:JE X e (tF K M H0 f)):JS X (.Return (some e) pos) (tS K M H0 fun ρ=>Zbs (f ρ)):=⟨ZpF h.h⟩
@[simp] def rdO (ρ:VE) (i:Nat):Option (List D):=match ρ[i]? with
  | some (.own xs)=>some xs
  | _=>none
theorem ZfH {ρ:VE} {i:Nat} {xs:List D} (h:rdO ρ i=some xs):ρ[i]?=some (.own xs):=by
 unfold rdO at h
 split at h
 ·cases h;assumption
 ·cases h
@[simp] def rdG (ρ:VE) (i:Nat):Option (List D):=match ρ[i]? with
  | some (.own xs true)=>some xs
  | _=>none
theorem ZkK {ρ:VE} {i:Nat} {xs:List D} (h:rdG ρ i=some xs):ρ[i]?=some (.own xs true):=by
 unfold rdG at h
 split at h
 ·cases h;assumption
 ·cases h
theorem join_some {σ:St} {i:Nat} {v:V} (e1:σ[i]?.join=some v):σ[i]?=some (some v):=by
 cases z:σ[i]? with
 | none=>rw [z] at e1;cases e1
 | some o=>rw [z] at e1;cases e1;rfl
theorem Zqp {i:Nat} {x:Str} {vpos:Pos} (hN:X.N[i]?=some x) (hv:Vis X.env.scope x) (hd:(x==("__debug__":Str))=false:=by decide) (hcd:(x==("__classdict__":Str))=false:=by decide) :
  PS X (.Return (some (.Name x vpos)) pos) (tS K M H0 fun ρ=>Zbs (rdO ρ i)):=(Zkp (ZcP hN hv hd hcd)).mono fun D σ H ⟨ρ,R,q⟩=>by
 try dsimp only at q
 cases hf:rdO ρ i with
 | none=>rw [hf] at q;exact False.elim q
 | some xs =>
  rw [hf] at q
  obtain ⟨a,vs,e1,z1,z2,z3,z4⟩:=R.slot i _ (ZfH hf)
  refine ⟨.ref a,join_some e1,q (.ref a) H R.same ⟨a,vs,rfl,z1,z3,z4.nw fun b hb=>.inl ?_⟩⟩
  rcases hb with hb | hb
  ·exact .inl hb
  ·subst hb;exact .inr ⟨i,xs,_,ZfH hf,join_some e1⟩
@[simp] def Zw (c:Option Bool) (a b:Res):Res:=match c with
  | some true=>a
  | some false=>b
  | none=>.fail
theorem ZtW {c:Expr} {a b:List Stmt} {t:VE→Option Bool} (hc:PT X c (tB' K M H0 t)) (ha:PSs X a (tS K M H0 g1)) (hb:PSs X b (tS K M H0 g2)):PS X (.If c a b pos) (tS K M H0 fun ρ=>Zw (t ρ) (g1 ρ) (g2 ρ)):=(ZoY hc ha hb).mono fun D σ H ⟨ρ,R,q⟩=>by
 try dsimp only at q
 cases ht:t ρ with
 | none=>rw [ht] at q;exact False.elim q
 | some k =>
  rw [ht] at q
  refine ⟨ρ,k,R,ht,fun H1 s=>?_⟩
  cases k with
  | true=>refine Zd0 ?_;exact ⟨ρ,R.st s,resOk.from (Step.of_same s) q⟩
  | false=>refine Zd4 ?_;exact ⟨ρ,R.st s,resOk.from (Step.of_same s) q⟩
theorem ZF {c:Expr} {a b:List Stmt} {t:VE→Option Bool} (hc:JT X c (tB' K M H0 t)) (ha:JB X a (tS K M H0 g1)) (hb:JB X b (tS K M H0 g2)):JS X (.If c a b pos) (tS K M H0 fun ρ=>Zw (t ρ) (g1 ρ) (g2 ρ)):=⟨ZtW hc.h ha.h hb.h⟩
theorem Zda {α:Type} {l:List α} {i:Nat} {x y:α} (h:(l.set i x)[i]?=some y):i<l.length∧x=y:=by
 by_cases hi:i<l.length
 ·rw [List.getElem?_set_self hi] at h;exact ⟨hi,Option.some.inj h⟩
 ·rw [List.getElem?_eq_none (by simpa using Nat.le_of_not_lt hi)] at h;cases h
theorem Zfi {M:Fb} {ρ:VE} {σ:St} {i:Nat} {s:Sl} {v:V} {b:Addr} (hl:ρ.length=σ.length) (h:Nf M (ρ.set i s) (σ.set i (some v)) b):Nf M ρ σ b∨∃ xs fl,s=.own xs fl∧v=.ref b:=by
 rcases h with h | ⟨j,xs,fl,h1,h2⟩
 ·exact .inl (.inl h)
 ·by_cases e:i=j
  ·subst e
   have q1:=(Zda h1).2
   have q2:=(Zda h2).2
   cases q1;cases q2;exact .inr ⟨xs,fl,rfl,rfl⟩
  ·rw [List.getElem?_set_ne e] at h1 h2
   exact .inl (.inr ⟨j,xs,fl,h1,h2⟩)
theorem Rel.put {ρ:VE} {σ:St} {H H':Hp} {i:Nat} {s:Sl} {v:V} (R:Rel K M H0 ρ σ H) (S:Step M (Nf M ρ σ) (Nf M (ρ.set i s) (σ.set i (some v))) H H') (sm:Same H0 H')
  (ow:∀ j a vs xs fl,j≠i→ρ[j]?=some (.own xs fl)→σ[j]?=some (some (.ref a))→H a=some (CO fl xs vs)→H' a=some (CO fl xs vs))
  (hs:i<ρ.length→ZqR K M (Nf M (ρ.set i s) (σ.set i (some v))) H0 H' s (some v))
  (hinj:∀ xs fl a j ys fl',s=.own xs fl→v=.ref a→j≠i→ρ[j]?=some (.own ys fl')→σ[j]?≠some (some (.ref a))):Rel K M H0 (ρ.set i s) (σ.set i (some v)) H' where
 len:=by rw [List.length_set,List.length_set];exact R.len
 same:=sm
 mh:=fun a h z=>by
  cases e:H a with
  | none=>exact R.mh a h e
  | some o=>rw [S.kp a o e (.inr (.inl h))] at z;cases z
 slot:=fun j sl e=>by
  by_cases eij:i=j
  ·subst eij
   obtain ⟨hi,e⟩:=Zda e
   subst e
   rw [List.getElem?_set_self (by rw [← R.len];exact hi)]
   exact hs hi
  ·rw [List.getElem?_set_ne eij] at e ⊢
   have q:=R.slot j sl e
   cases sl with
   | no=>trivial
   | val d=>obtain ⟨u,e1,h⟩:=q;exact ⟨u,e1,Den.step S d u h⟩
   | own xs fl=>obtain ⟨a,vs,e1,h1,h2,h3,h4⟩:=q;exact ⟨a,vs,e1,h1,h2,ow j a vs xs fl (Ne.symm eij) e (join_some e1) h3,DenL.step S xs vs h4⟩
   | lent xs fl=>obtain ⟨a,vs,e1,h1,h2,h3⟩:=q;exact ⟨a,vs,e1,h1,h2.step S (.inr (.inl h1)),DenL.step S xs vs h3⟩
   | exc c=>obtain ⟨a,C,e1,h1,h2⟩:=q;exact ⟨a,C,e1,h1,S.kp _ _ h2 (.inr (.inr rfl))⟩
 inj:=fun j k xs ys fl fl' a h1 h2 h3 h4=>by
  by_cases ej:i=j
  ·by_cases ek:i=k
   ·rw [← ej,ek]
   ·subst ej
    rw [List.getElem?_set_ne ek] at h2 h4
    have q1:=(Zda h1).2
    have q3:=(Zda h3).2
    cases q1;cases q3;exact absurd h4 (hinj xs fl a k ys fl' rfl rfl (Ne.symm ek) h2)
  ·rw [List.getElem?_set_ne ej] at h1 h3
   by_cases ek:i=k
   ·subst ek
    have q2:=(Zda h2).2
    have q4:=(Zda h4).2
    cases q2;cases q4;exact absurd h3 (hinj ys fl' a j xs fl rfl rfl (Ne.symm ej) h1)
   ·rw [List.getElem?_set_ne ek] at h2 h4
    exact R.inj j k xs ys fl fl' a h1 h2 h3 h4
theorem Rel.setV {ρ:VE} {σ:St} {H H':Hp} {i:Nat} {d:D} {v:V} (R:Rel K M H0 ρ σ H) (s:Same H H') (h:Den K (Nf M ρ σ) H' d v) :
  Rel K M H0 (ρ.set i (.val d)) (σ.set i (some v)) H'∧Step M (Nf M ρ σ) (Nf M (ρ.set i (.val d)) (σ.set i (some v))) H H':=by
 have S:Step M (Nf M ρ σ) (Nf M (ρ.set i (.val d)) (σ.set i (some v))) H H':=⟨fun a o e _=>s a o e,fun b hb=>by
  rcases Zfi R.len hb with q | ⟨xs,_,e,_⟩
  ·exact .inl q
  ·cases e⟩
 refine ⟨R.put S (R.same.trans s) (fun j a vs xs fl _ _ _ e=>s _ _ e) (fun _=>⟨v,rfl,h.nw fun b hb=>?_⟩) (fun xs fl a j ys fl' e=>nomatch e),S⟩
 rcases Zfi R.len hb with q | ⟨xs,_,e,_⟩
 ·exact .inl q
 ·cases e
theorem Rel.setO {fl:Bool} {ρ:VE} {σ:St} {H H':Hp} {i:Nat} {xs:List D} {a:Addr} {vs:List V} (R:Rel K M H0 ρ σ H) (s:Same H H') (hn:H a=none) (ha:H' a=some (CO fl xs vs)) (h:DenL K (fun b=>Nf M ρ σ b∨b=a) H' xs vs) :
  Rel K M H0 (ρ.set i (.own xs fl)) (σ.set i (some (.ref a))) H'∧Step M (Nf M ρ σ) (Nf M (ρ.set i (.own xs fl)) (σ.set i (some (.ref a)))) H H':=by
 have nf:∀ b,Nf M (ρ.set i (.own xs fl)) (σ.set i (some (.ref a))) b→Nf M ρ σ b∨b=a:=fun b hb=>by
  rcases Zfi R.len hb with q | ⟨xs,fl,e,e'⟩
  ·exact .inl q
  ·cases e';exact .inr rfl
 have S:Step M (Nf M ρ σ) (Nf M (ρ.set i (.own xs fl)) (σ.set i (some (.ref a)))) H H':=⟨fun a o e _=>s a o e,fun b hb=>by
  rcases nf b hb with q | q
  ·exact .inl q
  ·subst q;exact .inr hn⟩
 refine ⟨R.put S (R.same.trans s) (fun j a vs xs fl _ _ _ e=>s _ _ e) (fun _=>⟨a,vs,rfl,R.same.free hn,fun hm=>R.fresh hn (.inl hm),ha,h.nw fun b hb=>.inl (nf b hb)⟩) (fun xs' fl' a' j ys fl2 e e' hj h1 h2=>?_),S⟩
 cases e'
 exact R.fresh hn (.inr ⟨j,ys,fl2,h1,h2⟩)
theorem Rel.chg {fl fl2:Bool} {ρ:VE} {σ:St} {H:Hp} {i:Nat} {xs ys:List D} {a:Addr} {ws:List V} (R:Rel K M H0 ρ σ H) (hi:ρ[i]?=some (.own xs fl)) (ha:σ[i]?=some (some (.ref a))) (h:DenL K (Nf M ρ σ) H ys ws) :
  Rel K M H0 (ρ.set i (.own ys fl2)) σ (upd H a (CO fl2 ys ws))∧Step M (Nf M ρ σ) (Nf M (ρ.set i (.own ys fl2)) σ) H (upd H a (CO fl2 ys ws)):=by
 obtain ⟨a',vs,e1,z1,z2,z3,z4⟩:=R.slot i _ hi
 rw [ha] at e1
 have ea:a=a':=by simpa using e1
 subst ea
 have hσ:σ.set i (some (.ref a))=σ:=by
  apply List.ext_getElem?
  intro j
  by_cases e:i=j
  ·subst e
   rw [List.getElem?_set_self (List.getElem?_eq_some_iff.mp ha).1,ha]
  ·rw [List.getElem?_set_ne e]
 have na:Nf M ρ σ a:=.inr ⟨i,xs,fl,hi,ha⟩
 have nf:∀ b,Nf M (ρ.set i (.own ys fl2)) (σ.set i (some (.ref a))) b→Nf M ρ σ b:=fun b hb=>by
  rcases Zfi R.len hb with q | ⟨xs,_,e,e'⟩
  ·exact q
  ·cases e';exact na
 have S:Step M (Nf M ρ σ) (Nf M (ρ.set i (.own ys fl2)) (σ.set i (some (.ref a)))) H (upd H a (CO fl2 ys ws)):=⟨fun b o e z=>by
   have ne:b≠a:=by
    rintro rfl
    rcases z with z | z | z
    ·exact z na
    ·exact z2 z
    ·rw [z3] at e;cases e;rw [ZrK] at z;cases z
   rw [ZE ne];exact e,fun b hb=>.inl (nf b hb)⟩
 have key:Rel K M H0 (ρ.set i (.own ys fl2)) (σ.set i (some (.ref a))) (upd H a (CO fl2 ys ws)):=by
  refine R.put S (fun b o e=>?_) (fun j b us xs' fl' hj h1 h2 h3=>?_) (fun _=>⟨a,ws,rfl,z1,z2,Zak,DenL.step S ys ws h⟩) (fun xs' fl3 b j ys' fl' e e' hj h1 h2=>?_)
  ·have ne:b≠a:=by
    rintro rfl
    rw [z1] at e;cases e
   rw [ZE ne];exact R.same b o e
  ·have ne:b≠a:=by
    rintro rfl
    exact hj (R.inj j i xs' xs fl' fl b h1 hi h2 ha)
   rw [ZE ne];exact h3
  ·cases e'
   exact hj (R.inj j i ys' xs fl' fl _ h1 hi h2 ha)
 rw [hσ] at key S
 exact ⟨key,S⟩
theorem Rel.frz {fl:Bool} {ρ:VE} {σ:St} {H:Hp} {i:Nat} {xs:List D} (R:Rel K M H0 ρ σ H) (hi:ρ[i]?=some (.own xs fl)) :
  Rel K M H0 (ρ.set i (.val (.lst xs fl))) σ H∧Step M (Nf M ρ σ) (Nf M (ρ.set i (.val (.lst xs fl))) σ) H H:=by
 obtain ⟨a,vs,e1,z1,z2,z3,z4⟩:=R.slot i _ hi
 have ha:=join_some e1
 have hσ:σ.set i (some (.ref a))=σ:=by
  apply List.ext_getElem?
  intro j
  by_cases e:i=j
  ·subst e
   rw [List.getElem?_set_self (List.getElem?_eq_some_iff.mp ha).1,ha]
  ·rw [List.getElem?_set_ne e]
 have nf:∀ b,Nf M (ρ.set i (.val (.lst xs fl))) (σ.set i (some (.ref a))) b→Nf M ρ σ b:=fun b hb=>by
  rcases Zfi R.len hb with q | ⟨xs,_,e,e'⟩
  ·exact q
  ·cases e
 have nna:¬ Nf M (ρ.set i (.val (.lst xs fl))) (σ.set i (some (.ref a))) a:=by
  rintro (h | ⟨j,ys,fl',h1,h2⟩)
  ·exact z2 h
  ·by_cases e:i=j
   ·subst e
    have q1:=(Zda h1).2
    cases q1
   ·rw [List.getElem?_set_ne e] at h1 h2
    exact e (R.inj i j xs ys _ _ a hi h1 ha h2)
 have S:Step M (Nf M ρ σ) (Nf M (ρ.set i (.val (.lst xs fl))) (σ.set i (some (.ref a)))) H H:=⟨fun _ _ e _=>e,fun b hb=>.inl (nf b hb)⟩
 have key:Rel K M H0 (ρ.set i (.val (.lst xs fl))) (σ.set i (some (.ref a))) H:=by
  refine R.put S R.same (fun _ _ _ _ _ _ _ _ h=>h) (fun _=>⟨.ref a,rfl,?_⟩) (fun xs' _ b j ys' _ e=>nomatch e)
  simp only [Den]
  exact ⟨a,vs,rfl,.of nna z3,DenL.step S xs vs z4⟩
 rw [hσ] at key S
 exact ⟨key,S⟩
@[simp] def Zt (i:Nat) (o:Option D) (ρ:VE):Res:=match o with
  | some d=>.next (ρ.set i (.val d))
  | none=>.fail
@[simp] def ZaQ (i:Nat) (o:Option (List D)) (ρ:VE):Res:=match o with
  | some xs=>.next (ρ.set i (.own xs))
  | none=>.fail
@[simp] def Zd8 (i:Nat) (o:Option (List D)) (ρ:VE):Res:=match o with
  | some xs=>.next (ρ.set i (.own xs true))
  | none=>.fail
theorem ZqL {f:VE→Option (List D)} {i:Nat} {D':Zew} {σ:St} {H:Hp} (h:tS K M H0 (fun ρ=>Zd8 i (f ρ) ρ) D' σ H):ZjQ (tFb true K M H0 f) (Zia i) D' σ H:=by
 obtain ⟨ρ,R,q⟩:=h
 try dsimp only at q
 cases hf:f ρ with
 | none=>simp only [hf,Zd8] at q;exact False.elim q
 | some d =>
  simp only [hf,Zd8] at q
  refine ⟨ρ,d,R,hf,fun a vs H1 s z1 z2 z3=>?_⟩
  obtain ⟨R1,S1⟩:=R.setO (i:=i) s z1 z2 z3
  exact q _ _ R1 S1
theorem Zqi {f:VE→Option (List D)} {i:Nat} {x:Str} {pos':Pos} (hN:X.N.Nodup) (hi:X.N[i]?=some x) (hx:Loc X.env.scope x) (he:PE X e (tFb true K M H0 f)) (hs:swapsWith e (some (.Name x pos')) pos.line X.env=pure false:=by rfl) (hf:X.fn x=true∨X.env.scope.names.lookup x=some .local:=by first | exact .inl rfl | exact .inr rfl | assumption) :
  PS X (.Assign [.Name x pos'] e pos) (tS K M H0 fun ρ=>Zd8 i (f ρ) ρ):=(ZjX hN hi hx he hs hf).mono fun _ _ _ q=>ZqL q
theorem ZeE {f:VE→Option (List D)} {i:Nat} {x:Str} {pos':Pos} (hN:X.N.Nodup) (hi:X.N[i]?=some x) (hx:Loc X.env.scope x) (he:JE X e (tFb true K M H0 f)) (hs:swapsWith e (some (.Name x pos')) pos.line X.env=pure false:=by rfl) (hf:X.fn x=true∨X.env.scope.names.lookup x=some .local:=by first | exact .inl rfl | exact .inr rfl | assumption):JS X (.Assign [.Name x pos'] e pos) (tS K M H0 fun ρ=>Zd8 i (f ρ) ρ):=⟨Zqi hN hi hx he.h hs hf⟩
theorem Zs1 {i:Nat} {D':Zew} {σ:St} {H:Hp} (h:tS K M H0 (fun ρ=>Zt i (f ρ) ρ) D' σ H):ZjQ (tD K M H0 f) (Zia i) D' σ H:=by
 obtain ⟨ρ,R,q⟩:=h
 try dsimp only at q
 cases hf:f ρ with
 | none=>simp only [hf,Zt] at q;exact False.elim q
 | some d =>
  simp only [hf,Zt] at q
  refine ⟨ρ,d,R,hf,fun v H1 s hv=>?_⟩
  obtain ⟨R1,S1⟩:=R.setV (i:=i) s hv
  exact q _ _ R1 S1
theorem Zrz {f:VE→Option (List D)} {i:Nat} {D':Zew} {σ:St} {H:Hp} (h:tS K M H0 (fun ρ=>ZaQ i (f ρ) ρ) D' σ H):ZjQ (tF K M H0 f) (Zia i) D' σ H:=by
 obtain ⟨ρ,R,q⟩:=h
 try dsimp only at q
 cases hf:f ρ with
 | none=>simp only [hf,ZaQ] at q;exact False.elim q
 | some d =>
  simp only [hf,ZaQ] at q
  refine ⟨ρ,d,R,hf,fun a vs H1 s z1 z2 z3=>?_⟩
  obtain ⟨R1,S1⟩:=R.setO (i:=i) s z1 z2 z3
  exact q _ _ R1 S1
theorem Zrm {i:Nat} {x:Str} {pos':Pos} (hN:X.N.Nodup) (hi:X.N[i]?=some x) (hx:Loc X.env.scope x) (he:PE X e (tD K M H0 f)) (hs:swapsWith e (some (.Name x pos')) pos.line X.env=pure false:=by rfl) (hf:X.fn x=true∨X.env.scope.names.lookup x=some .local:=by first | exact .inl rfl | exact .inr rfl | assumption) :
  PS X (.Assign [.Name x pos'] e pos) (tS K M H0 fun ρ=>Zt i (f ρ) ρ):=(ZjX hN hi hx he hs hf).mono fun _ _ _ q=>Zs1 q
theorem ZA {i:Nat} {x:Str} {pos':Pos} (hN:X.N.Nodup) (hi:X.N[i]?=some x) (hx:Loc X.env.scope x) (he:JE X e (tD K M H0 f)) (hs:swapsWith e (some (.Name x pos')) pos.line X.env=pure false:=by rfl) (hf:X.fn x=true∨X.env.scope.names.lookup x=some .local:=by first | exact .inl rfl | exact .inr rfl | assumption):JS X (.Assign [.Name x pos'] e pos) (tS K M H0 fun ρ=>Zt i (f ρ) ρ):=⟨Zrm hN hi hx he.h hs hf⟩
theorem Zqu {f:VE→Option (List D)} {i:Nat} {x:Str} {pos':Pos} (hN:X.N.Nodup) (hi:X.N[i]?=some x) (hx:Loc X.env.scope x) (he:PE X e (tF K M H0 f)) (hs:swapsWith e (some (.Name x pos')) pos.line X.env=pure false:=by rfl) (hf:X.fn x=true∨X.env.scope.names.lookup x=some .local:=by first | exact .inl rfl | exact .inr rfl | assumption) :
  PS X (.Assign [.Name x pos'] e pos) (tS K M H0 fun ρ=>ZaQ i (f ρ) ρ):=(ZjX hN hi hx he hs hf).mono fun _ _ _ q=>Zrz q
theorem ZbK {f:VE→Option (List D)} {i:Nat} {x:Str} {pos':Pos} (hN:X.N.Nodup) (hi:X.N[i]?=some x) (hx:Loc X.env.scope x) (he:JE X e (tF K M H0 f)) (hs:swapsWith e (some (.Name x pos')) pos.line X.env=pure false:=by rfl) (hf:X.fn x=true∨X.env.scope.names.lookup x=some .local:=by first | exact .inl rfl | exact .inr rfl | assumption):JS X (.Assign [.Name x pos'] e pos) (tS K M H0 fun ρ=>ZaQ i (f ρ) ρ):=⟨Zqu hN hi hx he.h hs hf⟩
@[simp] def ZvM (i:Nat) (ρ:VE):VE:=match ρ[i]? with
  | some (.own xs b)=>ρ.set i (.val (.lst xs b))
  | _=>ρ
@[simp] def ZbN (i:Nat) (o:Option D) (ρ:VE):Res:=match rdO ρ i,o with
  | some xs,some d=>if xs.length<sizeLine then .next (ρ.set i (.own (xs++[d]))) else .fail
  | _,_=>.fail
theorem ZmZ {i:Nat} {x:Str} {vpos apos cpos:Pos} (hN:X.N[i]?=some x) (hv:Vis X.env.scope x) (he:PE X e (tD K M H0 f)) (hd:(x==("__debug__":Str))=false:=by decide) (hcd:(x==("__classdict__":Str))=false:=by decide)
  (hs:swapsWith (.Call (.Attribute (.Name x vpos) "append" apos) [e] [] cpos) none pos.line X.env=pure false:=by rfl)
  (hbase:attributeBase (.Name x vpos) "append" X.env (eval (.Name x vpos) X.env)=eval (.Name x vpos) X.env:=by rfl)
  (hfew:((backTo cpos (starEach [e] X.env)).all (fun x=>!x.1)&&(backToKw cpos (keywordEach [] X.env)).all (fun x=>x.1.isSome)
   && decide ([e].length+([]:List Keyword).length+(if ([]:List Keyword).isEmpty then 0 else 1)<30))=true:=by rfl)
  (hline:(apos.endLine==cpos.line)=true:=by rfl) (hst:starEach [e] X.env=(false,eval e X.env)::starEach [] X.env:=by rfl) (hpl:(backTo cpos (starEach [] X.env)).any (·.1)=false:=by rfl) :
  PS X (.Expr (.Call (.Attribute (.Name x vpos) "append" apos) [e] [] cpos) pos) (tS K M H0 fun ρ=>ZbN i (f ρ) ρ) :=
 (Zlz (Zmm PySem.F.plainAttrs_list PySem.F.slot_list_append PySem.F.type_list_append ZmK (ZcP hN hv hd hcd) (Zdb he pa_nil hst) hbase hfew hline hst hpl) hs).mono fun D' σ H ⟨ρ,R,q⟩=>by
  try dsimp only at q
  cases hr:rdO ρ i with
  | none=>simp only [hr,ZbN] at q;exact False.elim q
  | some xs =>
   cases hf:f ρ with
   | none=>simp only [hr,hf,ZbN] at q;exact False.elim q
   | some d =>
    simp only [hr,hf,ZbN] at q
    split at q
    ·next hz =>
     have hi:=ZfH hr
     obtain ⟨a,vs,e1,z1,z2,z3,z4⟩:=R.slot i _ hi
     have ha:=join_some e1
     refine ⟨.ref a,ha,.inl ⟨rfl,vs,.inl (.inl z3)⟩,ρ,d,R,hf,fun v H1 s hv=>?_⟩
     have R1:=R.st s
     obtain ⟨R2,S2⟩:=R1.chg (ys:=xs++[d]) (ws:=vs++[v]) hi ha ((z4.same s).append (DenL.cons hv DenL.nil))
     exact ⟨a,vs,v,rfl,rfl,s _ _ z3,by rw [← z4.length];exact hz,q _ _ R2 ((Step.of_same s).trans S2)⟩
    ·exact False.elim q
theorem Zbw {i:Nat} {x:Str} {vpos apos cpos:Pos} (hN:X.N[i]?=some x) (hv:Vis X.env.scope x) (he:JE X e (tD K M H0 f)) (hd:(x==("__debug__":Str))=false:=by decide) (hcd:(x==("__classdict__":Str))=false:=by decide) (hs:swapsWith (.Call (.Attribute (.Name x vpos) "append" apos) [e] [] cpos) none pos.line X.env=pure false:=by rfl) (hbase:attributeBase (.Name x vpos) "append" X.env (eval (.Name x vpos) X.env)=eval (.Name x vpos) X.env:=by rfl) (hfew:((backTo cpos (starEach [e] X.env)).all (fun x=>!x.1)&&(backToKw cpos (keywordEach [] X.env)).all (fun x=>x.1.isSome)
   && decide ([e].length+([]:List Keyword).length+(if ([]:List Keyword).isEmpty then 0 else 1)<30))=true:=by rfl) (hline:(apos.endLine==cpos.line)=true:=by rfl) (hst:starEach [e] X.env=(false,eval e X.env)::starEach [] X.env:=by rfl) (hpl:(backTo cpos (starEach [] X.env)).any (·.1)=false:=by rfl):JS X (.Expr (.Call (.Attribute (.Name x vpos) "append" apos) [e] [] cpos) pos) (tS K M H0 fun ρ=>ZbN i (f ρ) ρ):=⟨ZmZ hN hv he.h hd hcd hs hbase hfew hline hst hpl⟩
end
def Zoj (K:PySem.W.Frag) (M N:Fb) (H1:Hp) (J:It) (ds:List D):Prop:=∀ N2 H2,Step M N N2 H1 H2→∀ i,(∀ d,ds[i]?=some d→J.go i H2∧∀ x H3,J.yld i H2 x H3→Same H2 H3∧Den K N2 H3 d x)∧(i=ds.length→J.stop i H2)
def tI (K:PySem.W.Frag) (M:Fb) (H0:Hp) (f:VE→Option (List D)):TI:=fun σ H R=>∃ ρ ds,Rel K M H0 ρ σ H∧f ρ=some ds∧∀ J H1,Same H H1→Zoj K M (Nf M ρ σ) H1 J ds→R J H1
def tG (K:PySem.W.Frag) (M:Fb) (H0:Hp) (ws:List Nat) (b:D→VE→Option VE):TG:=fun v σ H Q=>∃ ρ d ρ',Rel K M H0 ρ σ H∧Den K (Nf M ρ σ) H d v∧b d ρ=some ρ'∧∀ σ' ,Rel K M H0 ρ' σ' H→Step M (Nf M ρ σ) (Nf M ρ' σ') H H→(∀ j,j∉ws→σ'[j]?=σ[j]?)→Q σ' H
@[simp] def Zv (i:Nat) (d:D) (ρ:VE):Option VE:=some (ρ.set i (.val d))
def ZV (b:D→VE→Option VE) (g:VE→Res):List D→VE→Res
 | [],ρ=>.next ρ
 | d::ds,ρ=>match b d ρ with
  | none=>.fail
  | some ρ1=>match g ρ1 with
   | .next ρ2=>ZV b g ds ρ2
   | .cont ρ2=>ZV b g ds ρ2
   | .brk ρ2=>.next ρ2
   | r=>r
@[simp] def Zbu (f:VE→Option (List D)) (b:D→VE→Option VE) (g:VE→Res):VE→Res:=fun ρ=>match f ρ with
  | some ds=>ZV b g ds ρ
  | none=>.fail
section
variable {X:Cx} {K:PySem.W.Frag} {M:Fb} {H0:Hp} {pos:Pos} {e tg iter:Expr} {f:VE→Option (List D)} {b:D→VE→Option VE} {g:VE→Res} {body:List Stmt}
theorem Zql {i:Nat} {x:Str} (hN:X.N.Nodup) (hi:X.N[i]?=some x) (hx:Loc X.env.scope x) (hf:X.fn x=true∨X.env.scope.names.lookup x=some .local:=by first | exact .inl rfl | exact .inr rfl | assumption):PG X (.Name x pos) (tG K M H0 [i] (Zv i)):=by
 intro pins s σ H v u Q I r ⟨ρ,d,ρ',R,hd,e,q⟩
 cases e
 obtain ⟨R1,S1⟩:=R.setV (i:=i) (Same.refl H) hd
 exact Zpo hN hi hx hf pins s σ H v u Q I r (q _ R1 S1 fun j hj=>by rw [List.getElem?_set_ne (fun e=>hj (by rw [e];simp))])
theorem ZH {i:Nat} {x:Str} (hN:X.N.Nodup) (hi:X.N[i]?=some x) (hx:Loc X.env.scope x) (hf:X.fn x=true∨X.env.scope.names.lookup x=some .local:=by first | exact .inl rfl | exact .inr rfl | assumption):JG X (.Name x pos) (tG K M H0 [i] (Zv i)):=⟨Zql hN hi hx hf⟩
theorem ZsX {ws:List Nat} {D':Zew} {σ:St} {H:Hp} {wi:TI} {tg':TG} {tb:TS} (hi:∀ σ H R,tI K M H0 f σ H R→wi σ H R) (hg:∀ v σ H Q,tG K M H0 ws b v σ H Q→tg' v σ H Q) (hb:∀ D σ H,tS K M H0 g D σ H→tb D σ H)
  (h:tS K M H0 (Zbu f b g) D' σ H):ZqQ wi tg' tb D' σ H:=by
 obtain ⟨ρ,R,q⟩:=h
 try dsimp only at q
 unfold Zbu at q
 cases hf:f ρ with
 | none=>rw [hf] at q;exact False.elim q
 | some ds =>
  rw [hf] at q
  refine hi _ _ _ ⟨ρ,ds,R,hf,fun J H1 s1 ok=>?_⟩
  -- at turn i: the slots ρi from which the rest of the items gives what is wanted
  refine ⟨fun i m σi Hi=>m=ds.length-i∧i≤ds.length∧∃ ρi,Rel K M H0 ρi σi Hi∧Step M (Nf M ρ σ) (Nf M ρi σi) H1 Hi∧resOk K M H0 ρi σi Hi D' (ZV b g (ds.drop i) ρi),⟨ds.length,by simp,Nat.zero_le _,ρ,R.st s1,Step.refl,?_⟩,?_⟩
  ·exact resOk.from (Step.of_same s1) q
  ·rintro i m σi Hi ⟨rfl,hle,ρi,Ri,Si,qi⟩
   obtain ⟨ok1,ok2⟩:=ok _ _ Si i
   by_cases hlt:i<ds.length
   ·obtain ⟨go,y⟩:=ok1 ds[i] (List.getElem?_eq_getElem hlt)
    rw [List.drop_eq_getElem_cons hlt] at qi
    simp only [ZV] at qi
    refine .inr ⟨go,fun σ' H'=>i+1≤ds.length∧∃ ρi,Rel K M H0 ρi σ' H'∧Step M (Nf M ρ σ) (Nf M ρi σ') H1 H'∧resOk K M H0 ρi σ' H' D' (ZV b g (ds.drop (i+1)) ρi),fun σ' H' z=>⟨ds.length-(i+1),by omega,rfl,z⟩,fun x H' yl=>?_⟩
    obtain ⟨s3,hd⟩:=y x H' yl
    cases hbd:b ds[i] ρi with
    | none=>rw [hbd] at qi;exact False.elim qi
    | some ρ1 =>
     rw [hbd] at qi
     simp only at qi
     refine hg _ _ _ _ ⟨ρi,ds[i],ρ1,Ri.st s3,hd,hbd,fun σ1 R1 S1 _=>hb _ _ _ ⟨ρ1,R1,?_⟩⟩
     have S01:Step M (Nf M ρi σi) (Nf M ρ1 σ1) Hi H':=(Step.of_same s3).trans S1
     cases hgr:g ρ1 with
     | fail=>rw [hgr] at qi;exact qi
     | next ρ2=>rw [hgr] at qi;exact fun σ2 H2 R2 S2=>⟨hlt,ρ2,R2,Si.trans (S01.trans S2),resOk.from (S01.trans S2) qi⟩
     | cont ρ2=>rw [hgr] at qi;exact fun σ2 H2 R2 S2=>⟨hlt,ρ2,R2,Si.trans (S01.trans S2),resOk.from (S01.trans S2) qi⟩
     | brk ρ2=>rw [hgr] at qi;exact fun σ2 H2 R2 S2=>qi σ2 H2 R2 (S01.trans S2)
     | ret r=>rw [hgr] at qi;exact qi
   ·have e:i=ds.length:=by omega
    rw [List.drop_eq_nil_of_le (by omega)] at qi
    exact .inl ⟨ok2 e,qi σi Hi Ri Step.refl⟩
theorem ZsL {ws:List Nat} (hp:PassesOwn (model X.prog X.w) X.A X.env X.xe) (hc:X.calm=true) (hi:PI X tg iter (tI K M H0 f)) (hg:PG X tg (tG K M H0 ws b)) (hb:PSs X body (tS K M H0 g))
  (hs:∀ x,foldedSetIterable iter X.env x=pure x:=by intro _;rfl):PS X (.For tg iter body [] pos) (tS K M H0 (Zbu f b g)) :=
 (ZqH hp hc hi hg hb hs).mono fun _ _ _ q=>ZsX (fun _ _ _ z=>z) (fun _ _ _ _ z=>z) (fun _ _ _ z=>z) q
theorem ZaL {ws:List Nat} (hp:PassesOwn (model X.prog X.w) X.A X.env X.xe) (hc:X.calm=true) (hi:JI X tg iter (tI K M H0 f)) (hg:JG X tg (tG K M H0 ws b)) (hb:JB X body (tS K M H0 g)) (hs:∀ x,foldedSetIterable iter X.env x=pure x:=by intro _;rfl):JS X (.For tg iter body [] pos) (tS K M H0 (Zbu f b g)):=⟨ZsL hp hc hi.h hg.h hb.h hs⟩
theorem PI.mono {wi wi':TI} (h:PI X tg iter wi) (m:∀ σ H R,wi' σ H R→wi σ H R):PI X tg iter wi':=fun pins s σ H R I q=>h pins s σ H R I (m σ H R q)
def DenQ (K:PySem.W.Frag) (M N:Fb) (H:Hp) (d:D) (v:V):Prop:=match d with
 | .lst xs=>∃ a vs,v=.ref a∧(((¬ N a∨M a)∧Rd H a (.lst vs))∨KL K a vs)∧DenL K N H xs vs
 | .lst xs true=>∃ a vs,v=.ref a∧(¬ N a∨M a)∧Rd H a (.dct (ZfA xs) vs)∧DenL K N H xs vs
 | d=>Den K N H d v
def tQ (K:PySem.W.Frag) (M:Fb) (H0:Hp) (f:VE→Option D):TE:=fun σ H Q=>∃ ρ d,Rel K M H0 ρ σ H∧f ρ=some d∧∀ v H',Same H H'→DenQ K M (Nf M ρ σ) H' d v→Q v H'
theorem Den.q {M N:Fb} {H:Hp} {d:D} {v:V} (h:Den K N H d v):DenQ K M N H d v:=by
 cases d with
 | lst xs fl =>
  simp only [Den] at h
  obtain ⟨a,vs,e,q,r⟩:=h
  cases fl with
  | false =>
   refine ⟨a,vs,e,?_,r⟩
   rcases q with ⟨n,q⟩ | ⟨ws,z,q⟩
   ·exact .inl ⟨.inl n,q⟩
   ·cases z;exact .inr q
  | true =>
   rcases q with ⟨n,q⟩ | ⟨ws,z,_⟩
   ·exact ⟨a,vs,e,.inl n,q,r⟩
   ·cases z
 | _=>exact h
theorem PE.q {f:VE→Option D} (h:PE X e (tD K M H0 f)):PE X e (tQ K M H0 f):=h.mono fun σ H Q ⟨ρ,d,R,e,q⟩=>⟨ρ,d,R,e,fun v H' s z=>q v H' s z.q⟩
theorem j_q {f:VE→Option D} (h:JE X e (tD K M H0 f)):JE X e (tQ K M H0 f):=⟨PE.q h.h⟩
theorem Zpk {M N:Fb} {H:Hp} {xs:List D} {vs:List V} {fl:Bool} {a:Addr} (m:M a) (h:Rd H a (CO fl xs vs)) (r:DenL K N H xs vs):DenQ K M N H (.lst xs fl) (.ref a):=by
 cases fl with
 | false=>exact ⟨a,vs,rfl,.inl ⟨.inr m,h⟩,r⟩
 | true=>exact ⟨a,vs,rfl,.inr m,h,r⟩
@[simp] def rdQ (ρ:VE) (i:Nat):Option D:=match ρ[i]? with
  | some (.val d)=>some d
  | some (.lent xs b)=>some (.lst xs b)
  | _=>none
theorem Zst {i:Nat} {x:Str} (hN:X.N[i]?=some x) (hv:Vis X.env.scope x) (hd:(x==("__debug__":Str))=false:=by decide) (hcd:(x==("__classdict__":Str))=false:=by decide):PE X (.Name x pos) (tQ K M H0 fun ρ=>rdQ ρ i) :=
 (ZcP hN hv hd hcd).mono fun σ H Q ⟨ρ,d,R,e,q⟩=>by
  try dsimp only at e q
  unfold rdQ at e
  split at e
  ·next h=>cases e;obtain ⟨v,e1,h⟩:=R.slot i _ h;exact ⟨v,join_some e1,q v H (Same.refl H) h.q⟩
  ·next h=>cases e;obtain ⟨a,vs,e1,h2,h3,h4⟩:=R.slot i _ h;exact ⟨_,join_some e1,q _ H (Same.refl H) (Zpk h2 h3 h4)⟩
  ·cases e
def Zkq:D→Option (List D)
 | .lst xs=>some xs
 | _=>none
def ZnJ:D→Option (List D)
 | .tup xs=>some xs
 | _=>none
def ZnO:D→Option (List D)
 | .str x=>some (x.cps.toList.map fun c=>D.str ⟨#[c]⟩)
 | _=>none
theorem Zpn {l:Expr} {f:VE→Option D} (h:PE X l (tQ X.K M H0 f)):PI X tg l (tI X.K M H0 fun ρ=>(f ρ).bind Zkq):=(Zqb h).mono fun σ H R' ⟨ρ,ds,R,e,q⟩=>by
 try dsimp only at e q
 cases hf:f ρ with
 | none=>rw [hf] at e;cases e
 | some d =>
  rw [hf] at e
  cases d with
  | lst xs fl =>
   cases fl with
   | true=>cases e
   | false =>
   cases e
   refine ⟨ρ,.lst _,R,hf,fun v H1 s1 hv=>?_⟩
   obtain ⟨a,vs,e1,hr,hd⟩:=hv
   have sq:∀ N2 H2,Step M (Nf M ρ σ) N2 H1 H2→SqL X.K H2 a vs:=fun N2 H2 S=>by
    rcases hr with ⟨hn,hr⟩ | hr
    ·exact .inl (hr.step S (by rcases hn with z | z;exact .inl z;exact .inr (.inl z)))
    ·exact hr.sq
   refine ⟨a,e1,⟨vs,sq _ _ Step.refl⟩,q _ H1 s1 fun N2 H2 S i=>?_⟩
   have hr2:=sq _ _ S
   have hd2:=DenL.step S _ _ hd
   refine ⟨fun d he=>?_,fun he=>⟨vs,hr2,by rw [he,hd.length];exact Nat.le_refl _⟩⟩
   obtain ⟨w,hw,hdw⟩:=hd2.get he
   refine ⟨⟨vs,w,hr2,hw⟩,fun x H3 y=>?_⟩
   obtain ⟨e3,y⟩:=y
   subst e3
   have:=y vs hr2
   rw [hw] at this;cases this
   exact ⟨Same.refl _,hdw⟩
  | _=>cases e
theorem Zq4 {l:Expr} {f:VE→Option D} (h:PE X l (tQ X.K M H0 f)):PI X tg l (tI X.K M H0 fun ρ=>(f ρ).bind ZnJ):=(Zq8 h).mono fun σ H R' ⟨ρ,ds,R,e,q⟩=>by
 try dsimp only at e q
 cases hf:f ρ with
 | none=>rw [hf] at e;cases e
 | some d =>
  rw [hf] at e
  cases d with
  | tup xs =>
   cases e
   refine ⟨ρ,.tup _,R,hf,fun v H1 s1 hv=>?_⟩
   simp only [DenQ,Den] at hv
   obtain ⟨a,vs,e1,hr,hd⟩:=hv
   refine ⟨a,e1,⟨vs,hr⟩,q _ H1 s1 fun N2 H2 S i=>?_⟩
   have hr2:=hr.step S
   have hd2:=DenL.step S _ _ hd
   refine ⟨fun d he=>?_,fun he=>⟨vs,hr2,by rw [he,hd.length];exact Nat.le_refl _⟩⟩
   obtain ⟨w,hw,hdw⟩:=hd2.get he
   refine ⟨⟨vs,w,hr2,hw⟩,fun x H3 y=>?_⟩
   obtain ⟨e3,y⟩:=y
   subst e3
   have:=y vs hr2
   rw [hw] at this;cases this
   exact ⟨Same.refl _,hdw⟩
  | _=>cases e
theorem Zrt {l:Expr} {f:VE→Option D} (h:PE X l (tQ K M H0 f)):PI X tg l (tI K M H0 fun ρ=>(f ρ).bind ZnO):=(Zsh h).mono fun σ H R' ⟨ρ,ds,R,e,q⟩=>by
 try dsimp only at e q
 cases hf:f ρ with
 | none=>rw [hf] at e;cases e
 | some d =>
  rw [hf] at e
  cases d with
  | str x =>
   cases e
   refine ⟨ρ,.str x,R,hf,fun v H1 s1 hv=>?_⟩
   simp only [DenQ,Den] at hv
   refine ⟨x,hv,q _ H1 s1 fun N2 H2 S i=>⟨fun d he=>?_,fun he=>?_⟩⟩
   ·rw [List.getElem?_map] at he
    cases hc:x.cps.toList[i]? with
    | none=>rw [hc] at he;cases he
    | some c =>
     rw [hc] at he;cases he
     have hi:i<x.cps.size:=by
      have:=(List.getElem?_eq_some_iff.mp hc).1
      simpa using this
     refine ⟨hi,fun v H3 y=>?_⟩
     obtain ⟨e3,c',hc',y⟩:=y
     subst e3 y
     rw [← Array.getElem?_toList,hc] at hc';cases hc'
     exact ⟨Same.refl _,by simp only [Den]⟩
   ·have:i=x.cps.size:=by simpa using he
    exact Nat.le_of_eq this.symm
  | _=>cases e
def Zct (lo:Int) (n:Nat):List D:=(List.range n).map (fun (k:Nat)=>D.int (lo+(k:Int)))
theorem ZmO {M N:Fb} {H1:Hp} {lo:Int} {n:Nat}:Zoj K M N H1 (Itr lo n) (Zct lo n):=fun N2 H2 S i=>by
 refine ⟨fun d he=>?_,fun he=>?_⟩
 ·have hi:i<n:=by
   have:=(List.getElem?_eq_some_iff.mp he).1
   simpa [Zct] using this
  have e:d=D.int (lo+i):=by
   simp only [Zct,List.getElem?_map,List.getElem?_range hi,Option.map_some,Option.some.injEq] at he
   exact he.symm
  subst e
  refine ⟨hi,fun x H3 y=>?_⟩
  obtain ⟨e3,y⟩:=y
  subst e3 y
  exact ⟨Same.refl _,by simp only [Den]⟩
 ·have:i=n:=by simpa [Zct] using he
  exact Nat.le_of_eq this.symm
noncomputable def gd {α:Type} (p:Prop) (o:Option α):Option α:=@ite _ p (Classical.propDecidable p) o none
theorem ZgI {α:Type} {p:Prop} {o:Option α} (h:p):gd p o=o:=by unfold gd;exact @if_pos _ (Classical.propDecidable p) h _ _ _
theorem Zj6 {α:Type} {p:Prop} {o:Option α} {x:α} (h:gd p o=some x):p∧o=some x:=by
 by_cases hp:p
 ·rw [ZgI hp] at h;exact ⟨hp,h⟩
 ·unfold gd at h
  rw [@if_neg _ (Classical.propDecidable p) hp] at h
  cases h
noncomputable def Zc7:List D→Option (List D)
 | [.int j]=>gd (-1000000000≤j∧j<1000000000) (some (Zct 0 j.toNat))
 | _=>none
noncomputable def ZhU:List D→Option (List D)
 | [.int i,.int j]=>gd (-1000000000≤i∧i<1000000000 ∧ -1000000000≤j∧j<1000000000) (some (Zct i (j-i).toNat))
 | _=>none
theorem Znq {a:Expr} {fa:VE→Option (List Sl)} {p:Pos} (hg:Gl X "range") (hm:X.mg "range"=none) (ha:PA X [a] (tA' K M H0 fa)) (hs:starEach [a] X.env=[(false,eval a X.env)]:=by rfl):PI X tg (.Call (.Name "range" p) [a] [] pos) (tI K M H0 fun ρ=>((fa ρ).bind Zr).bind Zc7) :=
 (Znu hg hm ha hs).mono fun σ H R' ⟨ρ,ds,R,e,q⟩=>by
  try dsimp only at e q
  cases hf:fa ρ with
  | none=>rw [hf] at e;cases e
  | some ss =>
   rw [hf] at e
   cases hv:Zr ss with
   | none=>simp only [Option.bind,hv] at e;cases e
   | some l =>
    simp only [Option.bind,hv] at e
    unfold Zc7 at e
    split at e
    ·next j =>
     obtain ⟨hz,e⟩:=Zj6 e
     cases e
     refine ⟨ρ,ss,R,hf,fun vs H1 s1 h1=>?_⟩
     have hd:=Zel h1 hv
     simp only [DenL,Den] at hd
     obtain ⟨v,r,e1,e2,e3⟩:=hd
     subst e1 e2 e3
     exact ⟨j,rfl,by omega,by omega,q _ H1 s1 ZmO⟩
    ·cases e
theorem Zb9 {a:Expr} {fa:VE→Option (List Sl)} {p:Pos} (hg:Gl X "range") (hm:X.mg "range"=none) (ha:JA X [a] (tA' K M H0 fa)) (hs:starEach [a] X.env=[(false,eval a X.env)]:=by rfl):JI X tg (.Call (.Name "range" p) [a] [] pos) (tI K M H0 fun ρ=>((fa ρ).bind Zr).bind Zc7):=⟨Znq hg hm ha.h hs⟩
theorem Znd {a b:Expr} {fa:VE→Option (List Sl)} {p:Pos} (hg:Gl X "range") (hm:X.mg "range"=none) (ha:PA X [a,b] (tA' K M H0 fa)) (hs:starEach [a,b] X.env=[(false,eval a X.env),(false,eval b X.env)]:=by rfl) (hs2:starEach [b] X.env=[(false,eval b X.env)]:=by rfl) :
  PI X tg (.Call (.Name "range" p) [a,b] [] pos) (tI K M H0 fun ρ=>((fa ρ).bind Zr).bind ZhU) :=
 (ZnG hg hm ha hs hs2).mono fun σ H R' ⟨ρ,ds,R,e,q⟩=>by
  try dsimp only at e q
  cases hf:fa ρ with
  | none=>rw [hf] at e;cases e
  | some ss =>
   rw [hf] at e
   cases hv:Zr ss with
   | none=>simp only [Option.bind,hv] at e;cases e
   | some l =>
    simp only [Option.bind,hv] at e
    unfold ZhU at e
    split at e
    ·next i j =>
     obtain ⟨hz,e⟩:=Zj6 e
     cases e
     refine ⟨ρ,ss,R,hf,fun vs H1 s1 h1=>?_⟩
     have hd:=Zel h1 hv
     simp only [DenL,Den] at hd
     obtain ⟨v,r,e1,e2,v',r',e3,e4,e5⟩:=hd
     subst e2 e4 e5 e3 e1
     exact ⟨i,j,rfl,⟨by omega,by omega,by omega,by omega⟩,q _ H1 s1 ZmO⟩
    ·cases e
theorem Zli {a b:Expr} {fa:VE→Option (List Sl)} {p:Pos} (hg:Gl X "range") (hm:X.mg "range"=none) (ha:JA X [a,b] (tA' K M H0 fa)) (hs:starEach [a,b] X.env=[(false,eval a X.env),(false,eval b X.env)]:=by rfl) (hs2:starEach [b] X.env=[(false,eval b X.env)]:=by rfl):JI X tg (.Call (.Name "range" p) [a,b] [] pos) (tI K M H0 fun ρ=>((fa ρ).bind Zr).bind ZhU):=⟨Znd hg hm ha.h hs hs2⟩
end
end L2
set_option Elab.async false
set_option linter.all false
set_option maxRecDepth 100000
namespace L2
open PySem PySem.Spec PyProof.Rows
def tGs (K:PySem.W.Frag) (M:Fb) (H0:Hp) (ws:List Nat) (b:List D→VE→Option VE):TGs:=fun vs σ H Q=>∃ ρ ds ρ',Rel K M H0 ρ σ H∧DenL K (Nf M ρ σ) H ds vs∧b ds ρ=some ρ'∧∀ σ' ,Rel K M H0 ρ' σ' H→Step M (Nf M ρ σ) (Nf M ρ' σ') H H→(∀ j,j∉ws→σ'[j]?=σ[j]?)→Q σ' H
@[simp] def Zgq:List D→VE→Option VE
  | [],ρ=>some ρ
  | _,_=>none
@[simp] def Zbi (b:D→VE→Option VE) (c:List D→VE→Option VE):List D→VE→Option VE
  | d::r,ρ=>(b d ρ).bind (c r)
  | _,_=>none
@[simp] def ZfJ (n:Nat) (b:List D→VE→Option VE):D→VE→Option VE
  | .tup ds,ρ=>if ds.length=n then b ds ρ else none
  | _,_=>none
section
variable {X:Cx} {K:PySem.W.Frag} {M:Fb} {H0:Hp} {pos:Pos} {e tg iter:Expr} {es:List Expr} {ws ws':List Nat} {b:D→VE→Option VE} {c:List D→VE→Option VE}
theorem ZpL:PGs X [] (tGs K M H0 [] Zgq):=by
 intro pins s σ H vs us Q I r ⟨ρ,ds,ρ',R,hd,e,q⟩
 cases ds with
 | nil =>
  cases e
  simp only [DenL] at hd
  exact Zqc pins s σ H vs us Q I r ⟨hd,q σ R Step.refl fun _ _=>rfl⟩
 | cons=>cases e
theorem ZiS :JK X [] (tGs K M H0 [] Zgq):=⟨ZpL ⟩
theorem ZoQ (h1:PG X e (tG K M H0 ws b)) (h2:PGs X es (tGs K M H0 ws' c)) (hs:(assignEach (e::es) X.env).map (·.2)=assign e X.env::(assignEach es X.env).map (·.2):=by rfl):PGs X (e::es) (tGs K M H0 (ws++ws') (Zbi b c)):=by
 intro pins s σ H vs us Q I r ⟨ρ,ds,ρ',R,hd,e,q⟩
 cases ds with
 | nil=>cases e
 | cons d ds =>
  simp only [DenL] at hd
  obtain ⟨v,vr,e1,hv,hr⟩:=hd
  subst e1
  simp only [Zbi] at e
  cases hb:b d ρ with
  | none=>rw [hb] at e;cases e
  | some ρ1 =>
   rw [hb] at e
   refine Zn8 h1 h2 hs pins s σ H _ us Q I r ⟨v,vr,rfl,ρ,d,ρ1,R,hv,hb,fun σ1 R1 S1 w1=>⟨ρ1,ds,ρ',R1,DenL.step S1 _ _ hr,e,fun σ2 R2 S2 w2=>q σ2 R2 (S1.trans S2) fun j hj=>?_⟩⟩
   rw [List.mem_append,not_or] at hj
   rw [w2 j hj.2,w1 j hj.1]
theorem Zdh (h1:JG X e (tG K M H0 ws b)) (h2:JK X es (tGs K M H0 ws' c)) (hs:(assignEach (e::es) X.env).map (·.2)=assign e X.env::(assignEach es X.env).map (·.2):=by rfl):JK X (e::es) (tGs K M H0 (ws++ws') (Zbi b c)):=⟨ZoQ h1.h h2.h hs⟩
theorem ZsO {k n:Nat} (hc:X.calm=true) (h:PGs X es (tGs X.K M H0 ws c))
  (hn:(assignEach es X.env).length=n:=by rfl) (hst:(assignEach es X.env).findIdx? (·.1)=none:=by rfl):PG X (.Tuple es k pos) (tG X.K M H0 ws (ZfJ n c)):=by
 intro pins s σ H v u Q I r ⟨ρ,d,ρ',R,hd,e,q⟩
 cases d with
 | tup ds =>
  simp only [ZfJ] at e
  split at e
  ·next hl =>
   simp only [Den] at hd
   obtain ⟨a,vs,e1,hq,hd⟩:=hd
   exact Zrh hc h hn hst pins s σ H v u Q I r ⟨a,vs,e1,hq,by rw [← hd.length];exact hl,ρ,ds,ρ',R,hd,e,q⟩
  ·cases e
 | _=>cases e
theorem Zj9 {k n:Nat} (hc:X.calm=true) (h:JK X es (tGs X.K M H0 ws c)) (hn:(assignEach es X.env).length=n:=by rfl) (hst:(assignEach es X.env).findIdx? (·.1)=none:=by rfl):JG X (.Tuple es k pos) (tG X.K M H0 ws (ZfJ n c)):=⟨ZsO hc h.h hn hst⟩
end
@[simp] def Zod:Option Sl→Sl
  | some (.val d)=>.val d
  | some (.own xs b)=>.lent xs b
  | some (.lent xs b)=>.lent xs b
  | _=>.no
@[simp] def Z9 (k:Nat) (oix:List Nat) (ρ:VE):VE:=List.replicate k .no++oix.map fun j=>Zod ρ[j]?
def ZaG (b:D→VE→Option VE) (t:VE→Option Bool) (e:VE→Option D) (ρ:VE):List D→Option (List D)
 | []=>some []
 | d::ds=>match b d ρ with
  | none=>none
  | some ρ1=>match t ρ1 with
   | some true=>Zb (e ρ1) (ZaG b t e ρ ds)
   | some false=>ZaG b t e ρ ds
   | none=>none
@[simp] def Zaj (k:Nat) (oix:List Nat) (f:VE→Option (List D)) (b:D→VE→Option VE) (t:VE→Option Bool) (e:VE→Option D):VE→Option (List D):=fun ρ=>(ZC (f ρ)).bind (ZaG b t e (Z9 k oix ρ))
section
variable {X:Cx} {K:PySem.W.Frag} {M:Fb} {H0:Hp} {pos:Pos} {tg elt iter:Expr} {ifs:List Expr} {scope:Scope} {ws:List Nat} {f:VE→Option (List D)} {b:D→VE→Option VE} {t:VE→Option Bool} {e:VE→Option D} {k:Nat} {oix:List Nat}
theorem Rel.comp {ρ:VE} {σ:St} {H:Hp} (R:Rel K M H0 ρ σ H) (k:Nat) (oix:List Nat):Rel K (Nf M ρ σ) H (Z9 k oix ρ) (ZaO k oix σ) H∧∀ a,Nf (Nf M ρ σ) (Z9 k oix ρ) (ZaO k oix σ) a→Nf M ρ σ a:=by
 have noown:∀ (j:Nat) (xs:List D) (fl:Bool),(Z9 k oix ρ)[j]?≠some (Sl.own xs fl):=fun j xs fl h=>by
  unfold Z9 at h
  rw [List.getElem?_append] at h
  split at h
  ·rw [List.getElem?_replicate] at h
   split at h<;>cases h
  ·rw [List.getElem?_map] at h
   cases ho:oix[j-(List.replicate k Sl.no).length]? with
   | none=>rw [ho] at h;cases h
   | some o =>
    rw [ho] at h
    simp only [Option.map_some,Option.some.injEq] at h
    unfold Zod at h
    split at h<;>cases h
 have nf:∀ a,Nf (Nf M ρ σ) (Z9 k oix ρ) (ZaO k oix σ) a→Nf M ρ σ a:=fun a h=>by
  rcases h with h | ⟨j,xs,fl,h,_⟩
  ·exact h
  ·exact absurd h (noown j xs fl)
 refine ⟨⟨by simp [Z9,ZaO],Same.refl H,R.nh,fun j s h=>?_,fun i j xs ys fl fl' a h=>absurd h (noown i xs fl)⟩,nf⟩
 unfold Z9 at h
 rw [List.getElem?_append] at h
 split at h
 ·rw [List.getElem?_replicate] at h
  split at h
  ·cases h;trivial
  ·cases h
 ·next hge =>
  rw [List.getElem?_map] at h
  have hσ:(ZaO k oix σ)[j]?=(oix[j-k]?).map fun i=>(σ[i]?).join:=by
   unfold ZaO
   rw [List.getElem?_append_right (by simpa using hge),List.getElem?_map]
   simp
  rw [hσ]
  simp only [List.length_replicate] at h
  cases ho:oix[j-k]? with
  | none=>rw [ho] at h;cases h
  | some o =>
   rw [ho] at h
   simp only [Option.map_some,Option.some.injEq] at h
   simp only [Option.map_some,Option.join_some]
   unfold Zod at h
   split at h
   ·next d hd=>subst h;obtain ⟨v,e1,q⟩:=R.slot o _ hd;exact ⟨v,e1,q.nw fun a ha=>.inl (nf a ha)⟩
   ·next xs fl hd =>
    subst h
    obtain ⟨a,vs,e1,z1,z2,z3,z4⟩:=R.slot o _ hd
    exact ⟨a,vs,e1,.inr ⟨o,xs,fl,hd,join_some e1⟩,.inl z3,z4.nw fun a ha=>.inl (nf a ha)⟩
   ·next xs hd =>
    subst h
    obtain ⟨a,vs,e1,z1,z2,z3⟩:=R.slot o _ hd
    exact ⟨a,vs,e1,.inl z1,z2,z3.nw fun a ha=>.inl (nf a ha)⟩
   ·subst h;trivial
def Zrq (K:PySem.W.Frag) (ws:List Nat) (b:D→VE→Option VE):TG:=fun v σ H Q=>∃ M H0,tG K M H0 ws b v σ H Q
def Zre (K:PySem.W.Frag) (t:VE→Option Bool):TT:=fun σ H Q=>∃ M H0,tB' K M H0 t σ H Q
def Zro (K:PySem.W.Frag) (e:VE→Option D):TE:=fun σ H Q=>∃ M H0,tD K M H0 e σ H Q
theorem Zp4 (hw:∀ j∈ws,j<k) {wi:TI} (hi:∀ σ H R,tI K M H0 f σ H R→wi σ H R) {σ:St} {H:Hp} {Q:VK} (h:tF K M H0 (Zaj k oix f b t e) σ H Q):Zo1 k oix wi (Zrq K ws b) (Zre K t) (Zro K e) σ H Q:=by
 obtain ⟨ρ,xs,R,ex,q⟩:=h
 try dsimp only at ex q
 unfold Zaj at ex
 cases hf:ZC (f ρ) with
 | none=>rw [hf] at ex;cases ex
 | some ds =>
  rw [hf] at ex
  obtain ⟨hf,hz⟩:=ZfK hf
  have ex:ZaG b t e (Z9 k oix ρ) ds=some xs:=ex
  refine hi _ _ _ ⟨ρ,ds,R,hf,fun J H1 s1 ok=>?_⟩
  refine ⟨ds.length,fun i ys H2=>i≤ds.length∧ys.length≤i∧Same H1 H2∧∃ acc rest,DenL K (Nf M ρ σ) H2 acc ys∧ZaG b t e (Z9 k oix ρ) (ds.drop i)=some rest∧acc++rest=xs,⟨Nat.zero_le _,Nat.le_refl _,Same.refl _,[],xs,DenL.nil,ex,rfl⟩,?_⟩
  rintro i ys H2 ⟨hle,hy,s2,acc,rest,hacc,hc,hx⟩
  obtain ⟨ok1,ok2⟩:=ok _ H2 (Step.of_same s2) i
  by_cases hlt:i<ds.length
  ·obtain ⟨go,y⟩:=ok1 ds[i] (List.getElem?_eq_getElem hlt)
   rw [List.drop_eq_getElem_cons hlt] at hc
   simp only [ZaG] at hc
   refine .inr ⟨go,hlt,by omega,fun ys' H'=>ys'.length≤i+1∧Same H1 H'∧∃ acc rest,DenL K (Nf M ρ σ) H' acc ys'∧ZaG b t e (Z9 k oix ρ) (ds.drop (i+1))=some rest∧acc++rest=xs,fun ys' H' z=>⟨hlt,z⟩,fun x H3 yl=>?_⟩
   obtain ⟨s3,hd⟩:=y x H3 yl
   have R3:=((R.st s1).st s2).st s3
   obtain ⟨Rc,nf⟩:=R3.comp k oix
   cases hb:b ds[i] (Z9 k oix ρ) with
   | none=>rw [hb] at hc;cases hc
   | some ρ1 =>
    rw [hb] at hc
    simp only at hc
    refine ⟨Nf M ρ σ,H3,Z9 k oix ρ,ds[i],ρ1,Rc,hd.nw fun a ha=>.inl (nf a ha),hb,fun σ4 R4 S4 w4=>⟨?_,?_⟩⟩
    ·apply List.ext_getElem?
     intro j
     rw [List.getElem?_drop,List.getElem?_drop]
     exact w4 _ fun hj=>absurd (hw _ hj) (by omega)
    ·cases ht:t ρ1 with
     | none=>rw [ht] at hc;cases hc
     | some bb =>
      rw [ht] at hc
      refine ⟨Nf M ρ σ,H3,ρ1,bb,R4,ht,fun H5 s5=>?_⟩
      cases bb with
      | true =>
       simp only at hc
       obtain ⟨yd,rest',e1,e2,e3⟩:=ZeC hc
       refine Zd0 ?_
       refine ⟨Nf M ρ σ,H3,ρ1,yd,R4.st s5,e1,fun v H6 s6 hv=>⟨?_,((s2.trans s3).trans s5).trans s6,acc++[yd],rest',(hacc.same ((s3.trans s5).trans s6)).append (DenL.cons (hv.nw fun a ha=>.inl (.inl ha)) DenL.nil),e2,?_⟩⟩
       ·simp only [List.length_append,List.length_singleton];omega
       ·subst e3;rw [← hx];simp
      | false =>
       refine Zd4 ?_
       exact ⟨by omega,(s2.trans s3).trans s5,acc,rest,hacc.same (s3.trans s5),hc,hx⟩
  ·have ei:i=ds.length:=by omega
   rw [List.drop_eq_nil_of_le (by omega)] at hc
   cases hc
   rw [List.append_nil] at hx
   subst hx
   exact .inl ⟨ok2 ei,by omega,fun p hp=>Zh4 (s1.trans s2) hp hacc q⟩
theorem PG.all {Y:Cx} (h:∀ M H0,PG Y tg (tG K M H0 ws b)):PG Y tg (Zrq K ws b):=fun pins s σ H v u Q I r ⟨M,H0,z⟩=>h M H0 pins s σ H v u Q I r z
theorem PFs.all {Y:Cx} (h:∀ M H0,PFs Y ifs (tB' K M H0 t)):PFs Y ifs (Zre K t):=fun pins s σ H Q I ⟨M,H0,z⟩=>h M H0 pins s σ H Q I z
theorem PE.all {Y:Cx} (h:∀ M H0,PE Y elt (tD K M H0 e)):PE Y elt (Zro K e):=fun pins s σ H Q I ⟨M,H0,z⟩=>h M H0 pins s σ H Q I z
theorem ZrV {Y:Cx}:PFs Y [] (tB' K M H0 fun _=>some true):=fun pins s σ H Q I ⟨ρ,b,R,e,q⟩=>ZqI pins s σ H Q I (by cases e;exact q H (Same.refl H))
theorem Zbt {Y:Cx}:JF Y [] (tB' K M H0 fun _=>some true):=⟨ZrV ⟩
theorem Zsr {Y:Cx} {c:Expr} (h:PT Y c (tB' K M H0 t)):PFs Y [c] (tB' K M H0 t):=Zsn h
theorem ZhF {Y:Cx} {c:Expr} (h:JT Y c (tB' K M H0 t)):JF Y [c] (tB' K M H0 t):=⟨Zsr h.h⟩
theorem Zpy (own outs:List Str) (oix:List Nat) (S:ZaF own outs scope X.env.scope) (hox:oix.map (fun j=>X.N[j]?)=outs.map some) (hc:X.calm=true) (hi:PI X tg iter (tI K M H0 f))
  (hg:∀ C s2 H2 fp pins M' H',PG (cxC X own outs scope C s2 H2 fp pins) tg (tG K M' H' ws b))
  (ht:∀ C s2 H2 fp pins M' H',PFs (cxC X own outs scope C s2 H2 fp pins) ifs (tB' K M' H' t))
  (he:∀ C s2 H2 fp pins M' H',PE (cxC X own outs scope C s2 H2 fp pins) elt (tD K M' H' e)) (hw:∀ j∈ws,j<own.length)
  (hs:∀ x,foldedSetIterable iter X.env x=pure x:=by intro _;rfl) :
  PE X (.ListComp elt [⟨tg,iter,ifs,0⟩] scope pos) (tF K M H0 (Zaj own.length oix f b t e)) :=
 (Zpe own outs oix S hox hc hi (fun C s2 H2 fp pins=>PG.all (hg C s2 H2 fp pins)) (fun C s2 H2 fp pins=>PFs.all (ht C s2 H2 fp pins)) (fun C s2 H2 fp pins=>PE.all (he C s2 H2 fp pins)) hs).mono
  fun _ _ _ z=>Zp4 hw (fun _ _ _ z=>z) z
theorem Zas (own outs:List Str) (oix:List Nat) (S:ZaF own outs scope X.env.scope) (hox:oix.map (fun j=>X.N[j]?)=outs.map some) (hc:X.calm=true) (hi:JI X tg iter (tI K M H0 f)) (hg:∀ C s2 H2 fp pins M' H',JG (cxC X own outs scope C s2 H2 fp pins) tg (tG K M' H' ws b)) (ht:∀ C s2 H2 fp pins M' H',JF (cxC X own outs scope C s2 H2 fp pins) ifs (tB' K M' H' t)) (he:∀ C s2 H2 fp pins M' H',JE (cxC X own outs scope C s2 H2 fp pins) elt (tD K M' H' e)) (hw:∀ j∈ws,j<own.length) (hs:∀ x,foldedSetIterable iter X.env x=pure x:=by intro _;rfl):JE X (.ListComp elt [⟨tg,iter,ifs,0⟩] scope pos) (tF K M H0 (Zaj own.length oix f b t e)):=⟨Zpy own outs oix S hox hc hi.h (fun C s2 H2 fp pins M' H'=>(hg C s2 H2 fp pins M' H').h) (fun C s2 H2 fp pins M' H'=>(ht C s2 H2 fp pins M' H').h) (fun C s2 H2 fp pins M' H'=>(he C s2 H2 fp pins M' H').h) hw hs⟩
end
def fnP (np n:Nat) (g:VE→Res):List Sl→Option Rv:=fun ss=>if ss.length=np then
  match g (ss++List.replicate (n-np) .no) with
  | .ret r=>some r
  | .next _=>some (.val .non)
  | _=>none
 else none
theorem Zja {K:PySem.W.Frag} {N:Fb} {H:Hp} {ss:List Sl} {vs:List V} (nh:∀ a,N a→H a≠none) (h:ArgsOk K N H ss vs) (n:Nat):Rel K N H (ss++List.replicate n .no) (vs.map some++List.replicate n none) H:=by
 have hl:=h.length
 have noown:∀ (j:Nat) (xs:List D) (fl:Bool),(ss++List.replicate n Sl.no)[j]?≠some (Sl.own xs fl):=fun j xs fl e=>by
  rw [List.getElem?_append] at e
  split at e
  ·obtain ⟨v,_,q⟩:=h.get e;exact q
  ·rw [List.getElem?_replicate] at e
   split at e<;>cases e
 have nf:∀ a,Nf N (ss++List.replicate n Sl.no) (vs.map some++List.replicate n none) a→N a:=fun a z=>by
  rcases z with z | ⟨j,xs,fl,z,_⟩
  ·exact z
  ·exact absurd z (noown j xs fl)
 refine ⟨by simp [hl],Same.refl H,nh,fun j s e=>?_,fun i j xs ys fl fl' a z=>absurd z (noown i xs fl)⟩
 rw [List.getElem?_append] at e
 split at e
 ·next hj =>
  obtain ⟨v,ev,q⟩:=h.get e
  rw [List.getElem?_append_left (by simpa [← hl] using hj),List.getElem?_map,ev]
  cases s with
  | val d=>exact ⟨v,rfl,Den.nw q fun a ha=>.inl (nf a ha)⟩
  | lent xs fl=>obtain ⟨a,us,e1,z1,z2,z3⟩:=q;exact ⟨a,us,by rw [e1];rfl,z1,z2,z3.nw fun a ha=>.inl (nf a ha)⟩
  | no=>trivial
  | own xs fl=>exact False.elim q
  | exc c=>exact False.elim q
 ·rw [List.getElem?_replicate] at e
  split at e
  ·cases e;trivial
  ·cases e
theorem Ztn {P:Program} {w:World} {K:PySem.W.Frag} {mg:Str→Option Value} {base:Heap} {x qual:Str} {st:Stmt} {f:Addr} {fd:FuncData} {N ps:List Str} {k:Nat} {g:VE→Res} (F:Fun K x qual st f fd) (S:ZI N ps (Zj st)) (hnp:ps.length≤N.length)
  (hb:∀ (cdv:Value) (A:Around) (outer:List Env) (s:Shared) (H:Hp) (E:XK) (M:Fb) (H0:Hp),Room k (A.deeper (envOfC qual (Zj st) s.heap.objs.size f cdv)) →
   PSs (ZeK CX0 P w K mg base N qual (Zj st) f cdv A outer s H E).nox (ZG st) (tS K M H0 g)):FnOk P w K mg base CX0 (k+1) f fd ps (spD K (fnP ps.length N.length g)):=by
 refine F.ok S (fun vs H Q E h=>?_) (fun cdv A outer s H vs Q E hr h=>?_)
 ·obtain ⟨N',ss,r,nh,ha,hF,q⟩:=h
  unfold fnP at hF
  split at hF
  ·next hl=>rw [← ha.length];exact hl
  ·cases hF
 ·obtain ⟨N',ss,r,nh,ha,hF,q⟩:=h
  refine ⟨_,hb cdv A outer s H E N' H hr,?_⟩
  unfold fnP at hF
  split at hF
  ·next hl =>
   have hs:ZcX N vs=vs.map some++List.replicate (N.length-ps.length) none:=by unfold ZcX;rw [← ha.length,hl]
   rw [hs]
   refine ⟨_,Zja nh ha (N.length-ps.length),?_⟩
   cases hg:g (ss++List.replicate (N.length-ps.length) .no) with
   | fail=>rw [hg] at hF;cases hF
   | next ρ'=>rw [hg] at hF;cases hF;exact fun σ' H' R' S'=>q .non H' R'.same (by simp only [Zml,Den])
   | brk ρ'=>rw [hg] at hF;cases hF
   | cont ρ'=>rw [hg] at hF;cases hF
   | ret r'=>rw [hg] at hF;cases hF;exact fun v H' s hv=>q v H' s hv
  ·cases hF
theorem ZZ {P:Program} {w:World} {K:PySem.W.Frag} {mg:Str→Option Value} {base:Heap} {x qual:Str} {st:Stmt} {f:Addr} {fd:FuncData} {N ps:List Str} {k:Nat} {g:VE→Res} (F:Fun K x qual st f fd) (S:ZI N ps (Zj st)) (hnp:ps.length≤N.length)
  (hb:∀ (cdv:Value) (A:Around) (outer:List Env) (s:Shared) (H:Hp) (E:XK) (M:Fb) (H0:Hp),Room k (A.deeper (envOfC qual (Zj st) s.heap.objs.size f cdv)) →
   JB (ZeK CX0 P w K mg base N qual (Zj st) f cdv A outer s H E).nox (ZG st) (tS K M H0 g)):FnOk P w K mg base CX0 (k+1) f fd ps (spD K (fnP ps.length N.length g)) :=
 Ztn F S hnp fun cdv A outer s H E M H0 hr=>(hb cdv A outer s H E M H0 hr).h
theorem ZrL {P:Program} {w:World} {K:PySem.W.Frag} {mg:Str→Option Value} {base:Heap} {k:Nat} {f:Addr} {fd:FuncData} {F:List Sl→Option Rv} (G:FnOk P w K mg base CX0 k f fd ["_law_script"] (spD K F))
  (h:∀ ns:List Int,ns.length≤63→F [.val (.lst (ns.map D.int))]=some (.val (.bl true))):FnOk P w K mg base CX0 k f fd ["_law_script"] (ZjG K) :=
 G.imp fun vs H Q E ⟨a,ns,e,hs,hl,q⟩=>by
  refine ⟨fun _=>False,[.val (.lst (ns.map D.int))],.val (.bl true),fun _ z=>z.elim,⟨_,[],e,?_,rfl⟩,h ns hl,fun v H' s hv=>?_⟩
  ·simp only [ArgOk,Den]
   exact ⟨a,_,rfl,.of_sq hs,DenL.ints ns⟩
  ·simp only [Zml,Den] at hv
   subst hv;exact q H'
end L2
set_option Elab.async false
set_option linter.all false
set_option maxRecDepth 100000
namespace L2
open PySem PySem.Spec PyProof.Rows
section
variable {K:PySem.W.Frag}
@[simp] def i2 (g:Int→Int→Option D):D→D→Option D
  | .int i,.int j=>g i j
  | _,_=>none
theorem Zj7 {g:Int→Int→Option D} {x y d:D} (h:i2 g x y=some d):∃ i j,x=.int i∧y=.int j∧g i j=some d:=by
 unfold i2 at h
 split at h
 ·exact ⟨_,_,rfl,rfl,h⟩
 ·cases h
theorem DenP.int {N:Fb} {H:Hp} {i:Int} {v:V} (h:DenP K N H (.int i) v):v=.int i:=by simpa only [DenP,Den] using h
theorem DenP.str {N:Fb} {H:Hp} {i:Str} {v:V} (h:DenP K N H (.str i) v):v=.str i:=by simpa only [DenP,Den] using h
theorem DenP.bl {N:Fb} {H:Hp} {i:Bool} {v:V} (h:DenP K N H (.bl i) v):v=.bl i:=by simpa only [DenP,Den] using h
theorem DenP.non {N:Fb} {H:Hp} {v:V} (h:DenP K N H .non v):v=.non:=by simpa only [DenP,Den] using h
theorem DenP.ty {N:Fb} {H:Hp} {i:String} {v:V} (h:DenP K N H (.ty i) v):v=.ty i:=by simpa only [DenP,Den] using h
theorem DenP.tup {N:Fb} {H:Hp} {xs:List D} {v:V} (h:DenP K N H (.tup xs) v):∃ a vs,v=.ref a∧SqT K H a vs∧DenL K N H xs vs:=by simpa only [DenP,Den] using h
theorem ZcC {N:Fb} {H:Hp} {i:Int}:Den K N H (.int i) (.int i):=by simp only [Den]
theorem ZbA {N:Fb} {H:Hp} {i:Bool}:Den K N H (.bl i) (.bl i):=by simp only [Den]
theorem Ze7 {N:Fb} {H:Hp} {i:Str}:Den K N H (.str i) (.str i):=by simp only [Den]
theorem ZtP (g:Int→Int→Int):R2D K (rI0 fun i j=>.int (g i j)) (i2 fun i j=>some (.int (g i j))):=by
 intro N H x y d1 d2 d Q nh h1 h2 e q
 obtain ⟨i,j,rfl,rfl,e⟩:=Zj7 e
 cases e
 exact ⟨i,j,h1.int,h2.int,q _ H (Same.refl H) ZcC⟩
theorem Zd9 (g:Int→Int→Bool):R2D K (rI0 fun i j=>.bl (g i j)) (i2 fun i j=>some (.bl (g i j))):=by
 intro N H x y d1 d2 d Q nh h1 h2 e q
 obtain ⟨i,j,rfl,rfl,e⟩:=Zj7 e
 cases e
 exact ⟨i,j,h1.int,h2.int,q _ H (Same.refl H) ZbA⟩
theorem Zmg {C:Int→Int→Prop} [∀ i j,Decidable (C i j)] (g:Int→Int→Int):R2D K (rI C fun i j=>.int (g i j)) (i2 fun i j=>if C i j then some (.int (g i j)) else none):=by
 intro N H x y d1 d2 d Q nh h1 h2 e q
 obtain ⟨i,j,rfl,rfl,e'⟩:=Zj7 e
 split at e'
 ·next hc=>cases e';exact ⟨i,j,h1.int,h2.int,hc,q _ H (Same.refl H) ZcC⟩
 ·cases e'
instance (i j:Int):Decidable (Zcn i j):=by unfold Zcn;exact inferInstance
instance (i j:Int):Decidable (CMul i j):=by unfold CMul;exact inferInstance
instance (i j:Int):Decidable (ZfI i j):=by unfold ZfI;exact inferInstance
@[simp] def ZdX:D→D→Option D:=i2 fun i j=>some (.int (i-j))
@[simp] def ZdS:D→D→Option D:=i2 fun i j=>if CMul i j then some (.int (i * j)) else none
@[simp] def ZaB:D→D→Option D:=i2 fun i j=>if Zcn i j then some (.int (i / j)) else none
@[simp] def Z3:D→D→Option D:=i2 fun i j=>if 0<j then some (.int (i%j)) else none
@[simp] def ZjO:D→D→Option D:=i2 fun i j=>if ZfI i j then some (.int (i^j.toNat)) else none
@[simp] def leD:D→D→Option D:=i2 fun i j=>some (.bl (decide (i≤j)))
@[simp] def gtD:D→D→Option D:=i2 fun i j=>some (.bl (decide (j<i)))
@[simp] def geD:D→D→Option D:=i2 fun i j=>some (.bl (decide (j≤i)))
section
variable {X:Cx} {M:Fb} {H0:Hp} {a b:Expr} {f g:VE→Option D} {pos:Pos}
theorem Zrj (ha:PE X a (tP K M H0 f)) (hb:PE X b (tP K M H0 g)):PE X (.BinOp a .Sub b pos) (tD K M H0 (Ze ZdX f g)):=Zha ZqY (ZtP _) ha hb
theorem ZcZ (ha:JE X a (tP K M H0 f)) (hb:JE X b (tP K M H0 g)):JE X (.BinOp a .Sub b pos) (tD K M H0 (Ze ZdX f g)):=⟨Zrj ha.h hb.h⟩
theorem Zs5 (ha:PE X a (tP K M H0 f)) (hb:PE X b (tP K M H0 g)):PE X (.BinOp a .Mult b pos) (tD K M H0 (Ze ZdS f g)):=Zha ZsS (Zmg _) ha hb
theorem Zcr (ha:JE X a (tP K M H0 f)) (hb:JE X b (tP K M H0 g)):JE X (.BinOp a .Mult b pos) (tD K M H0 (Ze ZdS f g)):=⟨Zs5 ha.h hb.h⟩
theorem ZpI (ha:PE X a (tP K M H0 f)) (hb:PE X b (tP K M H0 g)):PE X (.BinOp a .FloorDiv b pos) (tD K M H0 (Ze ZaB f g)):=Zha ZpD (Zmg _) ha hb
theorem Z7 (ha:JE X a (tP K M H0 f)) (hb:JE X b (tP K M H0 g)):JE X (.BinOp a .FloorDiv b pos) (tD K M H0 (Ze ZaB f g)):=⟨ZpI ha.h hb.h⟩
theorem ZrU (ha:PE X a (tP K M H0 f)) (hb:PE X b (tP K M H0 g)):PE X (.BinOp a .Mod b pos) (tD K M H0 (Ze Z3 f g)):=Zha ZrH (Zmg _) ha hb
theorem ZM (ha:JE X a (tP K M H0 f)) (hb:JE X b (tP K M H0 g)):JE X (.BinOp a .Mod b pos) (tD K M H0 (Ze Z3 f g)):=⟨ZrU ha.h hb.h⟩
theorem Zr5 (ha:PE X a (tP K M H0 f)) (hb:PE X b (tP K M H0 g)):PE X (.BinOp a .Pow b pos) (tD K M H0 (Ze ZjO f g)):=Zha ZrT (Zmg _) ha hb
theorem ZjT (ha:JE X a (tP K M H0 f)) (hb:JE X b (tP K M H0 g)):JE X (.BinOp a .Pow b pos) (tD K M H0 (Ze ZjO f g)):=⟨Zr5 ha.h hb.h⟩
@[simp] def Zfn:Option D→Option D
  | some (.int i)=>some (.int (-i))
  | _=>none
theorem Zr1 (ha:PE X a (tP K M H0 f)):PE X (.UnaryOp .USub a pos) (tD K M H0 fun ρ=>Zfn (f ρ)):=(Ztm Zsw ha).mono fun σ H Q ⟨ρ,d,R,e,q⟩=>by
 try dsimp only at e q
 unfold Zfn at e
 split at e
 ·next i hf=>cases e;exact ⟨ρ,.int i,R,hf,fun v H' s hv=>⟨i,hv.int,q _ H' s ZcC⟩⟩
 ·cases e
theorem ZhN (ha:JE X a (tP K M H0 f)):JE X (.UnaryOp .USub a pos) (tD K M H0 fun ρ=>Zfn (f ρ)):=⟨Zr1 ha.h⟩
end
end
section
variable {X:Cx}
def Zo0 (K:PySem.W.Frag):R2:=fun x y H Q=>∃ l b xs zs,x=.ref l∧y=.ref b∧SqL K H l xs∧SqL K H b zs∧xs.length+zs.length≤sizeLine∧∀ p,H p=none→Q (.ref p) (upd H p (.lst (xs++zs)))
theorem op_catG:OpR X (binaryOp .Add) (Zo0 X.K):=by
 intro pins s σ H x y v u Q I rx ry h
 obtain ⟨l,b,xs,zs,rfl,rfl,hH,hB,hz,q⟩:=h
 cases rx
 cases ry
 obtain ⟨its,r,p1,z1⟩:=I.list hH
 obtain ⟨its2,r2,p2,z2⟩:=I.list hB
 have hl:=r.length
 have hl2:=r2.length
 obtain ⟨⟨cls,dd,data,sl⟩,ho,hc,n,hd⟩:=p1.isList
 obtain ⟨⟨cls2,dd2,data2,sl2⟩,ho2,hc2,n2,hd2⟩:=p2.isList
 simp only at hc hd hc2 hd2
 subst hc hd hc2 hd2
 have e:its.toArray++its2.toArray=(its++its2).toArray:=by simp
 refine concat_meets ⟨_,ho,rfl⟩ ⟨_,ho2,rfl⟩ noFill_list_add seq_list_add PySem.F.slot_list_add PySem.F.entry_list_add (PySem.F.args_list_add_2 _ _) (list_addW l b its.toArray its2.toArray n n2 dd dd2 sl sl2 (by rw [List.size_toArray,List.size_toArray];omega)) ⟨ho,ho2,?_⟩
 rw [e]
 exact ⟨.ref _,_,I.lnew (t':=s.toks) (r.append r2) (by rw [List.length_append];omega),rfl,q _ I.fresh⟩
def Znj (K:PySem.W.Frag):R2:=fun x y H Q=>∃ l b xs zs,x=.ref l∧y=.ref b∧SqT K H l xs∧SqT K H b zs∧xs.length+zs.length≤sizeLine ∧
 (xs=[]→Q (.ref b) H)∧(zs=[]→Q (.ref l) H)∧∀ p,H p=none→Q (.ref p) (upd H p (.tup (xs++zs)))
theorem Zoe:OpR X (binaryOp .Add) (Znj X.K):=by
 intro pins s σ H x y v u Q I rx ry h
 obtain ⟨l,b,xs,zs,rfl,rfl,hH,hB,hz,qx,qz,q⟩:=h
 cases rx
 cases ry
 obtain ⟨its,r,p1,z1⟩:=I.tuple hH
 obtain ⟨its2,r2,p2,z2⟩:=I.tuple hB
 have hl:=r.length
 have hl2:=r2.length
 obtain ⟨⟨cls,dd,data,sl⟩,ho,hc,n,hd⟩:=id p1
 obtain ⟨⟨cls2,dd2,data2,sl2⟩,ho2,hc2,n2,hd2⟩:=id p2
 simp only at hc hd hc2 hd2
 subst hc hd hc2 hd2
 by_cases h1:xs=[]
 ·have hi:its.toArray.isEmpty=true:=by
   subst h1
   have:its=[]:=List.length_eq_zero_iff.mp hl.symm
   subst this;rfl
  exact concat_meets ⟨_,ho,rfl⟩ ⟨_,ho2,rfl⟩ noFill_tuple_add seq_tuple_add PySem.F.slot_tuple_add PySem.F.entry_tuple_add (PySem.F.args_tuple_add_2 _ _) (tuple_addW0 l b its.toArray its2.toArray n n2 dd dd2 sl sl2 hi) ⟨ho,ho2,⟨.ref b,H,I,rfl,qx h1⟩⟩
 ·have hi:¬ its.toArray.isEmpty=true:=by
   intro z
   have:its=[]:=by simpa using z
   subst this
   exact h1 (List.length_eq_zero_iff.mp hl)
  by_cases h2:zs=[]
  ·have hi2:its2.toArray.isEmpty=true:=by
    subst h2
    have:its2=[]:=List.length_eq_zero_iff.mp hl2.symm
    subst this;rfl
   exact concat_meets ⟨_,ho,rfl⟩ ⟨_,ho2,rfl⟩ noFill_tuple_add seq_tuple_add PySem.F.slot_tuple_add PySem.F.entry_tuple_add (PySem.F.args_tuple_add_2 _ _) (tuple_addW1 l b its.toArray its2.toArray n n2 dd dd2 sl sl2 hi hi2) ⟨ho,ho2,⟨.ref l,H,I,rfl,qz h2⟩⟩
  ·have hi2:¬ its2.toArray.isEmpty=true:=by
    intro z
    have:its2=[]:=by simpa using z
    subst this
    exact h2 (List.length_eq_zero_iff.mp hl2)
   have e:its.toArray++its2.toArray=(its++its2).toArray:=by simp
   refine concat_meets ⟨_,ho,rfl⟩ ⟨_,ho2,rfl⟩ noFill_tuple_add seq_tuple_add PySem.F.slot_tuple_add PySem.F.entry_tuple_add (PySem.F.args_tuple_add_2 _ _) (tuple_addW2 l b its.toArray its2.toArray n n2 dd dd2 sl sl2 hi hi2 (by rw [List.size_toArray,List.size_toArray];omega)) ⟨ho,ho2,?_⟩
   rw [e]
   refine ⟨.ref s.heap.objs.size,upd H s.heap.objs.size (.tup (xs++zs)),I.laid (t':=s.toks) (fun b u e=>Heap.get?_push_of_some _ e) (Nat.le_refl _) ?_,rfl,q _ I.fresh⟩
   exact ⟨by rw [List.length_append];omega,its++its2,r.append r2,IsTup.new _ _⟩
end
@[simp] def ZD:D→D→Option D
  | .int i,.int j=>some (.int (i+j))
  | .str x,.str y=>if x.length+y.length≤sizeLine then some (.str (x++y)) else none
  | .lst xs,.lst ys=>if xs.length+ys.length≤sizeLine then some (.lst (xs++ys)) else none
  | .tup xs,.tup ys=>if xs.length+ys.length≤sizeLine then some (.tup (xs++ys)) else none
  | _,_=>none
def ZoZ (K:PySem.W.Frag):R2:=fun x y H Q=>rI0 (fun i j=>.int (i+j)) x y H Q∨(∃ i j,x=.str i∧y=.str j∧i.length+j.length≤sizeLine∧Q (.str (i++j)) H)∨Zo0 K x y H Q∨Znj K x y H Q
theorem ZpO {X:Cx}:OpR X (binaryOp .Add) (ZoZ X.K):=op_add.or (op_add_str.or (op_catG.or Zoe))
theorem Zki {K:PySem.W.Frag} {N:Fb} {H:Hp} {xs:List D} {vs:List V} {p:Addr} (nh:∀ a,N a→H a≠none) (hp:H p=none) (h:DenL K N H xs vs):Den K N (upd H p (.lst vs)) (.lst xs) (.ref p):=by
 simp only [Den]
 exact ⟨p,vs,rfl,.of (fun z=>nh p z hp) Zak,h.same (ZaY hp)⟩
theorem Zfp {K:PySem.W.Frag} {N:Fb} {H:Hp} {xs:List D} {vs:List V} {p:Addr} (hp:H p=none) (h:DenL K N H xs vs):Den K N (upd H p (.tup vs)) (.tup xs) (.ref p):=by
 simp only [Den]
 exact ⟨p,vs,rfl,SqT.of Zak,h.same (ZaY hp)⟩
theorem Zsc {K:PySem.W.Frag}:R2D K (ZoZ K) ZD:=by
 intro N H x y d1 d2 d Q nh h1 h2 e q
 unfold ZD at e
 split at e
 ·cases e;exact .inl ⟨_,_,h1.int,h2.int,q _ H (Same.refl H) ZcC⟩
 ·split at e
  ·next hz=>cases e;exact .inr (.inl ⟨_,_,h1.str,h2.str,hz,q _ H (Same.refl H) Ze7⟩)
  ·cases e
 ·split at e
  ·next hz =>
   cases e
   obtain ⟨a,vs,e1,q1,r1⟩:=h1
   obtain ⟨b,ws,e2,q2,r2⟩:=h2
   exact .inr (.inr (.inl ⟨a,b,vs,ws,e1,e2,q1,q2,by rw [← r1.length,← r2.length];exact hz,fun p hp=>q _ _ (ZaY hp) (Zki nh hp (r1.append r2))⟩))
  ·cases e
 ·split at e
  ·next hz =>
   cases e
   obtain ⟨a,vs,e1,q1,r1⟩:=h1.tup
   obtain ⟨b,ws,e2,q2,r2⟩:=h2.tup
   refine .inr (.inr (.inr ⟨a,b,vs,ws,e1,e2,q1,q2,by rw [← r1.length,← r2.length];exact hz,fun z=>?_,fun z=>?_,fun p hp=>q _ _ (ZaY hp) (Zfp hp (r1.append r2))⟩))
   ·refine q _ H (Same.refl H) ?_
    simp only [Den]
    exact ⟨b,vs++ws,rfl,by rw [z];exact q2,r1.append r2⟩
   ·refine q _ H (Same.refl H) ?_
    simp only [Den]
    exact ⟨a,vs++ws,rfl,by rw [z,List.append_nil];exact q1,r1.append r2⟩
  ·cases e
 ·cases e
theorem Zq1 {X:Cx} {M:Fb} {H0:Hp} {a b:Expr} {f g:VE→Option D} {pos:Pos} (ha:PE X a (tP X.K M H0 f)) (hb:PE X b (tP X.K M H0 g)):PE X (.BinOp a .Add b pos) (tD X.K M H0 (Ze ZD f g)):=Zha ZpO Zsc ha hb
theorem Zz {X:Cx} {M:Fb} {H0:Hp} {a b:Expr} {f g:VE→Option D} {pos:Pos} (ha:JE X a (tP X.K M H0 f)) (hb:JE X b (tP X.K M H0 g)):JE X (.BinOp a .Add b pos) (tD X.K M H0 (Ze ZD f g)):=⟨Zq1 ha.h hb.h⟩
section
variable {prog:Program} {w:World} {A:Around} {E:Value→Shared→Prop} {s:Shared}
theorem Zgh {t sl:Addr} {items:Array Value} {vl vu:Value} {lo hi:Option Int} {Q:Value→Shared→Prop} (ht:IsTup s.heap t items) (hs:s.heap.IsSliceOf sl vl vu .none) (pl:IsPart vl lo) (pu:IsPart vu hi)
  (hw:HT.sIx items.size 0 lo=0∧HT.sIx items.size items.size hi=items.size) (h:Q (.ref t) s):wpAny (model prog w) A (getItem (.ref t) (.ref sl)) Q E s:=by
 obtain ⟨os,hos,hcs,hds⟩:=id hs
 have hTs:s.TypeIs (.ref sl) "slice":=⟨os,hos,hcs⟩
 unfold getItem
 try with_reducible refine wpAny_holding ?_
 first | refine wpAny_bind (wpAny_pure ?_) | skip
 refine wpAny_bind (wpAny_sequenceKey ht.typeIs (by decide) ?_)
 refine wpAny_bind (wpAny_callSpecial?_slot (name:=Str.ofString "__getitem__") ht.typeIs PyProof.Rows.slot_tuple_getitem
  (wpAny_call_entry PyProof.Rows.slot_tuple_getitem ht.typeIs entry_tuple_getitem ?_ (args_tuple_getitem _ _)))
 show wpAny _ _ (Builtin.Tuple.tupleItemsOf (.ref t) >>= _) _ _ s
 refine wpAny_bind (PyProof.Rows.tupleItemsOf_ ht ?_)
 refine wpAny_bind (wpAny_typeOf hTs ?_)
 rw [if_pos (by decide)]
 refine wpAny_bind (HT.sliceApplied_gen hs pl pu ?_)
 have hyes:(((HT.sIx items.size 0 lo:Nat):Int)==0&&(1:Int)==1&&(HT.sIx items.size items.size hi-HT.sIx items.size 0 lo)==items.size)=true:=by
  rw [hw.1,hw.2];simp
 show wpAny _ _ (if (((HT.sIx items.size 0 lo:Nat):Int)==0&&(1:Int)==1&&(HT.sIx items.size items.size hi-HT.sIx items.size 0 lo)==items.size)=true then _ else _) _ _ s
 rw [if_pos hyes]
 unfold Builtin.Tuple.tupleIsExact
 refine wpAny_bind (wpAny_bind (wpAny_typeOf ht.typeIs (wpAny_pure ?_)))
 rw [if_pos (by decide)]
 exact wpAny_bind (wpAny_rule (wpAny_pure ⟨_,rfl,wpAny_pure h⟩))
end
def Ztb (K:PySem.W.Frag):V→Option Int→Option Int→Hp→VK→Prop:=fun x lo hi H Q=>∃ a xs,x=.ref a∧SqT K H a xs∧(Zem xs lo hi=xs→Q (.ref a) H)∧∀ p,H p=none→Q (.ref p) (upd H p (.tup (Zem xs lo hi)))
theorem sl_tupG {X:Cx}:SlR X (Ztb X.K):=by
 intro pins s σ H x v vl vu lo hi sl Q I rx hs pl pu h
 obtain ⟨a,xs,rfl,hx,qw,q⟩:=h
 by_cases hw:HT.sIx xs.length 0 lo=0∧HT.sIx xs.length xs.length hi=xs.length
 ·cases rx
  obtain ⟨its,r,ht,hz⟩:=I.tuple hx
  have hlen:its.toArray.size=xs.length:=by rw [List.size_toArray];exact r.length.symm
  refine ⟨"tuple",_,PyProof.Rows.slot_tuple_getitem.lookup,ht.typeIs,Zgh ht hs pl pu (by rw [hlen];exact hw) ⟨.ref a,H,I,rfl,qw ?_⟩⟩
  unfold Zem
  rw [hw.1,hw.2,List.drop_zero,Nat.sub_zero,List.take_length]
 ·exact ZqJ pins s σ H _ v vl vu lo hi sl Q I rx hs pl pu ⟨a,xs,rfl,hx,hw,q⟩
@[simp] def ixD:D→D→Option D
  | .lst xs,.int i=>atI xs i
  | .tup xs,.int i=>atI xs i
  | .str x,.int i=>if x.length≤sizeLine then (atI x.cps.toList i).map fun c=>.str ⟨#[c]⟩ else none
  | _,_=>none
theorem DenL.atI {K:PySem.W.Frag} {N:Fb} {H:Hp} {xs:List D} {vs:List V} {i:Int} {d:D} (h:DenL K N H xs vs) (e:L2.atI xs i=some d):∃ v,L2.atI vs i=some v∧Den K N H d v:=by
 unfold L2.atI at e ⊢
 rw [← h.length]
 cases hj:ixN xs.length i with
 | none=>rw [hj] at e;cases e
 | some j=>rw [hj] at e;exact h.get e
theorem ZtY {K:PySem.W.Frag}:R2D K (rIx K) ixD:=by
 intro N H x y d1 d2 d Q nh h1 h2 e q
 unfold ixD at e
 split at e
 ·obtain ⟨a,vs,e1,q1,r1⟩:=h1
  obtain ⟨v,ev,hv⟩:=r1.atI e
  exact .inl ⟨a,vs,_,v,e1,h2.int,q1,ev,q v H (Same.refl H) hv⟩
 ·obtain ⟨a,vs,e1,q1,r1⟩:=h1.tup
  obtain ⟨v,ev,hv⟩:=r1.atI e
  exact .inr (.inl ⟨a,vs,_,v,e1,h2.int,q1,ev,q v H (Same.refl H) hv⟩)
 ·split at e
  ·next z i hz =>
   cases hc:atI z.cps.toList i with
   | none=>rw [hc] at e;cases e
   | some c=>rw [hc] at e;cases e;exact .inr (.inr ⟨z,i,c,h1.str,h2.int,hz,hc,q _ H (Same.refl H) Ze7⟩)
  ·cases e
 ·cases e
section
variable {X:Cx} {K:PySem.W.Frag} {M:Fb} {H0:Hp} {a b e:Expr} {f g:VE→Option D} {pos p2:Pos}
theorem ZpJ (ha:PE X a (tP X.K M H0 f)) (hb:PE X b (tP X.K M H0 g)) (hs:Zhd b):PE X (.Subscript a b pos) (tD X.K M H0 (Ze ixD f g)):=Ztl ZqB ZtY ha hb hs
theorem Zp (ha:JE X a (tP X.K M H0 f)) (hb:JE X b (tP X.K M H0 g)) (hs:Zhd b):JE X (.Subscript a b pos) (tD X.K M H0 (Ze ixD f g)):=⟨ZpJ ha.h hb.h hs⟩
def tO (K:PySem.W.Frag) (M:Fb) (H0:Hp) (o:VE→Option (Option Int)):TO:=fun σ H Q=>∃ ρ i,Rel K M H0 ρ σ H∧o ρ=some i∧∀ H',Same H H'→Q i H'
@[simp] def asI:Option D→Option (Option Int)
  | some (.int i)=>some (some i)
  | _=>none
theorem PO.mono {e:Option Expr} {t t':TO} (h:PO X e t) (m:∀ σ H Q,t' σ H Q→t σ H Q):PO X e t':=by
 intro pins s σ H Q I q
 exact h pins s σ H Q I (m σ H Q q)
theorem ZpT:PO X none (tO K M H0 fun _=>some none):=PO.mono Zpw fun σ H Q ⟨ρ,i,R,e,q⟩=>by (try dsimp only at e q);cases e;exact q H (Same.refl H)
theorem Zbm :JO X none (tO K M H0 fun _=>some none):=⟨ZpT ⟩
theorem Zpr (h:PE X e (tP K M H0 f)):PO X (some e) (tO K M H0 fun ρ=>asI (f ρ)):=PO.mono (Zpu h) fun σ H Q ⟨ρ,i,R,e,q⟩=>by
 try dsimp only at e q
 unfold asI at e
 split at e
 ·next j hf=>cases e;exact ⟨ρ,.int j,R,hf,fun v H' s hv=>⟨j,hv.int,q H' s⟩⟩
 ·cases e
theorem Zbj (h:JE X e (tP K M H0 f)):JO X (some e) (tO K M H0 fun ρ=>asI (f ρ)):=⟨Zpr h.h⟩
def cutD {α:Type} (xs:List α) (lo hi:Option Int):List α:=(xs.drop (HT.sIx xs.length 0 lo)).take (HT.sIx xs.length xs.length hi-HT.sIx xs.length 0 lo)
@[simp] def slD (x:D) (lo hi:Option Int):Option D:=match x with
  | .lst xs=>some (.lst (cutD xs lo hi))
  | .tup xs=>some (.tup (cutD xs lo hi))
  | .str x=>if x.length≤sizeLine then some (.str (Txt.slice x lo hi)) else none
  | _=>none
@[simp] def slL (x:D) (lo hi:Option Int):Option (List D):=match x with
  | .lst xs=>some (cutD xs lo hi)
  | _=>none
theorem DenL.cut {K:PySem.W.Frag} {N:Fb} {H:Hp} {xs:List D} {vs:List V} (h:DenL K N H xs vs) (lo hi:Option Int):DenL K N H (cutD xs lo hi) (Zem vs lo hi):=by
 unfold cutD Zem
 rw [h.length]
 exact (h.drop _).take _
@[simp] def sl3 {α:Type} (f:VE→Option D) (lo hi:VE→Option (Option Int)) (F:D→Option Int→Option Int→Option α):VE→Option α:=fun ρ=>(f ρ).bind fun x=>(lo ρ).bind fun l=>(hi ρ).bind fun h=>F x l h
theorem ZpM {α:Type} {f:VE→Option D} {lo hi:VE→Option (Option Int)} {F:D→Option Int→Option Int→Option α} {ρ:VE} {d:α} (h:sl3 f lo hi F ρ=some d):∃ x l u,f ρ=some x∧lo ρ=some l∧hi ρ=some u∧F x l u=some d:=by
 unfold sl3 at h
 cases hf:f ρ with
 | none=>rw [hf] at h;cases h
 | some x =>
  cases hl:lo ρ with
  | none=>rw [hf,hl] at h;cases h
  | some l =>
   cases hu:hi ρ with
   | none=>rw [hf,hl,hu] at h;cases h
   | some u=>rw [hf,hl,hu] at h;exact ⟨x,l,u,rfl,rfl,rfl,h⟩
theorem ZnV {el eu:Option Expr} {lo hi:VE→Option (Option Int)} (he:PE X e (tP X.K M H0 f)) (hl:PO X el (tO X.K M H0 lo)) (hu:PO X eu (tO X.K M H0 hi)) :
  PE X (.Subscript e (.Slice el eu none p2) pos) (tD X.K M H0 (sl3 f lo hi slD)):=(ZnM (sl_list.or (sl_tupG.or Zse)) he hl hu).mono fun σ H Q ⟨ρ,d,R,ex,q⟩=>by
 try dsimp only at ex q
 obtain ⟨x,l,u,e1,e2,e3,e4⟩:=ZpM ex
 refine ⟨ρ,x,R,e1,fun v H1 s1 hv=>⟨ρ,l,R.st s1,e2,fun H2 s2=>⟨ρ,u,(R.st s1).st s2,e3,fun H3 s3=>?_⟩⟩⟩
 have hv:=(hv.same s2).same s3
 have s:=(s1.trans s2).trans s3
 have R3:=R.st s
 unfold slD at e4
 split at e4
 ·cases e4
  obtain ⟨a,vs,ea,qa,ra⟩:=hv
  exact .inl ⟨a,vs,ea,qa,fun p hp=>q _ _ (s.trans (ZaY hp)) (Zki R3.nh hp (ra.cut l u))⟩
 ·cases e4
  obtain ⟨a,vs,ea,qa,ra⟩:=hv.tup
  refine .inr (.inl ⟨a,vs,ea,qa,fun z=>q _ _ s ?_,fun p hp=>q _ _ (s.trans (ZaY hp)) (Zfp hp (ra.cut l u))⟩)
  simp only [Den]
  exact ⟨a,vs,rfl,qa,z ▸ ra.cut l u⟩
 ·split at e4
  ·next hz=>cases e4;exact .inr (.inr ⟨_,hv.str,hz,q _ _ s Ze7⟩)
  ·cases e4
 ·cases e4
theorem ZaS {el eu:Option Expr} {lo hi:VE→Option (Option Int)} (he:JE X e (tP X.K M H0 f)) (hl:JO X el (tO X.K M H0 lo)) (hu:JO X eu (tO X.K M H0 hi)):JE X (.Subscript e (.Slice el eu none p2) pos) (tD X.K M H0 (sl3 f lo hi slD)):=⟨ZnV he.h hl.h hu.h⟩
end
end L2
set_option Elab.async false
set_option linter.all false
set_option maxRecDepth 100000
namespace L2
open PySem PySem.Spec PyProof.Rows
mutual
def eqD:D→D→Bool
 | .non,.non=>true
 | .bl a,.bl b=>a==b
 | .bl a,.int b=>(if a then 1 else 0)==b
 | .int a,.bl b=>a==(if b then 1 else 0)
 | .int a,.int b=>a==b
 | .str a,.str b=>a==b
 | .tup xs,.tup ys=>Zah xs ys
 | .lst xs,.lst ys=>Zah xs ys
 | _,_=>false
def Zah:List D→List D→Bool
 | [],[]=>true
 | x::xs,y::ys=>eqD x y&&Zah xs ys
 | _,_=>false
end
@[simp] def okD:Nat→D→Bool
  | _,.non=>true
  | _,.bl _=>true
  | _,.int _=>true
  | _,.str _=>true
  | n+1,.tup xs=>xs.all (okD n)
  | n+1,.lst xs=>xs.all (okD n)
  | _,_=>false
mutual
theorem ZkC:∀ (n:Nat) (d:D),okD n d=true→eqD d d=true
 | _,.non,_=>by simp only [eqD]
 | _,.bl _,_=>by simp only [eqD,beq_self_eq_true]
 | _,.int _,_=>by simp only [eqD,beq_self_eq_true]
 | _,.str _,_=>by simp only [eqD,beq_self_eq_true]
 | 0,.ty _,h=>by simp [okD] at h
 | _+1,.ty _,h=>by simp [okD] at h
 | 0,.tup xs,h=>by simp [okD] at h
 | 0,.lst xs _,h=>by simp [okD] at h
 | n+1,.tup xs,h=>by simp only [okD] at h;simp only [eqD];exact ZdI n xs h
 | n+1,.lst xs false,h=>by simp only [okD] at h;simp only [eqD];exact ZdI n xs h
 | n+1,.lst xs true,h=>by simp [okD] at h
theorem ZdI:∀ (n:Nat) (xs:List D),xs.all (okD n)=true→Zah xs xs=true
 | _,[],_=>by simp only [Zah]
 | n,x::xs,h=>by
  simp only [List.all_cons,Bool.and_eq_true] at h
  simp only [Zah,Bool.and_eq_true]
  exact ⟨ZkC n x h.1,ZdI n xs h.2⟩
end
theorem ZhG:∀ {xs ys:List D},xs.length≠ys.length→Zah xs ys=false
 | [],[],h=>absurd rfl h
 | [],_::_,_=>by simp only [Zah]
 | _::_,[],_=>by simp only [Zah]
 | x::xs,y::ys,h=>by
  simp only [Zah]
  rw [ZhG (xs:=xs) (ys:=ys) (by simpa using h),Bool.and_false]
theorem ZhT:∀ {xs ys:List D},xs.length=ys.length→Zah xs ys=(List.range xs.length).all fun j=>eqD (xs.getD j .non) (ys.getD j .non)
 | [],[],_=>by simp [Zah]
 | [],_::_,h=>by simp at h
 | _::_,[],h=>by simp at h
 | x::xs,y::ys,h=>by
  have ih:=ZhT (xs:=xs) (ys:=ys) (by simpa using h)
  simp only [Zah,List.length_cons,List.range_succ_eq_map,List.all_cons,List.getD_cons_zero,List.all_map,ih]
  rfl
section
variable {X:Cx} {pins:List (Addr×Obj)} {σ:St} {H:Hp} {s:Shared}
theorem Inv.apart (I:Inv X pins σ H s) {a:Addr} {xs ys:List V} (h:SqL X.K H a xs) (h':SqT X.K H a ys):False:=by
 obtain ⟨its,r,⟨o,n,e,c,_⟩,_⟩:=I.list h
 obtain ⟨its',r',⟨o',e',c',_⟩,_⟩:=I.tuple h'
 rw [e] at e';cases e'
 rw [c] at c'
 exact absurd c' (by decide)
theorem Rd.dct_inj {H:Hp} {a:Addr} {ks ks':List KT} {vs vs':List V} (h:Rd H a (.dct ks vs)) (h':Rd H a (.dct ks' vs')):vs=vs':=by
 rcases h with h | ⟨o,h⟩<;>rcases h' with h' | ⟨o',h'⟩<;>(rw [h] at h';cases h';try rfl)
theorem Inv.apartDL (I:Inv X pins σ H s) {a:Addr} {ks:List KT} {xs ys:List V} (h:Rd H a (.dct ks xs)) (h':SqL X.K H a ys):False:=by
 obtain ⟨_,_,_,o,_,_,e,c,_⟩:=h.ok I.hok
 obtain ⟨its',r',⟨o',n',e',c',_⟩,_⟩:=I.list h'
 rw [e] at e';cases e'
 rw [c.1] at c'
 exact absurd c' (by decide)
theorem Inv.apartDT (I:Inv X pins σ H s) {a:Addr} {ks:List KT} {xs ys:List V} (h:Rd H a (.dct ks xs)) (h':SqT X.K H a ys):False:=by
 obtain ⟨_,_,_,o,_,_,e,c,_⟩:=h.ok I.hok
 obtain ⟨its',r',⟨o',e',c',_⟩,_⟩:=I.tuple h'
 rw [e] at e';cases e'
 rw [c.1] at c'
 exact absurd c' (by decide)
mutual
/-- what an address denotes is one thing -/
theorem ZlV (I:Inv X pins σ H s) {N N':Fb}:∀ (d d':D) (v:V),DenP X.K N H d v→DenP X.K N' H d' v→d=d'
 | .non,d',v,h,h'=>by
  have h:=h.non
  cases d' with
  | non=>rfl
  | bl _=>rw [h'.bl] at h;cases h
  | int _=>rw [h'.int] at h;cases h
  | str _=>rw [h'.str] at h;cases h
  | ty _=>rw [h'.ty] at h;cases h
  | tup _=>obtain ⟨_,_,e,_⟩:=h'.tup;rw [e] at h;cases h
  | lst _ fl=>cases fl<;>(obtain ⟨_,_,e,_⟩:=h';rw [e] at h;cases h)
 | .bl _,d',v,h,h'=>by
  have h:=h.bl
  cases d' with
  | non=>rw [h'.non] at h;cases h
  | bl _=>rw [h'.bl] at h;cases h;rfl
  | int _=>rw [h'.int] at h;cases h
  | str _=>rw [h'.str] at h;cases h
  | ty _=>rw [h'.ty] at h;cases h
  | tup _=>obtain ⟨_,_,e,_⟩:=h'.tup;rw [e] at h;cases h
  | lst _ fl=>cases fl<;>(obtain ⟨_,_,e,_⟩:=h';rw [e] at h;cases h)
 | .int _,d',v,h,h'=>by
  have h:=h.int
  cases d' with
  | non=>rw [h'.non] at h;cases h
  | bl _=>rw [h'.bl] at h;cases h
  | int _=>rw [h'.int] at h;cases h;rfl
  | str _=>rw [h'.str] at h;cases h
  | ty _=>rw [h'.ty] at h;cases h
  | tup _=>obtain ⟨_,_,e,_⟩:=h'.tup;rw [e] at h;cases h
  | lst _ fl=>cases fl<;>(obtain ⟨_,_,e,_⟩:=h';rw [e] at h;cases h)
 | .str _,d',v,h,h'=>by
  have h:=h.str
  cases d' with
  | non=>rw [h'.non] at h;cases h
  | bl _=>rw [h'.bl] at h;cases h
  | int _=>rw [h'.int] at h;cases h
  | str _=>rw [h'.str] at h;cases h;rfl
  | ty _=>rw [h'.ty] at h;cases h
  | tup _=>obtain ⟨_,_,e,_⟩:=h'.tup;rw [e] at h;cases h
  | lst _ fl=>cases fl<;>(obtain ⟨_,_,e,_⟩:=h';rw [e] at h;cases h)
 | .ty _,d',v,h,h'=>by
  have h:=h.ty
  cases d' with
  | non=>rw [h'.non] at h;cases h
  | bl _=>rw [h'.bl] at h;cases h
  | int _=>rw [h'.int] at h;cases h
  | str _=>rw [h'.str] at h;cases h
  | ty _=>rw [h'.ty] at h;cases h;rfl
  | tup _=>obtain ⟨_,_,e,_⟩:=h'.tup;rw [e] at h;cases h
  | lst _ fl=>cases fl<;>(obtain ⟨_,_,e,_⟩:=h';rw [e] at h;cases h)
 | .tup xs,d',v,h,h'=>by
  obtain ⟨a,vs,e,q,r⟩:=h.tup
  subst e
  cases d' with
  | non=>cases h'.non
  | bl _=>cases h'.bl
  | int _=>cases h'.int
  | str _=>cases h'.str
  | ty _=>cases h'.ty
  | tup ys =>
   obtain ⟨b,ws,e,q',r'⟩:=h'.tup
   cases e
   have:=I.tuple_inj q q'
   subst this
   rw [Zdx I xs ys vs r r']
  | lst _ fl =>
   cases fl with
   | false=>obtain ⟨b,ws,e,q',_⟩:=h';cases e;exact (I.apart q' q).elim
   | true=>obtain ⟨b,ws,e,q',_⟩:=h';cases e;exact (I.apartDT q' q).elim
 | .lst xs true,d',v,h,h'=>by
  obtain ⟨a,vs,e,q,r⟩:=h
  subst e
  cases d' with
  | non=>cases h'.non
  | bl _=>cases h'.bl
  | int _=>cases h'.int
  | str _=>cases h'.str
  | ty _=>cases h'.ty
  | tup ys=>obtain ⟨b,ws,e,q',r'⟩:=h'.tup;cases e;exact (I.apartDT q q').elim
  | lst ys fl =>
   cases fl with
   | false=>obtain ⟨b,ws,e,q',r'⟩:=h';cases e;exact (I.apartDL q q').elim
   | true =>
    obtain ⟨b,ws,e,q',r'⟩:=h'
    cases e
    have:=Rd.dct_inj q q'
    subst this
    rw [Zdx I xs ys vs r r']
 | .lst xs false,d',v,h,h'=>by
  obtain ⟨a,vs,e,q,r⟩:=h
  subst e
  cases d' with
  | non=>cases h'.non
  | bl _=>cases h'.bl
  | int _=>cases h'.int
  | str _=>cases h'.str
  | ty _=>cases h'.ty
  | tup ys=>obtain ⟨b,ws,e,q',r'⟩:=h'.tup;cases e;exact (I.apart q q').elim
  | lst ys fl =>
   cases fl with
   | true=>obtain ⟨b,ws,e,q',r'⟩:=h';cases e;exact (I.apartDL q' q).elim
   | false =>
   obtain ⟨b,ws,e,q',r'⟩:=h'
   cases e
   have:=I.list_inj q q'
   subst this
   rw [Zdx I xs ys vs r r']
theorem Zdx (I:Inv X pins σ H s) {N N':Fb}:∀ (xs ys:List D) (vs:List V),DenL X.K N H xs vs→DenL X.K N' H ys vs→xs=ys
 | [],ys,vs,h,h'=>by
  simp only [DenL] at h;subst h
  cases ys with
  | nil=>rfl
  | cons y ys=>simp only [DenL] at h';obtain ⟨_,_,e,_⟩:=h';cases e
 | x::xs,ys,vs,h,h'=>by
  simp only [DenL] at h
  obtain ⟨v,r,e,q,t⟩:=h
  subst e
  cases ys with
  | nil=>simp only [DenL] at h';cases h'
  | cons y ys =>
   simp only [DenL] at h'
   obtain ⟨v',r',e,q',t'⟩:=h'
   cases e
   rw [ZlV I x y v q.p q'.p,Zdx I xs ys r t t']
end
open SeqAt
theorem getD_some {α:Type} {xs:List α} {j:Nat} {d e:α} (h:xs[j]?=some e):xs.getD j d=e:=by simp [List.getD_eq_getElem?_getD,h]
theorem Zhc {its:List Value} {j:Nat} {u:Value} (h1:j<its.toArray.size) (e:its[j]?=some u):its.toArray[j]=u:=by
 obtain ⟨_,e⟩:=List.getElem?_eq_some_iff.mp e
 simpa using e
def ZqV (A:Around) (s:Shared) (u v:Value) (b:Bool):Prop:=RcAt A s u v b∧EqAt A s u v b∧RcNeAt A s u v (!b)
theorem ZdJ (A:Around):A.in1.units=A.units+1:=rfl
theorem Zec (I:Inv X pins σ H s) {N:Fb}:∀ (n:Nat) (A:Around) (x y:D) (vx vy:V) (u v:Value),A.units+n<cLine→okD n x=true→okD n y=true→DenP X.K N H x vx→DenP X.K N H y vy→RelV vx u→RelV vy v→ZqV A s u v (eqD x y):=by
 intro n
 induction n with
 | zero =>
  intro A x y vx vy u v hu ox oy hx hy rx ry
  have hu':A.units<cLine:=by omega
  cases x with
  | non =>
   rw [hx.non] at rx;cases rx
   cases y with
   | non=>rw [hy.non] at ry;cases ry;simp only [eqD];exact ⟨RcAt.none_none,EqAt.same _,RcNeAt.none_none⟩
   | bl _=>rw [hy.bl] at ry;cases ry;simp only [eqD];exact ⟨RcAt.none_bool _,EqAt.none_bool _,RcNeAt.none_bool _⟩
   | int _=>rw [hy.int] at ry;obtain ⟨t2,rfl⟩:=ry;simp only [eqD];exact ⟨RcAt.none_int _ _,EqAt.none_int _ _,RcNeAt.none_int _ _⟩
   | str _=>rw [hy.str] at ry;obtain ⟨t2,rfl⟩:=ry;simp only [eqD];exact ⟨RcAt.none_str _ _,EqAt.none_str _ _,RcNeAt.none_str _ _⟩
   | tup ys=>simp [okD] at oy
   | lst ys=>simp [okD] at oy
   | ty _=>simp [okD] at oy
  | bl _ =>
   rw [hx.bl] at rx;cases rx
   cases y with
   | non=>rw [hy.non] at ry;cases ry;simp only [eqD];exact ⟨RcAt.bool_none _,EqAt.bool_none _,RcNeAt.bool_none _⟩
   | bl _=>rw [hy.bl] at ry;cases ry;simp only [eqD];exact ⟨RcAt.bool_bool _ _,EqAt.bool_bool _ _,RcNeAt.bool_bool _ _⟩
   | int _=>rw [hy.int] at ry;obtain ⟨t2,rfl⟩:=ry;simp only [eqD];exact ⟨RcAt.bool_int _ _ _,EqAt.bool_int _ _ _,RcNeAt.bool_int _ _ _⟩
   | str _=>rw [hy.str] at ry;obtain ⟨t2,rfl⟩:=ry;simp only [eqD];exact ⟨RcAt.bool_str _ _ _,EqAt.bool_str _ _ _,RcNeAt.bool_str _ _ _⟩
   | tup ys=>simp [okD] at oy
   | lst ys=>simp [okD] at oy
   | ty _=>simp [okD] at oy
  | int _ =>
   rw [hx.int] at rx;obtain ⟨t1,rfl⟩:=rx
   cases y with
   | non=>rw [hy.non] at ry;cases ry;simp only [eqD];exact ⟨RcAt.int_none _ _,EqAt.int_none _ _,RcNeAt.int_none _ _⟩
   | bl _=>rw [hy.bl] at ry;cases ry;simp only [eqD];exact ⟨RcAt.int_bool _ _ _,EqAt.int_bool _ _ _,RcNeAt.int_bool _ _ _⟩
   | int _=>rw [hy.int] at ry;obtain ⟨t2,rfl⟩:=ry;simp only [eqD];exact ⟨RcAt.int_int _ _ _ _,EqAt.int_int _ _ _ _,RcNeAt.int_int _ _ _ _⟩
   | str _=>rw [hy.str] at ry;obtain ⟨t2,rfl⟩:=ry;simp only [eqD];exact ⟨RcAt.int_str _ _ _ _,EqAt.int_str _ _ _ _,RcNeAt.int_str _ _ _ _⟩
   | tup ys=>simp [okD] at oy
   | lst ys=>simp [okD] at oy
   | ty _=>simp [okD] at oy
  | str _ =>
   rw [hx.str] at rx;obtain ⟨t1,rfl⟩:=rx
   cases y with
   | non=>rw [hy.non] at ry;cases ry;simp only [eqD];exact ⟨RcAt.str_none _ _,EqAt.str_none _ _,RcNeAt.str_none _ _⟩
   | bl _=>rw [hy.bl] at ry;cases ry;simp only [eqD];exact ⟨RcAt.str_bool _ _ _,EqAt.str_bool _ _ _,RcNeAt.str_bool _ _ _⟩
   | int _=>rw [hy.int] at ry;obtain ⟨t2,rfl⟩:=ry;simp only [eqD];exact ⟨RcAt.str_int _ _ _ _,EqAt.str_int _ _ _ _,RcNeAt.str_int _ _ _ _⟩
   | str _=>rw [hy.str] at ry;obtain ⟨t2,rfl⟩:=ry;simp only [eqD];exact ⟨RcAt.str_str _ _ _ _,EqAt.str_str _ _ _ _,RcNeAt.str_str _ _ _ _⟩
   | tup ys=>simp [okD] at oy
   | lst ys=>simp [okD] at oy
   | ty _=>simp [okD] at oy
  | tup xs=>simp [okD] at ox
  | lst xs=>simp [okD] at ox
  | ty _=>simp [okD] at ox
 | succ n ih =>
  intro A x y vx vy u v hu ox oy hx hy rx ry
  have hu':A.units<cLine:=by omega
  cases x with
  | non =>
   rw [hx.non] at rx;cases rx
   cases y with
   | non=>rw [hy.non] at ry;cases ry;simp only [eqD];exact ⟨RcAt.none_none,EqAt.same _,RcNeAt.none_none⟩
   | bl _=>rw [hy.bl] at ry;cases ry;simp only [eqD];exact ⟨RcAt.none_bool _,EqAt.none_bool _,RcNeAt.none_bool _⟩
   | int _=>rw [hy.int] at ry;obtain ⟨t2,rfl⟩:=ry;simp only [eqD];exact ⟨RcAt.none_int _ _,EqAt.none_int _ _,RcNeAt.none_int _ _⟩
   | str _=>rw [hy.str] at ry;obtain ⟨t2,rfl⟩:=ry;simp only [eqD];exact ⟨RcAt.none_str _ _,EqAt.none_str _ _,RcNeAt.none_str _ _⟩
   | tup ys=>obtain ⟨a2,vs2,e2,q2,d2⟩:=hy.tup;subst e2;cases ry;obtain ⟨its2,r2,p2,z2⟩:=I.tuple q2;simp only [eqD];exact ⟨RcAt.none_tuple p2 hu',EqAt.none_tuple p2 hu',RcNeAt.none_tuple p2 hu'⟩
   | lst ys fl =>
    cases fl with
    | true=>simp [okD] at oy
    | false =>
     obtain ⟨a2,vs2,e2,q2,d2⟩:=hy;subst e2;cases ry;obtain ⟨its2,r2,p2,z2⟩:=I.list q2;simp only [eqD];exact ⟨RcAt.none_list p2.isList hu',EqAt.none_list p2.isList hu',RcNeAt.none_list p2.isList hu'⟩
   | ty _=>simp [okD] at oy
  | bl _ =>
   rw [hx.bl] at rx;cases rx
   cases y with
   | non=>rw [hy.non] at ry;cases ry;simp only [eqD];exact ⟨RcAt.bool_none _,EqAt.bool_none _,RcNeAt.bool_none _⟩
   | bl _=>rw [hy.bl] at ry;cases ry;simp only [eqD];exact ⟨RcAt.bool_bool _ _,EqAt.bool_bool _ _,RcNeAt.bool_bool _ _⟩
   | int _=>rw [hy.int] at ry;obtain ⟨t2,rfl⟩:=ry;simp only [eqD];exact ⟨RcAt.bool_int _ _ _,EqAt.bool_int _ _ _,RcNeAt.bool_int _ _ _⟩
   | str _=>rw [hy.str] at ry;obtain ⟨t2,rfl⟩:=ry;simp only [eqD];exact ⟨RcAt.bool_str _ _ _,EqAt.bool_str _ _ _,RcNeAt.bool_str _ _ _⟩
   | tup ys=>obtain ⟨a2,vs2,e2,q2,d2⟩:=hy.tup;subst e2;cases ry;obtain ⟨its2,r2,p2,z2⟩:=I.tuple q2;simp only [eqD];exact ⟨RcAt.bool_tuple _ p2 hu',EqAt.bool_tuple _ p2 hu',RcNeAt.bool_tuple _ p2 hu'⟩
   | lst ys fl =>
    cases fl with
    | true=>simp [okD] at oy
    | false =>
     obtain ⟨a2,vs2,e2,q2,d2⟩:=hy;subst e2;cases ry;obtain ⟨its2,r2,p2,z2⟩:=I.list q2;simp only [eqD];exact ⟨RcAt.bool_list _ p2.isList hu',EqAt.bool_list _ p2.isList hu',RcNeAt.bool_list _ p2.isList hu'⟩
   | ty _=>simp [okD] at oy
  | int _ =>
   rw [hx.int] at rx;obtain ⟨t1,rfl⟩:=rx
   cases y with
   | non=>rw [hy.non] at ry;cases ry;simp only [eqD];exact ⟨RcAt.int_none _ _,EqAt.int_none _ _,RcNeAt.int_none _ _⟩
   | bl _=>rw [hy.bl] at ry;cases ry;simp only [eqD];exact ⟨RcAt.int_bool _ _ _,EqAt.int_bool _ _ _,RcNeAt.int_bool _ _ _⟩
   | int _=>rw [hy.int] at ry;obtain ⟨t2,rfl⟩:=ry;simp only [eqD];exact ⟨RcAt.int_int _ _ _ _,EqAt.int_int _ _ _ _,RcNeAt.int_int _ _ _ _⟩
   | str _=>rw [hy.str] at ry;obtain ⟨t2,rfl⟩:=ry;simp only [eqD];exact ⟨RcAt.int_str _ _ _ _,EqAt.int_str _ _ _ _,RcNeAt.int_str _ _ _ _⟩
   | tup ys=>obtain ⟨a2,vs2,e2,q2,d2⟩:=hy.tup;subst e2;cases ry;obtain ⟨its2,r2,p2,z2⟩:=I.tuple q2;simp only [eqD];exact ⟨RcAt.int_tuple _ _ p2 hu',EqAt.int_tuple _ _ p2 hu',RcNeAt.int_tuple _ _ p2 hu'⟩
   | lst ys fl =>
    cases fl with
    | true=>simp [okD] at oy
    | false =>
     obtain ⟨a2,vs2,e2,q2,d2⟩:=hy;subst e2;cases ry;obtain ⟨its2,r2,p2,z2⟩:=I.list q2;simp only [eqD];exact ⟨RcAt.int_list _ _ p2.isList hu',EqAt.int_list _ _ p2.isList hu',RcNeAt.int_list _ _ p2.isList hu'⟩
   | ty _=>simp [okD] at oy
  | str _ =>
   rw [hx.str] at rx;obtain ⟨t1,rfl⟩:=rx
   cases y with
   | non=>rw [hy.non] at ry;cases ry;simp only [eqD];exact ⟨RcAt.str_none _ _,EqAt.str_none _ _,RcNeAt.str_none _ _⟩
   | bl _=>rw [hy.bl] at ry;cases ry;simp only [eqD];exact ⟨RcAt.str_bool _ _ _,EqAt.str_bool _ _ _,RcNeAt.str_bool _ _ _⟩
   | int _=>rw [hy.int] at ry;obtain ⟨t2,rfl⟩:=ry;simp only [eqD];exact ⟨RcAt.str_int _ _ _ _,EqAt.str_int _ _ _ _,RcNeAt.str_int _ _ _ _⟩
   | str _=>rw [hy.str] at ry;obtain ⟨t2,rfl⟩:=ry;simp only [eqD];exact ⟨RcAt.str_str _ _ _ _,EqAt.str_str _ _ _ _,RcNeAt.str_str _ _ _ _⟩
   | tup ys=>obtain ⟨a2,vs2,e2,q2,d2⟩:=hy.tup;subst e2;cases ry;obtain ⟨its2,r2,p2,z2⟩:=I.tuple q2;simp only [eqD];exact ⟨RcAt.str_tuple _ _ p2 hu',EqAt.str_tuple _ _ p2 hu',RcNeAt.str_tuple _ _ p2 hu'⟩
   | lst ys fl =>
    cases fl with
    | true=>simp [okD] at oy
    | false =>
     obtain ⟨a2,vs2,e2,q2,d2⟩:=hy;subst e2;cases ry;obtain ⟨its2,r2,p2,z2⟩:=I.list q2;simp only [eqD];exact ⟨RcAt.str_list _ _ p2.isList hu',EqAt.str_list _ _ p2.isList hu',RcNeAt.str_list _ _ p2.isList hu'⟩
   | ty _=>simp [okD] at oy
  | tup xs =>
   obtain ⟨a1,vs1,e1,q1,d1⟩:=hx.tup;subst e1;cases rx;obtain ⟨its1,r1,p1,z1⟩:=I.tuple q1
   cases y with
   | non=>rw [hy.non] at ry;cases ry;simp only [eqD];exact ⟨RcAt.tuple_none p1 hu',EqAt.tuple_none p1 hu',RcNeAt.tuple_none p1 hu'⟩
   | bl _=>rw [hy.bl] at ry;cases ry;simp only [eqD];exact ⟨RcAt.tuple_bool _ p1 hu',EqAt.tuple_bool _ p1 hu',RcNeAt.tuple_bool _ p1 hu'⟩
   | int _=>rw [hy.int] at ry;obtain ⟨t2,rfl⟩:=ry;simp only [eqD];exact ⟨RcAt.tuple_int _ _ p1 hu',EqAt.tuple_int _ _ p1 hu',RcNeAt.tuple_int _ _ p1 hu'⟩
   | str _=>rw [hy.str] at ry;obtain ⟨t2,rfl⟩:=ry;simp only [eqD];exact ⟨RcAt.tuple_str _ _ p1 hu',EqAt.tuple_str _ _ p1 hu',RcNeAt.tuple_str _ _ p1 hu'⟩
   | tup ys =>
    obtain ⟨a2,vs2,e2,q2,d2⟩:=hy.tup;subst e2;cases ry;obtain ⟨its2,r2,p2,z2⟩:=I.tuple q2
    simp only [okD] at ox oy
    have l1:=r1.length
    have l2:=r2.length
    have m1:=d1.length
    have m2:=d2.length
    simp only [eqD]
    have rc:RcAt A s (.ref a1) (.ref a2) (Zah xs ys)∧RcNeAt A s (.ref a1) (.ref a2) (!Zah xs ys):=by
     have each:∀ j (h1:j<its1.toArray.size) (h2:j<its2.toArray.size),EqAt A.in1 s its1.toArray[j] its2.toArray[j] (eqD (xs.getD j .non) (ys.getD j .non)):=fun j h1 h2=>?_
     ·have key:=RcAt.tuples (A:=A) (s:=s) (e:=fun j=>eqD (xs.getD j .non) (ys.getD j .non)) p1 p2 hu' each
      have key2:=RcNeAt.tuples (A:=A) (s:=s) (e:=fun j=>eqD (xs.getD j .non) (ys.getD j .non)) p1 p2 hu' each
      have e:((List.range (min its1.toArray.size its2.toArray.size)).all (fun j=>eqD (xs.getD j .non) (ys.getD j .non))&&its1.toArray.size==its2.toArray.size)=Zah xs ys:=by
       rw [List.size_toArray,List.size_toArray]
       by_cases hl:xs.length=ys.length
       ·rw [ZhT hl,show its1.length=xs.length by omega,show its2.length=xs.length by omega,Nat.min_self];simp
       ·rw [ZhG hl,show (its1.length==its2.length)=false by simp;omega,Bool.and_false]
      rw [e] at key key2
      exact ⟨key,key2⟩
     ·have h1':j<xs.length:=by rw [List.size_toArray] at h1;omega
      have h2':j<ys.length:=by rw [List.size_toArray] at h2;omega
      have g1:=List.getElem?_eq_getElem h1'
      have g2:=List.getElem?_eq_getElem h2'
      obtain ⟨w1,hw1,dw1⟩:=d1.get g1
      obtain ⟨w2,hw2,dw2⟩:=d2.get g2
      obtain ⟨u1,hu1,ru1⟩:=r1.get hw1
      obtain ⟨u2,hu2,ru2⟩:=r2.get hw2
      rw [Zhc h1 hu1,Zhc h2 hu2,getD_some g1,getD_some g2]
      exact (ih A.in1 _ _ _ _ _ _ (by rw [ZdJ];omega) (List.all_eq_true.mp ox _ (List.getElem_mem h1')) (List.all_eq_true.mp oy _ (List.getElem_mem h2')) dw1.p dw2.p ru1 ru2).2.1
    refine ⟨rc.1,?_,rc.2⟩
    by_cases ea:a1=a2
    ·subst ea
     have:=I.tuple_inj q1 q2
     subst this
     rw [Zdx I xs ys _ d1 d2,ZdI n ys oy]
     exact EqAt.same _
    ·exact EqAt.of_refs ea rc.1
   | lst ys fl =>
    cases fl with
    | true=>simp [okD] at oy
    | false =>
     obtain ⟨a2,vs2,e2,q2,d2⟩:=hy;subst e2;cases ry;obtain ⟨its2,r2,p2,z2⟩:=I.list q2;simp only [eqD];exact ⟨RcAt.tuple_list p1 p2.isList hu',EqAt.tuple_list p1 p2.isList hu',RcNeAt.tuple_list p1 p2.isList hu'⟩
   | ty _=>simp [okD] at oy
  | lst xs fl =>
   cases fl with
   | true=>simp [okD] at ox
   | false =>
    obtain ⟨a1,vs1,e1,q1,d1⟩:=hx;subst e1;cases rx;obtain ⟨its1,r1,p1,z1⟩:=I.list q1
    cases y with
    | non=>rw [hy.non] at ry;cases ry;simp only [eqD];exact ⟨RcAt.list_none p1.isList hu',EqAt.list_none p1.isList hu',RcNeAt.list_none p1.isList hu'⟩
    | bl _=>rw [hy.bl] at ry;cases ry;simp only [eqD];exact ⟨RcAt.list_bool _ p1.isList hu',EqAt.list_bool _ p1.isList hu',RcNeAt.list_bool _ p1.isList hu'⟩
    | int _=>rw [hy.int] at ry;obtain ⟨t2,rfl⟩:=ry;simp only [eqD];exact ⟨RcAt.list_int _ _ p1.isList hu',EqAt.list_int _ _ p1.isList hu',RcNeAt.list_int _ _ p1.isList hu'⟩
    | str _=>rw [hy.str] at ry;obtain ⟨t2,rfl⟩:=ry;simp only [eqD];exact ⟨RcAt.list_str _ _ p1.isList hu',EqAt.list_str _ _ p1.isList hu',RcNeAt.list_str _ _ p1.isList hu'⟩
    | tup ys=>obtain ⟨a2,vs2,e2,q2,d2⟩:=hy.tup;subst e2;cases ry;obtain ⟨its2,r2,p2,z2⟩:=I.tuple q2;simp only [eqD];exact ⟨RcAt.list_tuple p1.isList p2 hu',EqAt.list_tuple p1.isList p2 hu',RcNeAt.list_tuple p1.isList p2 hu'⟩
    | lst ys fl =>
     cases fl with
     | true=>simp [okD] at oy
     | false =>
      obtain ⟨a2,vs2,e2,q2,d2⟩:=hy;subst e2;cases ry;obtain ⟨its2,r2,p2,z2⟩:=I.list q2
      simp only [okD] at ox oy
      have l1:=r1.length
      have l2:=r2.length
      have m1:=d1.length
      have m2:=d2.length
      simp only [eqD]
      have rc:RcAt A s (.ref a1) (.ref a2) (Zah xs ys)∧RcNeAt A s (.ref a1) (.ref a2) (!Zah xs ys):=by
       by_cases hl:xs.length=ys.length
       ·have each:∀ j (h1:j<its1.toArray.size) (h2:j<its2.toArray.size),EqAt A.in1 s its1.toArray[j] its2.toArray[j] (eqD (xs.getD j .non) (ys.getD j .non)):=fun j h1 h2=>?_
        ·have key:=RcAt.lists (A:=A) (s:=s) (e:=fun j=>eqD (xs.getD j .non) (ys.getD j .non)) p1.isList p2.isList (by rw [List.size_toArray,List.size_toArray];omega) hu' each
         have key2:=RcNeAt.lists (A:=A) (s:=s) (e:=fun j=>eqD (xs.getD j .non) (ys.getD j .non)) p1.isList p2.isList (by rw [List.size_toArray,List.size_toArray];omega) hu' each
         have e:(List.range its1.toArray.size).all (fun j=>eqD (xs.getD j .non) (ys.getD j .non))=Zah xs ys:=by
          rw [List.size_toArray,ZhT hl,show its1.length=xs.length by omega]
         rw [e] at key key2
         exact ⟨key,key2⟩
        ·have h1':j<xs.length:=by rw [List.size_toArray] at h1;omega
         have h2':j<ys.length:=by rw [List.size_toArray] at h2;omega
         have g1:=List.getElem?_eq_getElem h1'
         have g2:=List.getElem?_eq_getElem h2'
         obtain ⟨w1,hw1,dw1⟩:=d1.get g1
         obtain ⟨w2,hw2,dw2⟩:=d2.get g2
         obtain ⟨u1,hu1,ru1⟩:=r1.get hw1
         obtain ⟨u2,hu2,ru2⟩:=r2.get hw2
         rw [Zhc h1 hu1,Zhc h2 hu2,getD_some g1,getD_some g2]
         exact (ih A.in1 _ _ _ _ _ _ (by rw [ZdJ];omega) (List.all_eq_true.mp ox _ (List.getElem_mem h1')) (List.all_eq_true.mp oy _ (List.getElem_mem h2')) dw1.p dw2.p ru1 ru2).2.1
       ·rw [ZhG hl]
        have hne:(its1.toArray.size != its2.toArray.size)=true:=by rw [List.size_toArray,List.size_toArray];simp;omega
        exact ⟨RcAt.lists_lengths p1.isList p2.isList hne hu',RcNeAt.lists_lengths p1.isList p2.isList hne hu'⟩
      refine ⟨rc.1,?_,rc.2⟩
      by_cases ea:a1=a2
      ·subst ea
       have:=I.list_inj q1 q2
       subst this
       rw [Zdx I xs ys _ d1 d2,ZdI n ys oy]
       exact EqAt.same _
      ·exact EqAt.of_refs ea rc.1
    | ty _=>simp [okD] at oy
  | ty _=>simp [okD] at ox
end
def Zae:Nat:=12
@[simp] def eqO (x y:D):Option D:=if okD Zae x&&okD Zae y then some (.bl (eqD x y)) else none
@[simp] def neO (x y:D):Option D:=if okD Zae x&&okD Zae y then some (.bl (!eqD x y)) else none
def Zmr (K:PySem.W.Frag) (neg:Bool):R2:=fun x y H Q=>∃ N d1 d2,DenP K N H d1 x∧DenP K N H d2 y∧okD Zae d1=true∧okD Zae d2=true∧Q (.bl (if neg then !eqD d1 d2 else eqD d1 d2)) H
section
variable {X:Cx} {K:PySem.W.Frag} {M:Fb} {H0:Hp} {a b:Expr} {f g:VE→Option D} {pos:Pos}
theorem Zrs (hu:X.A.units+64<cLine):OpR X (compareOp .Eq) (Zmr X.K false):=by
 intro pins s σ H x y v u Q I rx ry h
 obtain ⟨N,d1,d2,h1,h2,o1,o2,q⟩:=h
 exact (Zec I Zae X.A d1 d2 x y v u (by unfold Zae;omega) o1 o2 h1 h2 rx ry).1 X.prog X.w X.xe _ ⟨.bl _,H,I,rfl,q⟩
theorem Znp (hu:X.A.units+64<cLine):OpR X (compareOp .NotEq) (Zmr X.K true):=by
 intro pins s σ H x y v u Q I rx ry h
 obtain ⟨N,d1,d2,h1,h2,o1,o2,q⟩:=h
 exact (Zec I Zae X.A d1 d2 x y v u (by unfold Zae;omega) o1 o2 h1 h2 rx ry).2.2 X.prog X.w X.xe _ ⟨.bl _,H,I,rfl,q⟩
theorem Zs8:R2D K (Zmr K false) eqO:=by
 intro N H x y d1 d2 d Q nh h1 h2 e q
 unfold eqO at e
 split at e
 ·next ho=>rw [Bool.and_eq_true] at ho;cases e;exact ⟨N,d1,d2,h1,h2,ho.1,ho.2,q _ H (Same.refl H) ZbA⟩
 ·cases e
theorem ZoT:R2D K (Zmr K true) neO:=by
 intro N H x y d1 d2 d Q nh h1 h2 e q
 unfold neO at e
 split at e
 ·next ho=>rw [Bool.and_eq_true] at ho;cases e;exact ⟨N,d1,d2,h1,h2,ho.1,ho.2,q _ H (Same.refl H) ZbA⟩
 ·cases e
def ZfD (x:D) (ys:List D):Bool:=ys.any fun y=>eqD y x
@[simp] def inD (neg:Bool) (x y:D):Option D:=match y with
  | .lst ys=>if okD Zae x&&ys.all (okD Zae) then some (.bl (if neg then !ZfD x ys else ZfD x ys)) else none
  | .tup ys=>if okD Zae x&&ys.all (okD Zae) then some (.bl (if neg then !ZfD x ys else ZfD x ys)) else none
  | .str z=>match x with
   | .str w=>some (.bl (if neg then !(!(Builtin.Str.occurrences z w 0 z.length 1).isEmpty) else !(Builtin.Str.occurrences z w 0 z.length 1).isEmpty))
   | _=>none
  | _=>none
def Zrc (K:PySem.W.Frag) (neg:Bool):R2:=fun x y H Q=>∃ N d1 ys vs p,DenP K N H d1 x∧y=.ref p∧(SqL K H p vs∨SqT K H p vs)∧DenL K N H ys vs∧okD Zae d1=true∧ys.all (okD Zae)=true∧Q (.bl (if neg then !ZfD d1 ys else ZfD d1 ys)) H
open Classical in
noncomputable def ZdH (K:PySem.W.Frag) (N:Fb) (H:Hp) (x:D) (u:Value):Bool:=decide (∃ d w,DenP K N H d w∧RelV w u∧eqD d x=true)
theorem ZkA {pins:List (Addr×Obj)} {σ:St} {H:Hp} {s:Shared} (I:Inv X pins σ H s) {N:Fb} {x d:D} {w:V} {u:Value} (hd:DenP X.K N H d w) (r:RelV w u):ZdH X.K N H x u=eqD d x:=by
 classical
 unfold ZdH
 cases e:eqD d x with
 | true=>exact @decide_eq_true _ (Classical.propDecidable _) ⟨d,w,hd,r,e⟩
 | false =>
  refine @decide_eq_false _ (Classical.propDecidable _) ?_
  rintro ⟨d',w',hd',r',e'⟩
  have:=r'.inj r
  subst this
  have:=ZlV I d' d _ hd' hd
  subst this
  rw [e] at e';cases e'
theorem Zio {pins:List (Addr×Obj)} {σ:St} {H:Hp} {s:Shared} (I:Inv X pins σ H s) {N:Fb} {x:D}:∀ {ys:List D} {vs:List V} {us:List Value},DenL X.K N H ys vs→Vals vs us→us.any (ZdH X.K N H x)=ZfD x ys
 | [],_,_,h,r=>by simp only [DenL] at h;subst h;cases r;rfl
 | y::ys,_,_,h,r=>by
  simp only [DenL] at h
  obtain ⟨v,t,e,hv,ht⟩:=h
  subst e
  cases r with
  | cons r1 r2 =>
   rw [List.any_cons,ZkA I hv.p r1,Zio I ht r2]
   rfl
theorem ZkP {pins:List (Addr×Obj)} {σ:St} {H:Hp} {s:Shared} (I:Inv X pins σ H s) {N:Fb} {A:Around} {x:D} {vx:V} {v:Value} (hu:A.units+Zae<cLine) (ox:okD Zae x=true) (hx:DenP X.K N H x vx) (rx:RelV vx v) {ys:List D} {vs:List V} {us:List Value} (h:DenL X.K N H ys vs) (r:Vals vs us) (oy:ys.all (okD Zae)=true) :
  ∀ u∈us,SeqAt.EqAt A s u v (ZdH X.K N H x u):=by
 intro u hu'
 obtain ⟨j,hj⟩:=List.getElem?_of_mem hu'
 have hl:=r.length
 have hj':j<vs.length:=by have:=(List.getElem?_eq_some_iff.mp hj).1;omega
 have hv:=List.getElem?_eq_getElem hj'
 obtain ⟨u',e1,r1⟩:=r.get hv
 rw [hj] at e1;cases e1
 obtain ⟨y,e2,hy⟩:=h.get' hv
 rw [ZkA I hy.p r1]
 exact (Zec I Zae A y x _ _ _ _ hu (List.all_eq_true.mp oy y (List.mem_of_getElem? e2)) ox hy.p hx r1 rx).2.1
theorem ZqC (hu:X.A.units+64<cLine):OpR X (compareOp .In) (Zrc X.K false):=by
 intro pins s σ H x y v u Q I rx ry h
 obtain ⟨N,d1,ys,vs,p,h1,rfl,hq,hd,o1,o2,q⟩:=h
 cases ry
 have hu1:X.A.in1.units+Zae<cLine:=by rw [ZdJ];unfold Zae;omega
 rcases hq with hq | hq
 ·obtain ⟨its,r,pl,hz⟩:=I.list hq
  refine SeqAt.in_listAt (ZdH X.K N H d1) pl.isList (fun w hw=>ZkP I hu1 o1 h1 rx hd r o2 w (by simpa using hw)) ⟨.bl _,H,I,rfl,?_⟩
  rw [show its.toArray.any (ZdH X.K N H d1)=its.any (ZdH X.K N H d1) by simp,Zio I hd r]
  exact q
 ·obtain ⟨its,r,pl,hz⟩:=I.tuple hq
  refine SeqAt.in_tupleAt (ZdH X.K N H d1) pl (fun w hw=>ZkP I hu1 o1 h1 rx hd r o2 w (by simpa using hw)) ⟨.bl _,H,I,rfl,?_⟩
  rw [show its.toArray.any (ZdH X.K N H d1)=its.any (ZdH X.K N H d1) by simp,Zio I hd r]
  exact q
theorem Zth:R2D K (fun x y H Q=>Zrc K false x y H Q∨∃ i j,x=.str i∧y=.str j∧Q (.bl (!(Builtin.Str.occurrences j i 0 j.length 1).isEmpty)) H) (inD false):=by
 intro N H x y d1 d2 d Q nh h1 h2 e q
 unfold inD at e
 split at e
 ·split at e
  ·next ho=>rw [Bool.and_eq_true] at ho;cases e;obtain ⟨a,vs,e1,q1,r1⟩:=h2;exact .inl ⟨N,d1,_,vs,a,h1,e1,.inl q1,r1,ho.1,ho.2,q _ H (Same.refl H) ZbA⟩
  ·cases e
 ·split at e
  ·next ho=>rw [Bool.and_eq_true] at ho;cases e;obtain ⟨a,vs,e1,q1,r1⟩:=h2.tup;exact .inl ⟨N,d1,_,vs,a,h1,e1,.inr q1,r1,ho.1,ho.2,q _ H (Same.refl H) ZbA⟩
  ·cases e
 ·split at e
  ·cases e;exact .inr ⟨_,_,h1.str,h2.str,q _ H (Same.refl H) ZbA⟩
  ·cases e
 ·cases e
@[simp] def Zev (lt:D→D→Option Bool):List D→List D→Option Bool
  | [],[]=>some false
  | [],_::_=>some true
  | _::_,[]=>some false
  | x::xs,y::ys=>if okD Zae x&&okD Zae y then (if eqD x y then Zev lt xs ys else lt x y) else none
@[simp] def ltN:Nat→D→D→Option Bool
  | _,.int i,.int j=>some (decide (i<j))
  | _,.str a,.str b=>some (decide (a.cps.toList<b.cps.toList))
  | n+1,.tup xs,.tup ys=>Zev (ltN n) xs ys
  | _,_,_=>none
@[simp] def ltO (x y:D):Option D:=(ltN 6 x y).map D.bl
def ZqU (K:PySem.W.Frag):R2:=fun x y H Q=>∃ N d1 d2 b,DenP K N H d1 x∧DenP K N H d2 y∧ltN 6 d1 d2=some b∧Q (.bl b) H
theorem ZnF {pins:List (Addr×Obj)} {σ:St} {H:Hp} {s:Shared} (I:Inv X pins σ H s) {N:Fb}:∀ (n:Nat) (A:Around) (x y:D) (vx vy:V) (u v:Value) (b:Bool),A.units+n+Zae<cLine→ltN n x y=some b→DenP X.K N H x vx→DenP X.K N H y vy→RelV vx u→RelV vy v →
  ∀ (prog:Program) (wo:World) (E Q:Value→Shared→Prop),Q (.bool b) s→wpAny (model prog wo) A (richCompare .Lt u v) Q E s:=by
 intro n
 induction n with
 | zero =>
  intro A x y vx vy u v b hu h hx hy rx ry prog wo E Q q
  unfold ltN at h
  split at h
  ·cases h;rw [hx.int] at rx;rw [hy.int] at ry;obtain ⟨t,rfl⟩:=rx;obtain ⟨t',rfl⟩:=ry;exact HT.rcLt_int A s _ _ _ _ prog wo E Q q
  ·cases h;rw [hx.str] at rx;rw [hy.str] at ry;obtain ⟨t,rfl⟩:=rx;obtain ⟨t',rfl⟩:=ry;exact (PyProof.Rows.lt_str q:wpAny (model prog wo) A (compareOp .Lt _ _) Q E s)
  ·next h0=>cases h0
  ·cases h
 | succ n ih =>
  intro A x y vx vy u v b hu h hx hy rx ry prog wo E Q q
  unfold ltN at h
  split at h
  ·cases h;rw [hx.int] at rx;rw [hy.int] at ry;obtain ⟨t,rfl⟩:=rx;obtain ⟨t',rfl⟩:=ry;exact HT.rcLt_int A s _ _ _ _ prog wo E Q q
  ·cases h;rw [hx.str] at rx;rw [hy.str] at ry;obtain ⟨t,rfl⟩:=rx;obtain ⟨t',rfl⟩:=ry;exact (PyProof.Rows.lt_str q:wpAny (model prog wo) A (compareOp .Lt _ _) Q E s)
  ·next m xs ys e0 =>
   cases e0
   obtain ⟨a1,vs1,e1,q1,d1⟩:=hx.tup
   obtain ⟨a2,vs2,e2,q2,d2⟩:=hy.tup
   subst e1 e2
   cases rx
   cases ry
   obtain ⟨its1,r1,p1,_⟩:=I.tuple q1
   obtain ⟨its2,r2,p2,_⟩:=I.tuple q2
   have lists:∀ (xs ys:List D) (vs1 vs2:List V) (us1 us2:List Value),Zev (ltN n) xs ys=some b→DenL X.K N H xs vs1→DenL X.K N H ys vs2→Vals vs1 us1→Vals vs2 us2→ZeJ A.in1 s us1 us2 b:=by
    intro xs
    induction xs with
    | nil =>
     intro ys vs1 vs2 us1 us2 h d1 d2 r1 r2
     simp only [DenL] at d1;subst d1;cases r1
     cases ys with
     | nil=>simp only [DenL] at d2;subst d2;cases r2;cases h;exact .nn
     | cons y ys=>simp only [DenL] at d2;obtain ⟨w,t,e,_,_⟩:=d2;subst e;cases r2;cases h;exact .nc
    | cons x xs ihx =>
     intro ys vs1 vs2 us1 us2 h d1 d2 r1 r2
     simp only [DenL] at d1;obtain ⟨w1,t1,e1,dw1,dt1⟩:=d1;subst e1
     cases r1 with
     | cons rw1 rt1 =>
      cases ys with
      | nil=>simp only [DenL] at d2;subst d2;cases r2;cases h;exact .cn
      | cons y ys =>
       simp only [DenL] at d2;obtain ⟨w2,t2,e2,dw2,dt2⟩:=d2;subst e2
       cases r2 with
       | cons rw2 rt2 =>
        simp only [Zev] at h
        split at h
        ·next ho =>
         rw [Bool.and_eq_true] at ho
         have he:=(Zec I Zae A.in1 x y _ _ _ _ (by rw [ZdJ];omega) ho.1 ho.2 dw1.p dw2.p rw1 rw2).2.1
         split at h
         ·next e=>rw [e] at he;exact .eq he (ihx ys _ _ _ _ h dt1 dt2 rt1 rt2)
         ·next e =>
          rw [Bool.not_eq_true] at e
          rw [e] at he
          exact .ne he fun prog wo E Q q=>ih A.in1 x y _ _ _ _ b (by rw [ZdJ];omega) h dw1.p dw2.p rw1 rw2 prog wo E Q q
        ·cases h
   exact Zn7 p1 p2 (by simpa using lists xs ys _ _ _ _ h d1 d2 r1 r2) (by omega) q
  ·cases h
theorem ZnB (hu:X.A.units+64<cLine):OpR X (compareOp .Lt) (ZqU X.K):=by
 intro pins s σ H x y v u Q I rx ry h
 obtain ⟨N,d1,d2,b,h1,h2,hb,q⟩:=h
 have fin:EP X pins σ Q (.bool b) s:=⟨.bl b,H,I,rfl,q⟩
 exact ZnF I 6 X.A d1 d2 x y v u b (by unfold Zae;omega) hb h1 h2 rx ry X.prog X.w X.xe _ fin
theorem Zpb:R2D K (ZqU K) ltO:=by
 intro N H x y d1 d2 d Q nh h1 h2 e q
 unfold ltO at e
 cases hl:ltN 6 d1 d2 with
 | none=>rw [hl] at e;cases e
 | some b=>rw [hl] at e;cases e;exact ⟨N,d1,d2,b,h1,h2,hl,q _ H (Same.refl H) ZbA⟩
end
end L2
set_option Elab.async false
set_option linter.all false
set_option maxRecDepth 100000
namespace L2
open PySem PySem.Spec PyProof.Rows
section
variable {K:PySem.W.Frag} {N:Fb} {H:Hp}
theorem Paired.one' {α β:Type} {F:α→β→Prop} {x:α} {vs:List β} (h:Paired F [x] vs):∃ v,vs=[v]∧F x v:=by
 cases h with
 | cons r t=>cases t;exact ⟨_,rfl,r⟩
theorem Paired.two' {α β:Type} {F:α→β→Prop} {x y:α} {vs:List β} (h:Paired F [x,y] vs):∃ v w,vs=[v,w]∧F x v∧F y w:=by
 cases h with
 | cons r t =>
  obtain ⟨w,e,q⟩:=Paired.one' t
  subst e
  exact ⟨_,w,rfl,r,q⟩
@[simp] def ZR:List D→Option D
  | [.lst xs]=>some (.int xs.length)
  | [.tup xs]=>some (.int xs.length)
  | [.str x]=>if x.length≤sizeLine then some (.int x.length) else none
  | _=>none
theorem Zac:RcD K (fun xs H Q=>∃ x n,xs=[x]∧ZrB K x H n∧Q (.int n) H) ZR:=by
 intro N H vs ds d Q nh h e q
 unfold ZR at e
 split at e
 ·cases e
  obtain ⟨v,rfl,hv⟩:=Paired.one' h
  obtain ⟨a,ws,e1,q1,r1⟩:=hv
  subst e1
  exact ⟨.ref a,_,rfl,.inl ⟨ws,q1,rfl⟩,by rw [← r1.length];exact q _ H (Same.refl H) ZcC⟩
 ·cases e
  obtain ⟨v,rfl,hv⟩:=Paired.one' h
  obtain ⟨a,ws,e1,q1,r1⟩:=hv.tup
  subst e1
  exact ⟨.ref a,_,rfl,.inr ⟨ws,q1,rfl⟩,by rw [← r1.length];exact q _ H (Same.refl H) ZcC⟩
 ·split at e
  ·next hz =>
   cases e
   obtain ⟨v,rfl,hv⟩:=Paired.one' h
   exact ⟨v,_,rfl,by rw [hv.str];exact ⟨hz,rfl⟩,q _ H (Same.refl H) ZcC⟩
  ·cases e
 ·cases e
@[simp] def ZmG:List D→Option (List D)
  | [.lst xs]=>some xs
  | [.tup xs]=>some xs
  | _=>none
theorem ZpW:RcF K (fun xs H Q=>∃ p ys,xs=[.ref p]∧(SqL K H p ys∨SqT K H p ys)∧∀ l,H l=none→Q (.ref l) (upd H l (.lst ys))) ZmG:=by
 intro N H vs ds xs Q nh h e q
 unfold ZmG at e
 split at e
 ·cases e
  obtain ⟨v,rfl,hv⟩:=Paired.one' h
  obtain ⟨a,ws,e1,q1,r1⟩:=hv
  subst e1
  exact ⟨a,ws,rfl,.inl q1,fun l hl=>q ws l hl r1⟩
 ·cases e
  obtain ⟨v,rfl,hv⟩:=Paired.one' h
  obtain ⟨a,ws,e1,q1,r1⟩:=hv.tup
  subst e1
  exact ⟨a,ws,rfl,.inr q1,fun l hl=>q ws l hl r1⟩
 ·cases e
@[simp] def ZjS:List D→Option D
  | [.lst xs]=>some (.tup xs)
  | [.tup xs]=>some (.tup xs)
  | _=>none
theorem Zkm:RcD K (fun xs H Q=>∃ p ys,xs=[.ref p]∧((SqL K H p ys∧∀ l,H l=none→Q (.ref l) (upd H l (.tup ys)))∨(SqT K H p ys∧Q (.ref p) H))) ZjS:=by
 intro N H vs ds d Q nh h e q
 unfold ZjS at e
 split at e
 ·cases e
  obtain ⟨v,rfl,hv⟩:=Paired.one' h
  obtain ⟨a,ws,e1,q1,r1⟩:=hv
  subst e1
  exact ⟨a,ws,rfl,.inl ⟨q1,fun l hl=>q _ _ (ZaY hl) (Zfp hl r1)⟩⟩
 ·cases e
  obtain ⟨v,rfl,hv⟩:=Paired.one' h
  obtain ⟨a,ws,e1,q1,r1⟩:=hv.tup
  subst e1
  exact ⟨a,ws,rfl,.inr ⟨q1,q _ _ (Same.refl H) (by simp only [Den];exact ⟨a,ws,rfl,q1,r1⟩)⟩⟩
 ·cases e
def Zeu:List D→Option (List Bool)
 | []=>some []
 | .bl b::r=>(Zeu r).map (b::·)
 | _=>none
theorem Zhy:∀ {xs:List D} {bs:List Bool},Zeu xs=some bs→xs=bs.map D.bl
 | [],_,e=>by cases e;rfl
 | .bl b::r,_,e=>by
  simp only [Zeu] at e
  cases h:Zeu r with
  | none=>rw [h] at e;cases e
  | some bs=>rw [h] at e;cases e;rw [Zhy h];rfl
 | .non::_,_,e=>nomatch e
 | .int _::_,_,e=>nomatch e
 | .str _::_,_,e=>nomatch e
 | .ty _::_,_,e=>nomatch e
 | .tup _::_,_,e=>nomatch e
 | .lst _ _::_,_,e=>nomatch e
theorem ZhO:∀ {bs:List Bool} {vs:List V},DenL K N H (bs.map D.bl) vs→vs=bs.map V.bl
 | [],_,h=>by simpa only [List.map_nil,DenL] using h
 | b::bs,_,h=>by
  simp only [List.map_cons,DenL,Den] at h
  obtain ⟨v,r,e,hv,t⟩:=h
  subst e hv
  rw [ZhO t];rfl
@[simp] def ZhB:List D→Option D
  | [.lst xs]=>(Zeu xs).map fun bs=>.bl (bs.all id)
  | _=>none
@[simp] def Zkr:List D→Option D
  | [.lst xs]=>(Zeu xs).map fun bs=>.bl (bs.any id)
  | _=>none
theorem Zgo:RcD K (fun xs H Q=>∃ (a:Addr) (bs:List Bool),xs=[.ref a]∧SqL K H a (bs.map V.bl)∧Q (.bl (bs.all id)) H) ZhB:=by
 intro N H vs ds d Q nh h e q
 unfold ZhB at e
 split at e
 ·next xs =>
  cases hb:Zeu xs with
  | none=>rw [hb] at e;cases e
  | some bs =>
   rw [hb] at e;cases e
   obtain ⟨v,rfl,hv⟩:=Paired.one' h
   obtain ⟨a,ws,e1,q1,r1⟩:=hv
   subst e1
   rw [Zhy hb] at r1
   rw [ZhO r1] at q1
   exact ⟨a,bs,rfl,q1,q _ H (Same.refl H) ZbA⟩
 ·cases e
theorem ZqG:RcD K (fun xs H Q=>∃ (a:Addr) (bs:List Bool),xs=[.ref a]∧SqL K H a (bs.map V.bl)∧Q (.bl (bs.any id)) H) Zkr:=by
 intro N H vs ds d Q nh h e q
 unfold Zkr at e
 split at e
 ·next xs =>
  cases hb:Zeu xs with
  | none=>rw [hb] at e;cases e
  | some bs =>
   rw [hb] at e;cases e
   obtain ⟨v,rfl,hv⟩:=Paired.one' h
   obtain ⟨a,ws,e1,q1,r1⟩:=hv
   subst e1
   rw [Zhy hb] at r1
   rw [ZhO r1] at q1
   exact ⟨a,bs,rfl,q1,q _ H (Same.refl H) ZbA⟩
 ·cases e
@[simp] def Zh3:List D→Option D
  | [.int i,.int j]=>some (.int (if j > i then j else i))
  | _=>none
@[simp] def ZhX:List D→Option D
  | [.int i,.int j]=>some (.int (if j<i then j else i))
  | _=>none
theorem ZlI:RcD K (fun xs H Q=>∃ i j,xs=[.int i,.int j]∧Q (.int (if j > i then j else i)) H) Zh3:=by
 intro N H vs ds d Q nh h e q
 unfold Zh3 at e
 split at e
 ·cases e
  obtain ⟨v,w,rfl,hv,hw⟩:=Paired.two' h
  exact ⟨_,_,by rw [hv.int,hw.int],q _ H (Same.refl H) ZcC⟩
 ·cases e
theorem Zlu:RcD K (fun xs H Q=>∃ i j,xs=[.int i,.int j]∧Q (.int (if j<i then j else i)) H) ZhX:=by
 intro N H vs ds d Q nh h e q
 unfold ZhX at e
 split at e
 ·cases e
  obtain ⟨v,w,rfl,hv,hw⟩:=Paired.two' h
  exact ⟨_,_,by rw [hv.int,hw.int],q _ H (Same.refl H) ZcC⟩
 ·cases e
@[simp] def ZvV:List D→Option D
  | [.int i]=>some (.int (if i<0 then -i else i))
  | _=>none
@[simp] def Zik:List D→Option D
  | [.int i]=>if i.natAbs.log2<1920 then some (.str (toString i)) else none
  | _=>none
theorem Zqa:RcD K (fun xs H Q=>∃ i,xs=[.int i]∧i.natAbs.log2<1920∧Q (.str (toString i)) H) Zik:=by
 intro N H vs ds d Q nh h e q
 unfold Zik at e
 split at e
 ·split at e
  ·next hz =>
   cases e
   obtain ⟨v,rfl,hv⟩:=Paired.one' h
   exact ⟨_,by rw [hv.int],hz,q _ H (Same.refl H) Ze7⟩
  ·cases e
 ·cases e
@[simp] def ZvS:List D→Option D
  | [.int i]=>some (.int i)
  | [.bl k]=>some (.int (if k then 1 else 0))
  | _=>none
def ZgE:List D→Option (List Int)
 | []=>some []
 | .int b::r=>(ZgE r).map (b::·)
 | _=>none
theorem ZiZ:∀ (ns:List Int),ZgE (ns.map D.int)=some ns
 | []=>rfl
 | n::ns=>by simp only [List.map_cons,ZgE,ZiZ ns];rfl
end
section
variable {X:Cx}
end
def Zum:List Int→Option Int
 | []=>none
 | x::xs=>some (xs.foldl (fun m y=>if y<m then y else m) x)
def Zue:List Int→Option Int
 | []=>none
 | x::xs=>some (xs.foldl (fun m y=>if y > m then y else m) x)
section
variable {K:PySem.W.Frag}
@[simp] def ZvH:List D→Option D
  | [.lst xs]=>(ZgE xs).map fun ns=>.int ns.sum
  | _=>none
@[simp] def ZvE:List D→Option D
  | [.lst xs]=>((ZgE xs).bind Zum).map D.int
  | _=>none
@[simp] def ZvF:List D→Option D
  | [.lst xs]=>((ZgE xs).bind Zue).map D.int
  | _=>none
@[simp] def tyD:D→Option String
  | .non=>some "NoneType"
  | .bl _=>some "bool"
  | .int _=>some "int"
  | .str _=>some "str"
  | .tup _=>some "tuple"
  | .lst _=>some "list"
  | .lst _ true=>none
  | .ty _=>none
def ZiL (t n:String):Bool:=t==n||(t=="bool"&&n=="int")
end
def ZbG:List String:=["NoneType","bool","int","str","tuple","list"]
theorem Zlx (K:PySem.W.Frag):∀ t∈ZbG,∀ n∈ZbG,PySem.W.kitOne K (.type t) (.type n)=some (ZiL t n):=by
 intro t ht n hn
 simp only [ZbG,List.mem_cons,List.not_mem_nil,or_false] at ht hn
 rcases ht with rfl | rfl | rfl | rfl | rfl | rfl<;>rcases hn with rfl | rfl | rfl | rfl | rfl | rfl<;>with_unfolding_all rfl
theorem Zlo (K:PySem.W.Frag) {t:String} (ht:t∈ZbG):∀ (ns:List String),(∀ n∈ns,n∈ZbG)→PySem.W.kitAny K (.type t) (ns.map Value.type)=some (ns.any fun n=>ZiL t n)
 | [],_=>rfl
 | n::ns,h=>by
  have h1:=Zlx K t ht n (h n List.mem_cons_self)
  have h2:=Zlo K ht ns fun m hm=>h m (List.mem_cons_of_mem _ hm)
  simp only [List.map_cons,PySem.W.kitAny,h1,h2,List.any_cons]
  cases ZiL t n<;>rfl
theorem ZlJ {d:D} {t:String} (h:tyD d=some t):t∈ZbG:=by
 cases d with
 | lst xs fl=>cases fl<;>simp [tyD] at h;subst h;simp [ZbG]
 | _=>simp [tyD] at h<;>subst h<;>simp [ZbG]
section
variable {X:Cx} {K:PySem.W.Frag}
theorem ZsY {pins:List (Addr×Obj)} {σ:St} {H:Hp} {s:Shared} (I:Inv X pins σ H s) {N:Fb} {d:D} {x:V} {u:Value} {t:String} (hx:DenP X.K N H d x) (rx:RelV x u) (ht:tyD d=some t) :
  ∃ HP:Heap→Prop,PySem.W.KitX X.K u (.type t) HP∧HP s.heap∧u≠.builtin "__main__.__loader__#opaque":=by
 cases d with
 | non=>cases ht;rw [hx.non] at rx;cases rx;exact ⟨_,PySem.W.kitx_none,trivial,fun z=>nomatch z⟩
 | bl b=>cases ht;rw [hx.bl] at rx;cases rx;exact ⟨_,PySem.W.kitx_bool,trivial,fun z=>nomatch z⟩
 | int b=>cases ht;rw [hx.int] at rx;obtain ⟨t,rfl⟩:=rx;exact ⟨_,PySem.W.kitx_int,trivial,fun z=>nomatch z⟩
 | str b=>cases ht;rw [hx.str] at rx;obtain ⟨t,rfl⟩:=rx;exact ⟨_,PySem.W.kitx_str,trivial,fun z=>nomatch z⟩
 | ty n=>cases ht
 | tup xs =>
  cases ht
  obtain ⟨a,vs,e,q,r⟩:=hx.tup
  subst e;cases rx
  obtain ⟨its,_,⟨o,h1,h2,_⟩,_⟩:=I.tuple q
  exact ⟨_,PySem.W.kitx_tuple,⟨o,h1,h2⟩,fun z=>nomatch z⟩
 | lst xs fl =>
  cases fl with
  | true=>cases ht
  | false =>
  cases ht
  obtain ⟨a,vs,e,q,r⟩:=hx
  subst e;cases rx
  obtain ⟨its,_,⟨o,n,h1,h2,_⟩,_⟩:=I.list q
  exact ⟨_,PySem.W.kitx_list,⟨o,h1,h2⟩,fun z=>nomatch z⟩
@[simp] def tysOf:D→Option (List String)
  | .ty n=>some [n]
  | .tup xs=>tysL xs
  | _=>none
where tysL:List D→Option (List String)
 | []=>some []
 | .ty n::r=>(tysL r).map (n::·)
 | _=>none
theorem ZkH:∀ {xs:List D} {ns:List String},tysOf.tysL xs=some ns→xs=ns.map D.ty
 | [],_,e=>by cases e;rfl
 | .ty b::r,_,e=>by
  simp only [tysOf.tysL] at e
  cases h:tysOf.tysL r with
  | none=>rw [h] at e;cases e
  | some bs=>rw [h] at e;cases e;rw [ZkH h];rfl
 | .non::_,_,e=>nomatch e
 | .bl _::_,_,e=>nomatch e
 | .int _::_,_,e=>nomatch e
 | .str _::_,_,e=>nomatch e
 | .tup _::_,_,e=>nomatch e
 | .lst _ _::_,_,e=>nomatch e
@[simp] def isD:List D→Option D
  | [x,c]=>(tysOf c).bind fun ns=>if (∀ n∈ns,n∈ZbG) then (tyD x).map fun t=>.bl (ns.any fun n=>ZiL t n) else none
  | _=>none
def ZqF (K:PySem.W.Frag):List V→Hp→VK→Prop:=fun vs H Q=>∃ N d c x y ns t,vs=[x,y]∧DenP K N H d x∧DenP K N H c y∧tysOf c=some ns∧(∀ n∈ns,n∈ZbG)∧tyD d=some t∧Q (.bl (ns.any fun n=>ZiL t n)) H
theorem Zkt {N:Fb} {H:Hp}:∀ {ns:List String} {vs:List V},DenL K N H (ns.map D.ty) vs→vs=ns.map V.ty
 | [],_,h=>by simpa only [List.map_nil,DenL] using h
 | b::bs,_,h=>by
  simp only [List.map_cons,DenL,Den] at h
  obtain ⟨v,r,e,hv,t⟩:=h
  subst e hv
  rw [Zkt t];rfl
theorem ZkF:∀ {ns:List String} {us:List Value},Vals (ns.map V.ty) us→us=ns.map Value.type
 | [],_,r=>by cases r;rfl
 | n::ns,_,r=>by
  cases r with
  | cons r1 r2=>cases r1;rw [ZkF r2];rfl
theorem ZaI:CallR X (.builtin "isinstance") (ZqF X.K):=by
 intro pins s σ H xs us Q I r h
 obtain ⟨N,d,c,x,y,ns,t,rfl,hx,hy,hns,hin,ht,q⟩:=h
 obtain ⟨u,w',rfl,rx,ry⟩:=ZjH r
 obtain ⟨HP,Z,p,hne⟩:=ZsY I hx rx ht
 cases c with
 | ty n =>
  cases hns
  rw [hy.ty] at ry;cases ry
  refine PySem.W.kia_one Z I.kIn p (Zlx X.K t (ZlJ ht) n (hin n (by simp))) hne fun tk=>⟨.bl _,H,I.tok tk,rfl,?_⟩
  simpa using q
 | tup xs =>
  have e:=ZkH hns
  subst e
  obtain ⟨a,vs,e,sq,dl⟩:=hy.tup
  subst e;cases ry
  obtain ⟨its,rv,⟨⟨cls,dd,data,sl⟩,h1,h2,n,h3⟩,_⟩:=I.tuple sq
  simp only at h2 h3
  subst h2 h3
  have e2:=Zkt dl
  subst e2
  have e3:=ZkF rv
  subst e3
  exact PySem.W.kia_tup Z I.kIn p h1 (Zlo X.K (ZlJ ht) ns hin) hne fun tk=>⟨.bl _,H,I.tok tk,rfl,q⟩
 | non=>cases hns
 | bl _=>cases hns
 | int _=>cases hns
 | str _=>cases hns
 | lst _=>cases hns
theorem ZcS:RcD K (ZqF K) isD:=by
 intro N H vs ds d Q nh h e q
 unfold isD at e
 split at e
 ·next x c =>
  cases hc:tysOf c with
  | none=>rw [hc] at e;cases e
  | some ns =>
   rw [hc] at e
   simp only [Option.bind] at e
   split at e
   ·next hin =>
    cases ht:tyD x with
    | none=>rw [ht] at e;cases e
    | some t =>
     rw [ht] at e;cases e
     obtain ⟨v,w,rfl,hv,hw⟩:=Paired.two' h
     exact ⟨N,x,c,v,w,ns,t,rfl,hv,hw,hc,hin,ht,q _ H (Same.refl H) ZbA⟩
   ·cases e
 ·cases e
theorem Zsd {M:Fb} {H0:Hp} {x:Str} {n:String} {pos:Pos} (hg:Gl X x) (hm:X.mg x=none) (hv:bootBuiltins x=some (.type n)) (hn:x≠"__name__":=by decide) (hd:(x==("__debug__":Str))=false:=by decide):PE X (.Name x pos) (tD K M H0 fun _=>some (.ty n)) :=
 ZiG (ZlG hg hm hv (v:=.ty n) rfl hn hd) fun _ _=>by simp only [Den]
theorem ZaK {M:Fb} {H0:Hp} {x:Str} {n:String} {pos:Pos} (hg:Gl X x) (hm:X.mg x=none) (hv:bootBuiltins x=some (.type n)) (hn:x≠"__name__":=by decide) (hd:(x==("__debug__":Str))=false:=by decide):JE X (.Name x pos) (tD K M H0 fun _=>some (.ty n)):=⟨Zsd hg hm hv hn hd⟩
theorem Zqg {M:Fb} {H0:Hp} {x:Str} {v:V} {d:D} {pos:Pos} (hg:Gl X x) (h:∃ u,X.mg x=some u∧RelV v u) (hd:∀ N H,Den K N H d v) (hdb:(x==("__debug__":Str))=false:=by decide):PE X (.Name x pos) (tD K M H0 fun _=>some d):=by
 obtain ⟨u,hm,r⟩:=h
 exact ZiG (Zb2 hg hm r hdb) hd
theorem Zdc {M:Fb} {H0:Hp} {x:Str} {v:V} {d:D} {pos:Pos} (hg:Gl X x) (h:∃ u,X.mg x=some u∧RelV v u) (hd:∀ N H,Den K N H d v) (hdb:(x==("__debug__":Str))=false:=by decide):JE X (.Name x pos) (tD K M H0 fun _=>some d):=⟨Zqg hg h hd hdb⟩
end
end L2
set_option Elab.async false
set_option linter.all false
set_option maxRecDepth 100000
namespace L2
open PySem PySem.Spec PyProof.Rows
section
variable {X:Cx} {K:PySem.W.Frag} {M:Fb} {H0:Hp} {a b c e tg iter:Expr} {es:List Expr} {f g h:VE→Option D} {fa:VE→Option (List Sl)} {pos:Pos}
theorem vv (i:Nat) {x:Str} (hN:X.N[i]?=some x:=by rfl) (hv:Vis X.env.scope x:=by first | exact Or.inl rfl | exact Or.inr (Or.inl rfl) | exact Or.inr (Or.inr rfl)) (hd:(x==("__debug__":Str))=false:=by decide) (hcd:(x==("__classdict__":Str))=false:=by decide) :
  PE X (.Name x pos) (tD K M H0 fun ρ=>rdV ρ i):=ZrW hN hv hd hcd
theorem Za1 (i:Nat) {x:Str} (hN:X.N[i]?=some x:=by rfl) (hv:Vis X.env.scope x:=by first | exact Or.inl rfl | exact Or.inr (Or.inl rfl) | exact Or.inr (Or.inr rfl)) (hd:(x==("__debug__":Str))=false:=by decide) (hcd:(x==("__classdict__":Str))=false:=by decide):JE X (.Name x pos) (tD K M H0 fun ρ=>rdV ρ i):=⟨vv i hN hv hd hcd⟩
theorem vp (i:Nat) {x:Str} (hN:X.N[i]?=some x:=by rfl) (hv:Vis X.env.scope x:=by first | exact Or.inl rfl | exact Or.inr (Or.inl rfl) | exact Or.inr (Or.inr rfl)) (hd:(x==("__debug__":Str))=false:=by decide) (hcd:(x==("__classdict__":Str))=false:=by decide) :
  PE X (.Name x pos) (tP K M H0 fun ρ=>rdP ρ i):=ZsE hN hv hd hcd
theorem Zl (i:Nat) {x:Str} (hN:X.N[i]?=some x:=by rfl) (hv:Vis X.env.scope x:=by first | exact Or.inl rfl | exact Or.inr (Or.inl rfl) | exact Or.inr (Or.inr rfl)) (hd:(x==("__debug__":Str))=false:=by decide) (hcd:(x==("__classdict__":Str))=false:=by decide):JE X (.Name x pos) (tP K M H0 fun ρ=>rdP ρ i):=⟨vp i hN hv hd hcd⟩
theorem vq (i:Nat) {x:Str} (hN:X.N[i]?=some x:=by rfl) (hv:Vis X.env.scope x:=by first | exact Or.inl rfl | exact Or.inr (Or.inl rfl) | exact Or.inr (Or.inr rfl)) (hd:(x==("__debug__":Str))=false:=by decide) (hcd:(x==("__classdict__":Str))=false:=by decide) :
  PE X (.Name x pos) (tQ K M H0 fun ρ=>rdQ ρ i):=Zst hN hv hd hcd
theorem ZcM (i:Nat) {x:Str} (hN:X.N[i]?=some x:=by rfl) (hv:Vis X.env.scope x:=by first | exact Or.inl rfl | exact Or.inr (Or.inl rfl) | exact Or.inr (Or.inr rfl)) (hd:(x==("__debug__":Str))=false:=by decide) (hcd:(x==("__classdict__":Str))=false:=by decide):JE X (.Name x pos) (tQ K M H0 fun ρ=>rdQ ρ i):=⟨vq i hN hv hd hcd⟩
theorem va (i:Nat) {x:Str} (hN:X.N[i]?=some x:=by rfl) (hv:Vis X.env.scope x:=by first | exact Or.inl rfl | exact Or.inr (Or.inl rfl) | exact Or.inr (Or.inr rfl)) (hd:(x==("__debug__":Str))=false:=by decide) (hcd:(x==("__classdict__":Str))=false:=by decide) :
  PE X (.Name x pos) (tS1 K M H0 fun ρ=>rdA ρ i):=ZqX hN hv hd hcd
theorem Zn (i:Nat) {x:Str} (hN:X.N[i]?=some x:=by rfl) (hv:Vis X.env.scope x:=by first | exact Or.inl rfl | exact Or.inr (Or.inl rfl) | exact Or.inr (Or.inr rfl)) (hd:(x==("__debug__":Str))=false:=by decide) (hcd:(x==("__classdict__":Str))=false:=by decide):JE X (.Name x pos) (tS1 K M H0 fun ρ=>rdA ρ i):=⟨va i hN hv hd hcd⟩
theorem Zup (i:Nat) {x:Str} {vpos:Pos} (hN:X.N[i]?=some x:=by rfl) (hv:Vis X.env.scope x:=by first | exact Or.inl rfl | exact Or.inr (Or.inl rfl) | exact Or.inr (Or.inr rfl)) (hd:(x==("__debug__":Str))=false:=by decide) (hcd:(x==("__classdict__":Str))=false:=by decide) :
  PS X (.Return (some (.Name x vpos)) pos) (tS K M H0 fun ρ=>Zbs (rdO ρ i)):=Zqp hN hv hd hcd
theorem Zh7 (i:Nat) {x:Str} {vpos:Pos} (hN:X.N[i]?=some x:=by rfl) (hv:Vis X.env.scope x:=by first | exact Or.inl rfl | exact Or.inr (Or.inl rfl) | exact Or.inr (Or.inr rfl)) (hd:(x==("__debug__":Str))=false:=by decide) (hcd:(x==("__classdict__":Str))=false:=by decide):JS X (.Return (some (.Name x vpos)) pos) (tS K M H0 fun ρ=>Zbs (rdO ρ i)):=⟨Zup i hN hv hd hcd⟩
theorem ZtC (hu:X.A.units+64<cLine) (ha:PE X a (tP X.K M H0 f)) (hb:PE X b (tP X.K M H0 g)):PE X (.Compare a [.Gt] [b] pos) (tD X.K M H0 (Ze gtD f g)):=Znx ZoS (Zd9 _) ha hb (Zcy _ (by decide) (by decide))
theorem ZpX (hu:X.A.units+64<cLine) (ha:JE X a (tP X.K M H0 f)) (hb:JE X b (tP X.K M H0 g)):JE X (.Compare a [.Gt] [b] pos) (tD X.K M H0 (Ze gtD f g)):=⟨ZtC hu ha.h hb.h⟩
theorem ZtG (hu:X.A.units+64<cLine) (ha:PE X a (tP X.K M H0 f)) (hb:PE X b (tP X.K M H0 g)) (hm:behindInMarks .In b=false:=by with_unfolding_all rfl):PE X (.Compare a [.In] [b] pos) (tD X.K M H0 (Ze (inD false) f g)):=Znx ((ZqC hu).or Znn) Zth ha hb hm
theorem Zea (hu:X.A.units+64<cLine) (ha:JE X a (tP X.K M H0 f)) (hb:JE X b (tP X.K M H0 g)) (hm:behindInMarks .In b=false:=by with_unfolding_all rfl):JE X (.Compare a [.In] [b] pos) (tD X.K M H0 (Ze (inD false) f g)):=⟨ZtG hu ha.h hb.h hm⟩
theorem Zsv (hu:X.A.units+64<cLine) (ha:PE X a (tP X.K M H0 f)) (hb:PE X b (tP X.K M H0 g)):PT X (.Compare a [.Eq] [b] pos) (tB' X.K M H0 fun ρ=>asB (Ze eqO f g ρ)):=Zfh (Zrs hu) Zs8 ha hb (Zcy _ (by decide) (by decide))
theorem ZaA (hu:X.A.units+64<cLine) (ha:JE X a (tP X.K M H0 f)) (hb:JE X b (tP X.K M H0 g)):JT X (.Compare a [.Eq] [b] pos) (tB' X.K M H0 fun ρ=>asB (Ze eqO f g ρ)):=⟨Zsv hu ha.h hb.h⟩
theorem Zr6 (hu:X.A.units+64<cLine) (ha:PE X a (tP X.K M H0 f)) (hb:PE X b (tP X.K M H0 g)):PT X (.Compare a [.NotEq] [b] pos) (tB' X.K M H0 fun ρ=>asB (Ze neO f g ρ)):=Zfh (Znp hu) ZoT ha hb (Zcy _ (by decide) (by decide))
theorem Zdu (hu:X.A.units+64<cLine) (ha:JE X a (tP X.K M H0 f)) (hb:JE X b (tP X.K M H0 g)):JT X (.Compare a [.NotEq] [b] pos) (tB' X.K M H0 fun ρ=>asB (Ze neO f g ρ)):=⟨Zr6 hu ha.h hb.h⟩
theorem ZsV (hu:X.A.units+64<cLine) (ha:PE X a (tP X.K M H0 f)) (hb:PE X b (tP X.K M H0 g)):PT X (.Compare a [.Lt] [b] pos) (tB' X.K M H0 fun ρ=>asB (Ze ltO f g ρ)):=Zfh (ZnB hu) Zpb ha hb (Zcy _ (by decide) (by decide))
theorem Zes (hu:X.A.units+64<cLine) (ha:JE X a (tP X.K M H0 f)) (hb:JE X b (tP X.K M H0 g)):JT X (.Compare a [.Lt] [b] pos) (tB' X.K M H0 fun ρ=>asB (Ze ltO f g ρ)):=⟨ZsV hu ha.h hb.h⟩
theorem ZrP (hu:X.A.units+64<cLine) (ha:PE X a (tP X.K M H0 f)) (hb:PE X b (tP X.K M H0 g)):PT X (.Compare a [.Gt] [b] pos) (tB' X.K M H0 fun ρ=>asB (Ze gtD f g ρ)):=Zfh ZoS (Zd9 _) ha hb (Zcy _ (by decide) (by decide))
theorem ZfF (hu:X.A.units+64<cLine) (ha:JE X a (tP X.K M H0 f)) (hb:JE X b (tP X.K M H0 g)):JT X (.Compare a [.Gt] [b] pos) (tB' X.K M H0 fun ρ=>asB (Ze gtD f g ρ)):=⟨ZrP hu ha.h hb.h⟩
@[simp] def ZaP (F F':D→D→Option D) (f g h:VE→Option D):VE→Option D:=fun ρ=>(f ρ).bind fun x=>(g ρ).bind fun y=>match F x y with
  | some (.bl true)=>(h ρ).bind fun z=>F' y z
  | some (.bl false)=>some (.bl false)
  | _=>none
theorem Zkx {r r':R2} {F F':D→D→Option D} (hr:R2D K r F) (hr':R2D K r' F') {σ:St} {H:Hp} {Q:VK} (q:tD K M H0 (ZaP F F' f g h) σ H Q):Zj8 r r' (tP K M H0 f) (tP K M H0 g) (tP K M H0 h) σ H Q:=by
 obtain ⟨ρ,d,R,e,q⟩:=q
 unfold ZaP at e
 cases hf:f ρ with
 | none=>rw [hf] at e;cases e
 | some x =>
  cases hg:g ρ with
  | none=>rw [hf,hg] at e;cases e
  | some y =>
   rw [hf,hg] at e
   simp only [Option.bind] at e
   refine ⟨ρ,x,R,hf,fun v H1 s1 h1=>⟨ρ,y,R.st s1,hg,fun u H2 s2 h2=>?_⟩⟩
   have R2:=(R.st s1).st s2
   split at e
   ·next hF =>
    cases hh:h ρ with
    | none=>rw [hh] at e;cases e
    | some z =>
     rw [hh] at e
     refine hr _ H2 v u x y _ _ R2.nh (h1.same s2) h2 hF fun w H3 s3 h3=>⟨true,by simpa only [Den] using h3,Zd0 ⟨ρ,z,R2.st s3,hh,fun w' H4 s4 h4=>?_⟩⟩
     exact hr' _ H4 u w' y z d Q (((R2.st s3).st s4)).nh ((h2.same s3).same s4) h4 e fun w2 H5 s5 h5=>q w2 H5 ((((s1.trans s2).trans s3).trans s4).trans s5) h5
   ·next hF =>
    cases e
    exact hr _ H2 v u x y _ _ R2.nh (h1.same s2) h2 hF fun w H3 s3 h3=>⟨false,by simpa only [Den] using h3,Zd4 (q _ H3 ((s1.trans s2).trans s3) ZbA)⟩
   ·cases e
theorem Zop {op op':CmpOp} {r r':R2} {F F':D→D→Option D} (ho:OpR X (compareOp op) r) (ho':OpR X (compareOp op') r') (hr:R2D K r F) (hr':R2D K r' F') (ha:PE X a (tP K M H0 f)) (hb:PE X b (tP K M H0 g)) (hc:PE X c (tP K M H0 h))
  (hm:lastMarks [op,op'] [b,c]=false:=by with_unfolding_all rfl):PE X (.Compare a [op,op'] [b,c] pos) (tD K M H0 (ZaP F F' f g h)):=(ZnS ho ho' ha hb hc hm).mono fun _ _ _ q=>Zkx hr hr' q
theorem Zh8 {op op':CmpOp} {r r':R2} {F F':D→D→Option D} (ho:OpR X (compareOp op) r) (ho':OpR X (compareOp op') r') (hr:R2D K r F) (hr':R2D K r' F') (ha:JE X a (tP K M H0 f)) (hb:JE X b (tP K M H0 g)) (hc:JE X c (tP K M H0 h)) (hm:lastMarks [op,op'] [b,c]=false:=by with_unfolding_all rfl):JE X (.Compare a [op,op'] [b,c] pos) (tD K M H0 (ZaP F F' f g h)):=⟨Zop ho ho' hr hr' ha.h hb.h hc.h hm⟩
theorem ZnD {op op':CmpOp} {r r':R2} {F F':D→D→Option D} (ho:OpR X (compareOp op) r) (ho':OpR X (compareOp op') r') (hr:R2D K r F) (hr':R2D K r' F') (ha:PE X a (tP K M H0 f)) (hb:PE X b (tP K M H0 g)) (hc:PE X c (tP K M H0 h))
  (hm:lastMarks [op,op'] [b,c]=false:=by with_unfolding_all rfl):PT X (.Compare a [op,op'] [b,c] pos) (tB' K M H0 fun ρ=>asB (ZaP F F' f g h ρ)):=(ZoF ho ho' ha hb hc hm).mono fun _ _ _ q=>Zll (fun _ _ _ z=>Zkx hr hr' z) q
theorem Zhm {op op':CmpOp} {r r':R2} {F F':D→D→Option D} (ho:OpR X (compareOp op) r) (ho':OpR X (compareOp op') r') (hr:R2D K r F) (hr':R2D K r' F') (ha:JE X a (tP K M H0 f)) (hb:JE X b (tP K M H0 g)) (hc:JE X c (tP K M H0 h)) (hm:lastMarks [op,op'] [b,c]=false:=by with_unfolding_all rfl):JT X (.Compare a [op,op'] [b,c] pos) (tB' K M H0 fun ρ=>asB (ZaP F F' f g h ρ)):=⟨ZnD ho ho' hr hr' ha.h hb.h hc.h hm⟩
@[simp] def ZQ:Option D→Option Bool
  | some .non=>some false
  | some (.bl b)=>some b
  | some (.int i)=>some (i != 0)
  | some (.str y)=>if y.length≤sizeLine then some ((y.length:Int) != 0) else none
  | some (.lst xs)=>some (!xs.isEmpty)
  | some (.tup xs)=>some (!xs.isEmpty)
  | _=>none
theorem DenL.isEmpty {N:Fb} {H:Hp} {xs:List D} {vs:List V} (h:DenL K N H xs vs):vs.isEmpty=xs.isEmpty:=by
 cases xs with
 | nil=>simp only [DenL] at h;subst h;rfl
 | cons x xs=>simp only [DenL] at h;obtain ⟨_,_,e,_⟩:=h;subst e;rfl
theorem Zr2 (ha:PE X a (tP X.K M H0 f)) (he:∀ whole,isTrue a X.env whole=(do let v ← whole;standAt a.pos;holding [v] (truthy v)):=by intro _;rfl):PT X a (tB' X.K M H0 fun ρ=>ZQ (f ρ)) :=
 (ZoB ha he).mono fun σ H Q ⟨ρ,k,R,e,q⟩=>by
  try dsimp only at e q
  unfold ZQ at e
  split at e
  ·next hf=>cases e;exact ⟨ρ,_,R,hf,fun v H' s hv=>⟨_,by rw [hv.non];rfl,q H' s⟩⟩
  ·next hf=>cases e;exact ⟨ρ,_,R,hf,fun v H' s hv=>⟨_,by rw [hv.bl];rfl,q H' s⟩⟩
  ·next hf=>cases e;exact ⟨ρ,_,R,hf,fun v H' s hv=>⟨_,by rw [hv.int];rfl,q H' s⟩⟩
  ·next hf =>
   split at e
   ·next hz=>cases e;exact ⟨ρ,_,R,hf,fun v H' s hv=>⟨_,by rw [hv.str];exact ⟨hz,rfl⟩,q H' s⟩⟩
   ·cases e
  ·next hf =>
   cases e
   refine ⟨ρ,_,R,hf,fun v H' s hv=>⟨_,?_,q H' s⟩⟩
   obtain ⟨p,vs,e1,q1,r1⟩:=hv
   subst e1
   exact .inl ⟨vs,q1,by rw [r1.isEmpty]⟩
  ·next hf =>
   cases e
   refine ⟨ρ,_,R,hf,fun v H' s hv=>⟨_,?_,q H' s⟩⟩
   obtain ⟨p,vs,e1,q1,r1⟩:=hv.tup
   subst e1
   exact .inr (.inl ⟨vs,q1,by rw [r1.isEmpty]⟩)
  ·cases e
theorem ZO (ha:JE X a (tP X.K M H0 f)) (he:∀ whole,isTrue a X.env whole=(do let v ← whole;standAt a.pos;holding [v] (truthy v)):=by intro _;rfl):JT X a (tB' X.K M H0 fun ρ=>ZQ (f ρ)):=⟨Zr2 ha.h he⟩
@[simp] def ZP:D→Option (List D)
  | .lst xs=>some xs
  | .tup xs=>some xs
  | .str x=>some (x.cps.toList.map fun c=>D.str ⟨#[c]⟩)
  | _=>none
theorem Zr3 {l:Expr} (hl:PE X l (tQ X.K M H0 f)):PI X tg l (tI X.K M H0 fun ρ=>(f ρ).bind ZP):=fun pins s σ H R' I ⟨ρ,ds,R,e,q⟩=>by
 try dsimp only at e
 cases hf:f ρ with
 | none=>rw [hf] at e;cases e
 | some d =>
  rw [hf] at e
  cases d with
  | lst xs fl =>
   cases fl with
   | true=>cases e
   | false=>exact Zpn hl pins s σ H R' I ⟨ρ,ds,R,by dsimp only;rw [hf];exact e,q⟩
  | tup xs=>exact Zq4 hl pins s σ H R' I ⟨ρ,ds,R,by dsimp only;rw [hf];exact e,q⟩
  | str x=>exact Zrt hl pins s σ H R' I ⟨ρ,ds,R,by dsimp only;rw [hf];exact e,q⟩
  | _=>cases e
theorem Zad {l:Expr} (hl:JE X l (tQ X.K M H0 f)):JI X tg l (tI X.K M H0 fun ρ=>(f ρ).bind ZP):=⟨Zr3 hl.h⟩
@[simp] def ZvJ (i:Nat) (o:Option (List D)) (ρ:VE):Res:=match rdO ρ i,o with
  | some xs,some ys=>if xs.length+ys.length≤sizeLine then .next (ρ.set i (.own (xs++ys))) else .fail
  | _,_=>.fail
@[simp] def ZvK (i:Nat) (ρ:VE):Res:=match rdO ρ i with
  | some xs=>.next (ρ.set i (.own xs.reverse))
  | _=>.fail
@[simp] def ZvR (i j:Nat) (ρ:VE):Res:=match rdO ρ j with
  | some xs=>.next ((ρ.set j .no).set i (.own xs))
  | _=>.fail
@[simp] def ZvT (i j:Nat) (ρ:VE):Res:=match rdG ρ j with
  | some xs=>.next ((ρ.set j .no).set i (.own xs true))
  | _=>.fail
end
end L2
namespace L2
theorem PSs.conv {X:Cx} {K:PySem.W.Frag} {M:Fb} {H0:Hp} {b:List PySem.Stmt} {g g':VE→Res} (h:PSs X b (tS K M H0 g)) (e:g=g'):PSs X b (tS K M H0 g'):=e ▸ h
theorem ZY {X:Cx} {K:PySem.W.Frag} {M:Fb} {H0:Hp} {b:List PySem.Stmt} {g g':VE→Res} (h:JB X b (tS K M H0 g)) (e:g=g'):JB X b (tS K M H0 g'):=⟨PSs.conv h.h e⟩
end L2
namespace L2
theorem Zdq {X:Cx} {e:PySem.Expr} {t:TT} (h:JW X e t):JT X e t:=⟨h.h.pt⟩
end L2
set_option Elab.async false
set_option linter.all false
set_option maxRecDepth 100000
namespace L2
open PySem PySem.Spec PyProof.Rows
def Zq0 (ns:List Int):List Int:=ns.mergeSort fun a b=>decide (a≤b)
section
variable {X:Cx} {K:PySem.W.Frag}
def Zo3:List D→Option (List D)
 | [.lst xs]=>(ZgE xs).bind fun ns=>if ns.length<64 then some ((Zq0 ns).map D.int) else none
 | _=>none
def ZvO (i:Nat) (oi ov:Option D) (ρ:VE):Res:=match rdO ρ i,oi,ov with
 | some xs,some (.int k),some d=>match ixN xs.length k with
  | some j=>.next (ρ.set i (.own (xs.set j d)))
  | none=>.fail
 | _,_,_=>.fail
def RmD (K:PySem.W.Frag) (r:V→List V→Hp→VK→Prop) (F:Str→List D→Option D):Prop:=∀ (N:Fb) (H:Hp) (z:Str) (vs:List V) (ds:List D) (d:D) (Q:VK),(∀ a,N a→H a≠none)→Paired (DenP K N H) ds vs→F z ds=some d →
 (∀ v H',Same H H'→Den K N H' d v→Q v H')→r (.str z) vs H Q
@[simp] def mtO (F:Str→List D→Option D) (f:VE→Option D) (fa:VE→Option (List Sl)):VE→Option D:=fun ρ=>match f ρ with
  | some (.str z)=>((fa ρ).bind pks).bind (F z)
  | _=>none
@[simp] def ZvP (F:Str→List D→Option D) (f:VE→Option D):VE→Option D:=fun ρ=>match f ρ with
  | some (.str z)=>F z []
  | _=>none
section
variable {M:Fb} {H0:Hp} {o e:Expr} {es:List Expr} {f:VE→Option D} {fa:VE→Option (List Sl)} {name:Str} {apos cpos:Pos} {id:String} {r:V→List V→Hp→VK→Prop} {F:Str→List D→Option D}
theorem Zty (pa:PlainAttrs "str") (slot:Slot "str" name id) (hty:typeOf (.builtin id)=pure (.type "method_descriptor")) (hm:MtR X id r) (hF:RmD X.K r F) (ho:PE X o (tP X.K M H0 f)) (ha:PA X (e::es) (tA' X.K M H0 fa))
  (hbase:attributeBase o name X.env (eval o X.env)=eval o X.env:=by rfl)
  (hfew:((backTo cpos (starEach (e::es) X.env)).all (fun x=>!x.1)&&(backToKw cpos (keywordEach [] X.env)).all (fun x=>x.1.isSome)
   && decide ((e::es).length+([]:List Keyword).length+(if ([]:List Keyword).isEmpty then 0 else 1)<30))=true:=by rfl)
  (hline:(apos.endLine==cpos.line)=true:=by rfl) (hs:starEach (e::es) X.env=(false,eval e X.env)::starEach es X.env:=by exact Zaa (fun _ _ z=>nomatch z)) (hplain:(backTo cpos (starEach es X.env)).any (·.1)=false:=by rfl) :
  PE X (.Call (.Attribute o name apos) (e::es) [] cpos) (tD X.K M H0 (mtO F f fa)):=(Zmm pa slot hty hm ho ha hbase hfew hline hs hplain).mono fun σ H Q ⟨ρ,d,R,ex,q⟩=>by
 unfold mtO at ex
 split at ex
 ·next z hz =>
  cases hf:fa ρ with
  | none=>rw [hf] at ex;cases ex
  | some ss =>
   rw [hf] at ex
   cases hp:pks ss with
   | none=>simp only [Option.bind,hp] at ex;cases ex
   | some ds =>
    simp only [Option.bind,hp] at ex
    refine ⟨ρ,.str z,R,hz,fun v H1 s1 hv=>?_⟩
    rw [hv.str]
    refine ⟨rfl,ρ,ss,R.st s1,hf,fun vs H2 s2 h2=>?_⟩
    exact hF _ H2 z vs ds d Q ((R.st s1).st s2).nh (Zg1 h2 hp) ex fun w H3 s3 hw=>q w H3 ((s1.trans s2).trans s3) hw
 ·cases ex
theorem ZpB (pa:PlainAttrs "str") (slot:Slot "str" name id) (hty:typeOf (.builtin id)=pure (.type "method_descriptor")) (hm:MtR X id r) (hF:RmD X.K r F) (ho:JE X o (tP X.K M H0 f)) (ha:JA X (e::es) (tA' X.K M H0 fa)) (hbase:attributeBase o name X.env (eval o X.env)=eval o X.env:=by rfl) (hfew:((backTo cpos (starEach (e::es) X.env)).all (fun x=>!x.1)&&(backToKw cpos (keywordEach [] X.env)).all (fun x=>x.1.isSome)
   && decide ((e::es).length+([]:List Keyword).length+(if ([]:List Keyword).isEmpty then 0 else 1)<30))=true:=by rfl) (hline:(apos.endLine==cpos.line)=true:=by rfl) (hs:starEach (e::es) X.env=(false,eval e X.env)::starEach es X.env:=by exact Zaa (fun _ _ z=>nomatch z)) (hplain:(backTo cpos (starEach es X.env)).any (·.1)=false:=by rfl):JE X (.Call (.Attribute o name apos) (e::es) [] cpos) (tD X.K M H0 (mtO F f fa)):=⟨Zty pa slot hty hm hF ho.h ha.h hbase hfew hline hs hplain⟩
end
def Zmq:List D→Option (List Str)
 | []=>some []
 | .str b::r=>(Zmq r).map (b::·)
 | _=>none
@[simp] theorem ZpV:∀ (ns:List Str),Zmq (ns.map D.str)=some ns
  | []=>rfl
  | n::ns=>by simp only [List.map_cons,Zmq,ZpV ns];rfl
@[simp] def Zvy (z:Str):List D→Option D
  | [.lst xs]=>(Zmq xs).bind fun zs=>if (zs.map (·.length)).sum+zs.length * z.length≤16777216 then some (.str (Txt.join z zs)) else none
  | _=>none
@[simp] def ZvC (z:Str):List D→Option D
  | [.str y]=>some (.int (Txt.find z y))
  | _=>none
@[simp] def Zvp (z:Str):List D→Option D
  | []=>if Builtin.Str.tooLong (Txt.upper z).length=false then some (.str (Txt.upper z)) else none
  | _=>none
end
end L2
set_option Elab.async false
set_option linter.all false
set_option maxRecDepth 100000
namespace L2
open PySem PySem.Spec PyProof.Rows
structure Zh6 (P:Program) (w:World) (i:Addr) (fp:List Addr) (n:Nat) (is:Nat→Value→Prop) (st:Nat→Heap→Prop):Prop where
 frame:∀ k h h',st k h→(∀ b,b=i∨b∈fp→∀ o,h.get? b=some o→h'.get? b=some o)→st k h'
 lt:∀ k h,st k h→i<h.objs.size
 item:∀ (A:Around) (E:Value→Shared→Prop) (s:Shared) (k:Nat) (Q:Value→Shared→Prop),k<n→st k s.heap→(∀ v h',is k v→st (k+1) h'→Heap.SameBut i s.heap h'→Q v { s with heap:=h' })→wpAny (model P w) A (Builtin.SmallTypes.nextOf (.ref i)) Q E s
 fin:∀ (A:Around) (E:Value→Shared→Prop) (s:Shared) (k:Nat) (Q:Value→Shared→Prop),A.handled=none→n≤k→st k s.heap→(∀ h' e,Heap.ExtBut i s.heap h'→(∃ o,h'.get? e=some o∧o.cls=.type "StopIteration")→E (.ref e) { s with heap:=h' }) →
  wpAny (model P w) A (Builtin.SmallTypes.nextOf (.ref i)) Q E s
section
variable {prog:Program} {w:World} {A:Around} {E:Value→Shared→Prop} {s:Shared}
theorem Zh2 {i tu:Addr} {k:Nat} {its:Array Value} {v:Value} {Q:Value→Shared→Prop} (hi:s.heap.IsTupleIter i tu k) (ht:s.heap.IsTuple tu its) (hv:its[k]?=some v)
  (q:∀ h',h'.IsTupleIter i tu (k+1)→Heap.SameBut i s.heap h'→Q v { s with heap:=h' }):wpAny (model prog w) A (Builtin.SmallTypes.nextOf (.ref i)) Q E s:=by
 obtain ⟨oi,e0,c0,f0⟩:=id hi
 obtain ⟨ot,e1,_,m1,f1⟩:=ht
 unfold Builtin.SmallTypes.nextOf
 refine wpAny_bind (wpAny_callSpecial?_slot (name:=Str.ofString "__next__") hi.typeIs PySem.F.slot_tuple_iterator_next (wpAny_call_entry PySem.F.slot_tuple_iterator_next hi.typeIs PySem.F.entry_tuple_iterator_next ?_ (PySem.F.args_tuple_iterator_next_1 _)))
 show wpAny _ _ (field (.ref i) 0 >>= _) _ _ s
 refine wpAny_bind (wpAny_field e0 f0 (x:=.ref tu) rfl ?_)
 show wpAny _ _ (if (Value.ref tu==Value.none)=true then _ else _) _ _ s
 rw [if_neg (show ¬ ((Value.ref tu==Value.none)=true) from Bool.false_ne_true)]
 show wpAny _ _ (field (.ref i) 1 >>= _) _ _ s
 refine wpAny_bind (wpAny_field e0 f0 (x:=.int k 0) rfl ?_)
 show wpAny _ _ (seqItems? (.ref tu) >>= _) _ _ s
 refine wpAny_bind (wpAny_seqItems e1 f1 ?_)
 simp only [hv,Int.toNat_natCast]
 refine wpAny_bind (wpAny_setField e0 f0 (by simp) (wpAny_pure ⟨v,rfl,wpAny_pure (q _ ?_ (Heap.SameBut.update ..))⟩))
 exact ⟨_,Heap.get?_update_self _ e0 (Obj.isFreed_of_fields (Obj.data_mapFields f0 _)),(Obj.cls_mapFields ..).trans c0,by rw [Obj.data_mapFields f0];simp [rawInt]⟩
theorem Zil {i tu:Addr} {k:Nat} {its:Array Value} {Q:Value→Shared→Prop} (hh:A.handled=none) (hi:s.heap.IsTupleIter i tu k) (ht:s.heap.IsTuple tu its) (hv:its[k]?=none)
  (q:∀ h' e,Heap.ExtBut i s.heap h'→(∃ o,h'.get? e=some o∧o.cls=.type "StopIteration")→E (.ref e) { s with heap:=h' }):wpAny (model prog w) A (Builtin.SmallTypes.nextOf (.ref i)) Q E s:=by
 obtain ⟨oi,e0,c0,f0⟩:=id hi
 obtain ⟨ot,e1,_,m1,f1⟩:=ht
 unfold Builtin.SmallTypes.nextOf
 refine wpAny_bind (wpAny_callSpecial?_slot (name:=Str.ofString "__next__") hi.typeIs PySem.F.slot_tuple_iterator_next (wpAny_call_entry PySem.F.slot_tuple_iterator_next hi.typeIs PySem.F.entry_tuple_iterator_next ?_ (PySem.F.args_tuple_iterator_next_1 _)))
 show wpAny _ _ (field (.ref i) 0 >>= _) _ _ s
 refine wpAny_bind (wpAny_field e0 f0 (x:=.ref tu) rfl ?_)
 show wpAny _ _ (if (Value.ref tu==Value.none)=true then _ else _) _ _ s
 rw [if_neg (show ¬ ((Value.ref tu==Value.none)=true) from Bool.false_ne_true)]
 show wpAny _ _ (field (.ref i) 1 >>= _) _ _ s
 refine wpAny_bind (wpAny_field e0 f0 (x:=.int k 0) rfl ?_)
 show wpAny _ _ (seqItems? (.ref tu) >>= _) _ _ s
 refine wpAny_bind (wpAny_seqItems e1 f1 ?_)
 simp only [hv,Int.toNat_natCast]
 refine wpAny_bind (wpAny_rule (wpAny_bind (wpAny_setField e0 f0 (by simp) ?_)))
 show wpAny _ _ (newExc (.type "StopIteration") ([]:List Value) >>= _) _ _ _
 refine wpAny_bind ?_
 simp only [newTuple,newExc]
 refine wpAny_bind (wpAny_newObj_type ?_ (show (0:Nat)≤sizeLine by decide))
 refine wpAny_bind (m:=firstArgMember _ _) (wpAny_of_eq (a:=Value.none) (by first | rfl | (unfold firstArgMember;rfl)) ?_)
 refine wpAny_newObj_type ?_ (by first | trivial | (show (0:Nat)≤sizeLine;decide) | size_fits)
 unfold raiseNew
 refine wpAny_bind (wpAny_handled ?_)
 first | rw [hh] | rw [show A.in1.handled=none from hh]
 refine wpAny_bind (wpAny_pure (wpAny_throw ?_))
 exact q _ _ ((Heap.ExtBut.push (Heap.SameBut.extBut (Heap.SameBut.update ..)) _).push _) ⟨_,Heap.get?_push_size _ rfl,rfl⟩
theorem ZnZ {P:Program} {w:World} {i l:Addr} (its:Array Value):Zh6 P w i [l] its.size (fun k v=>its[k]?=some v) (fun k h=>h.IsListIter i l k∧h.IsList l its) where
 frame:=fun k h h' ⟨a,b⟩ kp=>⟨a.at fun o e=>kp i (.inl rfl) o e,b.at fun o e=>kp l (.inr (by simp)) o e⟩
 lt:=fun k h ⟨⟨o,e,_⟩,_⟩=>Heap.lt_size e
 item:=fun A E s k Q hk ⟨a,b⟩ q=>wpAny_nextOf_list_item a b (Array.getElem?_eq_getElem hk) fun h' a' sb=>by
  by_cases hl:l=i
  ·subst hl
   obtain ⟨o,e,c,_⟩:=a
   obtain ⟨o',e',c',_⟩:=b
   rw [e] at e';cases e'
   rw [c] at c'
   exact absurd c' (by decide)
  ·exact q _ h' (Array.getElem?_eq_getElem hk) ⟨a',b.extBut sb.extBut hl⟩ sb
 fin:=fun A E s k Q hh hk ⟨a,b⟩ q=>wpAny_nextOf_list_end hh a b (Array.getElem?_eq_none hk) q
theorem Zqh {P:Program} {w:World} {i l:Addr} (its:Array Value):Zh6 P w i [l] its.size (fun k v=>its[k]?=some v) (fun k h=>h.IsTupleIter i l k∧h.IsTuple l its) where
 frame:=fun k h h' ⟨a,b⟩ kp=>⟨a.at fun o e=>kp i (.inl rfl) o e,b.at fun o e=>kp l (.inr (by simp)) o e⟩
 lt:=fun k h ⟨⟨o,e,_⟩,_⟩=>Heap.lt_size e
 item:=fun A E s k Q hk ⟨a,b⟩ q=>Zh2 a b (Array.getElem?_eq_getElem hk) fun h' a' sb=>by
  by_cases hl:l=i
  ·subst hl
   obtain ⟨o,e,c,_⟩:=a
   obtain ⟨o',e',c',_⟩:=b
   rw [e] at e';cases e'
   rw [c] at c'
   exact absurd c' (by decide)
  ·exact q _ h' (Array.getElem?_eq_getElem hk) ⟨a',b.at fun o e=>sb.extBut _ _ hl e⟩ sb
 fin:=fun A E s k Q hh hk ⟨a,b⟩ q=>Zil hh a b (Array.getElem?_eq_none hk) q
section
variable {z tin tout ia ib:Addr} {fa fb:List Addr} {n m k:Nat} {isA isB:Nat→Value→Prop} {sa sb:Nat→Heap→Prop} {a b:Value}
end
end
end L2
set_option Elab.async false
set_option linter.all false
set_option maxRecDepth 100000
namespace L2
open PySem PySem.Spec PyProof.Rows
section
variable {X:Cx} {pins:List (Addr×Obj)} {σ:St} {H:Hp} {s:Shared} {h':Heap}
theorem Inv.turnedL {fp:List Addr} (I:Inv X pins σ H s) (hf:∀ b∈fp,Zeh X pins H b) (k:∀ b o,b∉fp→s.heap.get? b=some o→h'.get? b=some o):Inv X pins σ H { s with heap:=h' }:=by
 have nit:∀ b u,H b=some u→b∉fp:=fun b u e z=>by rw [(hf b z).1] at e;cases e
 refine I.step (g':=s.gens) (d':=s.drawn) (t':=s.toks) (ch:=fp) (fun b hb=>?_) (fun b o _ _ hc e _=>k b o hc e) (fun b o _ _ hc e _=>⟨o.slots,k b o hc e⟩) (fun _ _ _ _ n=>n)
  (fun b o hc e=>⟨o,k b o hc e⟩) (fun _ _ e=>e) (fun _ _ _ e=>e) (fun b ps e=>⟨#[],by rw [e];simp⟩) (fun m hm=>?_) (fun b u e=>?_) I.bare
 ·obtain ⟨_,f1,_,f3,f4,f5⟩:=hf b hb
  exact ⟨f3,f1,f4,f5⟩
 ·obtain ⟨o,es,ep,ho,r⟩:=hm
  exact ⟨o,es,ep,k _ o (fun z=>(hf _ z).2.1 rfl) ho,r⟩
 ·refine (I.hok b u e).stay (fun c v hc q=>k c v ?_ q) (fun _ q=>q) fun _ _ q=>q
  rcases hc with z | z
  ·rw [z];exact nit b u e
  ·exact nit c _ z
theorem Inv.yielded {fp:List Addr} {p:Addr} {vs:List V} (I:Inv X pins σ H s) (hf:∀ b∈fp,Zeh X pins H b) (k:∀ b o,b∉fp→s.heap.get? b=some o→h'.get? b=some o) (hp:s.heap.objs.size≤p)
  (new:ObjOk X.prog X.w (upd H p (.tup vs)) h' p (.tup vs)):Inv X pins σ (upd H p (.tup vs)) { s with heap:=h' }:=by
 have nit:∀ b u,H b=some u→b∉fp:=fun b u e z=>by rw [(hf b z).1] at e;cases e
 have hn:H p=none:=I.hok.fresh hp
 refine I.step (g':=s.gens) (d':=s.drawn) (t':=s.toks) (ch:=fp) (fun b hb=>?_) (fun b o _ _ hc e _=>k b o hc e) (fun b o _ _ hc e _=>⟨o.slots,k b o hc e⟩) (fun b o _ e n=>?_)
  (fun b o hc e=>⟨o,k b o hc e⟩) (fun b xs e=>?_) (fun b o u e=>?_) (fun b ps e=>⟨#[],?_⟩) (fun m hm=>?_) (fun b u e=>?_) I.bare
 ·obtain ⟨_,f1,_,f3,f4,f5⟩:=hf b hb
  exact ⟨f3,f1,f4,f5⟩
 ·rw [ZE (Nat.ne_of_lt (Nat.lt_of_lt_of_le (Heap.lt_size e) hp))];exact n
 ·rw [ZE (Z5 e hn)];exact e
 ·rw [ZE (Z5 e hn)];exact e
 ·rw [ZE (Z5 e hn),e];simp
 ·obtain ⟨o,es,ep,ho,r⟩:=hm
  exact ⟨o,es,ep,k _ o (fun z=>(hf _ z).2.1 rfl) ho,r⟩
 ·by_cases hb:b=p
  ·subst hb;rw [Zak] at e;cases e;exact new
  ·rw [ZE hb] at e
   refine (I.hok b u e).stay (fun c v hc q=>k c v ?_ q) (fun c q=>by rw [ZE (Z5 q hn)];exact q) fun c xs q=>by rw [ZE (Z5 q hn)];exact q
   rcases hc with z | z
   ·rw [z];exact nit b u e
   ·exact nit c _ z
end
inductive Src where
 | l (a:Addr)
 | t (a:Addr)
@[reducible] def Src.ad:Src→Addr
  | .l a=>a
  | .t a=>a
def Src.sq (K:PySem.W.Frag) (H:Hp):Src→List V→Prop
 | .l a=>SqL K H a
 | .t a=>SqT K H a
def Src.nm:Src→String
 | .l _=>"list_iterator"
 | .t _=>"tuple_iterator"
def Src.ok (h:Heap) (its:Array Value):Src→Prop
 | .l a=>h.IsList a its
 | .t a=>h.IsTuple a its
def Src.it (h:Heap) (i:Addr) (k:Nat):Src→Prop
 | .l a=>h.IsListIter i a k
 | .t a=>h.IsTupleIter i a k
theorem Src.of (S:Src) {X:Cx} {pins:List (Addr×Obj)} {σ:St} {H:Hp} {s:Shared} {xs:List V} (I:Inv X pins σ H s) (h:S.sq X.K H xs):∃ its:List Value,Vals xs its∧S.ok s.heap its.toArray∧xs.length≤sizeLine:=by
 cases S with
 | l a=>obtain ⟨its,r,p,z⟩:=I.list h;exact ⟨its,r,p.isList,z⟩
 | t a=>obtain ⟨its,r,p,z⟩:=I.tuple h;exact ⟨its,r,(show s.heap.IsTuple a its.toArray from p),z⟩
theorem Src.inj (S:Src) {X:Cx} {pins:List (Addr×Obj)} {σ:St} {H:Hp} {s:Shared} {xs ys:List V} (I:Inv X pins σ H s) (h:S.sq X.K H xs) (h':S.sq X.K H ys):xs=ys:=by
 cases S with
 | l a=>exact I.list_inj h h'
 | t a=>exact I.tuple_inj h h'
theorem Src.lt (S:Src) {h:Heap} {its:Array Value} (p:S.ok h its):S.ad<h.objs.size:=by
 cases S with
 | l a=>obtain ⟨o,e,_⟩:=p;exact Heap.lt_size e
 | t a=>obtain ⟨o,e,_⟩:=p;exact Heap.lt_size e
theorem Src.itAt (S:Src) {h h':Heap} {i:Addr} {n:Nat} (p:S.it h i n) (k:∀ o,h.get? i=some o→h'.get? i=some o):S.it h' i n:=by
 cases S with
 | l a=>exact Heap.IsListIter.at p k
 | t a=>exact Heap.IsTupleIter.at p k
theorem Src.itOb (S:Src) {h:Heap} {i:Addr} {n:Nat} (p:S.it h i n):∃ o,h.get? i=some o∧∀ v,o.data≠.cell v:=by
 cases S with
 | l a=>obtain ⟨o,e,c,d⟩:=p;exact ⟨o,e,fun v z=>by rw [d] at z;cases z⟩
 | t a=>obtain ⟨o,e,c,d⟩:=p;exact ⟨o,e,fun v z=>by rw [d] at z;cases z⟩
theorem Src.sub (S:Src) {P:Program} {w:World} {i:Addr} (its:Array Value):Zh6 P w i [S.ad] its.size (fun k v=>its[k]?=some v) (fun k h=>S.it h i k∧S.ok h its):=by
 cases S with
 | l a=>exact ZnZ its
 | t a=>exact Zqh its
def Src.obj (S:Src):Obj:={ cls:=.type S.nm,data:=.fields #[.ref S.ad,.int 0 0] }
theorem Src.pyIter (S:Src) {prog:Program} {w:World} {A:Around} {E:Value→Shared→Prop} {s:Shared} {its:Array Value} {Q:Value→Shared→Prop} (p:S.ok s.heap its)
  (q:Q (.ref s.heap.objs.size) { s with heap:=s.heap.push S.obj }):wpAny (model prog w) A (pyIter (.ref S.ad)) Q E s:=by
 cases S with
 | l a=>exact wpAny_pyIter_list p q
 | t a=>exact wpAny_pyIter_tuple p q
theorem Src.new (S:Src) {h:Heap}:S.it (h.push S.obj) h.objs.size 0:=by
 cases S with
 | l a=>exact ⟨_,Heap.get?_push_size _ rfl,rfl,rfl⟩
 | t a=>exact ⟨_,Heap.get?_push_size _ rfl,rfl,rfl⟩
end L2
set_option Elab.async false
set_option linter.all false
set_option maxRecDepth 100000
namespace L2
open PySem PySem.Spec PyProof.Rows
section
variable {prog:Program} {w:World} {A:Around} {E:Value→Shared→Prop} {s:Shared}
end
@[simp] def Zb8:D→Option (List D)
  | .lst xs=>some xs
  | .tup xs=>some xs
  | _=>none
theorem DenQ.src {K:PySem.W.Frag} {M N:Fb} {H:Hp} {d:D} {v:V} {xs:List D} (h:DenQ K M N H d v) (e:Zb8 d=some xs) :
  ∃ (S:Src) (vs:List V),v=.ref S.ad∧DenL K N H xs vs∧∀ N2 H2,Step M N N2 H H2→S.sq K H2 vs:=by
 cases d with
 | lst ys fl =>
  cases fl with
  | true=>cases e
  | false =>
  cases e
  obtain ⟨a,vs,e1,hr,hd⟩:=h
  refine ⟨.l a,vs,e1,hd,fun N2 H2 S=>?_⟩
  rcases hr with ⟨hn,hr⟩ | hr
  ·exact .inl (hr.step S (by rcases hn with z | z;exact .inl z;exact .inr (.inl z)))
  ·exact hr.sq
 | tup ys =>
  cases e
  simp only [DenQ,Den] at h
  obtain ⟨a,vs,e1,hr,hd⟩:=h
  exact ⟨.t a,vs,e1,hd,fun N2 H2 S=>hr.step S⟩
 | _=>cases e
@[simp] def ZvN (f g:VE→Option D):VE→Option (List D):=fun ρ=>match (f ρ).bind Zb8,(g ρ).bind Zb8 with
  | some xs,some ys=>some (List.zipWith (fun x y=>D.tup [x,y]) xs ys)
  | _,_=>none
section
variable {X:Cx} {M:Fb} {H0:Hp} {f g:VE→Option D} {a b:Expr} {elts:List Expr} {p pos tpos:Pos}
end
end L2
set_option Elab.async false
set_option linter.all false
set_option maxRecDepth 100000
namespace L2
open PySem PySem.Spec PyProof.Rows
section
variable {prog:Program} {w:World} {A:Around} {E:Value→Shared→Prop} {s:Shared}
theorem ZmC (l:Addr) (items:Array Value) (n:Nat) (dct:Option Addr) (sl:Array (Option Value)) (ob:Obj) (ho:ob={ cls:=.type "list_iterator",data:=.fields #[.ref l,.int 0 0] }) :
  Meets (Builtin.«enumerate.__new__» ⟨[.type "enumerate",.ref l],[]⟩) (fun _ R s=>s.heap.get? l=some { cls:=.type "list",dict:=dct,data:=.seq items n,slots:=sl } ∧
   R (.ok (.ret (.ref (s.heap.push ob).objs.size))) { s with heap:=(s.heap.push ob).push { cls:=.type "enumerate",data:=.fields #[.none,.bool false,.ref s.heap.objs.size,rawInt 0,.none,.none] } }):=by
 subst ho;exact meets_enumerate_newL l items n dct sl
theorem Zl8 (l:Addr) (items:Array Value) (n:Nat) (dct:Option Addr) (sl:Array (Option Value)) :
  Meets (Builtin.«enumerate.__new__» ⟨[.type "enumerate",.ref l],[]⟩) (fun _ R s=>s.heap.get? l=some { cls:=.type "tuple",dict:=dct,data:=.seq items n,slots:=sl } ∧
   R (.ok (.ret (.ref (s.heap.push (Src.obj (.t l))).objs.size))) { s with heap:=(s.heap.push (Src.obj (.t l))).push { cls:=.type "enumerate",data:=.fields #[.none,.bool false,.ref s.heap.objs.size,rawInt 0,.none,.none] } }) :=
 .of_wp fun prog w A R s h=>by
  obtain ⟨hp,g,d,tk,os⟩:=s;obtain ⟨e,q⟩:=h
  have hs:=sub_enumerate
  have hL:Src.ok (Shared.heap ⟨hp,g,d,tk,os⟩) items (.t l):=⟨_,e,rfl,n,rfl⟩
  have hI:∀ {prog:Program} {w:World} {A:Around} {E:Value→Shared→Prop} {Q:Value→Shared→Prop},Q (.ref hp.objs.size) ⟨hp.push (Src.obj (.t l)),g,d,tk,os⟩→wpAny (model prog w) A (pyIter (.ref l)) Q E ⟨hp,g,d,tk,os⟩:=fun q=>Src.pyIter (.t l) hL q
  wp_walk using AutoSeq1.wpAny_loadPart' e
  refine wpAny_stack_any fun st=>wpAny_pure ?_
  split
  ·rename_i c _ _ _ _ _
   cases (c==Value.type "enumerate")
   ·wp_walk using AutoSeq1.wpAny_loadPart' e,hI
    exact ⟨_,rfl,q⟩
   ·wp_walk using AutoSeq1.wpAny_loadPart' e,hI
    exact ⟨_,rfl,q⟩
  ·wp_walk using AutoSeq1.wpAny_loadPart' e,hI
   exact ⟨_,rfl,q⟩
theorem Znv {S:Src} {items:Array Value} {Q:Value→Shared→Prop} (p:S.ok s.heap items)
  (q:∀ h',IsEnum h' (s.heap.objs.size+1) s.heap.objs.size 0 .none→S.it h' s.heap.objs.size 0→(∀ b o,s.heap.get? b=some o→h'.get? b=some o)→Q (.ref (s.heap.objs.size+1)) { s with heap:=h' }) :
  wpAny (model prog w) A (call (.type "enumerate") [.ref S.ad]) Q E s:=by
 have hz:(s.heap.push S.obj).objs.size=s.heap.objs.size+1:=Heap.size_push ..
 have he:IsEnum ((s.heap.push S.obj).push { cls:=.type "enumerate",data:=.fields #[.none,.bool false,.ref s.heap.objs.size,rawInt 0,.none,.none] }) (s.heap.objs.size+1) s.heap.objs.size 0 .none:=by
  have:=Heap.get?_push_size (s.heap.push S.obj) (o:={ cls:=.type "enumerate",data:=.fields #[.none,.bool false,.ref s.heap.objs.size,rawInt 0,.none,.none] }) rfl
  rw [hz] at this;exact this
 have fin:(s.TypeIs (.ref 0) "x"→True):=fun _=>trivial
 have last:=q _ he (S.itAt (S.new (h:=s.heap)) fun o e=>Heap.get?_push_of_some _ e) fun b o e=>Heap.get?_push_of_some _ (Heap.get?_push_of_some _ e)
 cases S with
 | l a =>
  obtain ⟨⟨c,dct,dt,sl⟩,hl,hc,n,hd⟩:=p
  replace hc:c=.type "list":=hc
  replace hd:dt=.seq items n:=hd
  subst hc hd
  refine callType_new PySem.F.called_enumerate (by decide) (PySem.F.typeCall_enumerate_1 _) (PySem.F.newCall_enumerate_1 _) (fun obj=>PySem.F.args_object_init_2 obj _) PySem.F.entry_enumerate_new (ZmC a items n dct sl (Src.obj (.l a)) rfl) ⟨hl,?_⟩
  show _∧_
  rw [hz]
  exact ⟨⟨_,he,rfl⟩,last⟩
 | t a =>
  obtain ⟨⟨c,dct,dt,sl⟩,hl,hc,n,hd⟩:=p
  replace hc:c=.type "tuple":=hc
  replace hd:dt=.seq items n:=hd
  subst hc hd
  refine callType_new PySem.F.called_enumerate (by decide) (PySem.F.typeCall_enumerate_1 _) (PySem.F.newCall_enumerate_1 _) (fun obj=>PySem.F.args_object_init_2 obj _) PySem.F.entry_enumerate_new (Zl8 a items n dct sl) ⟨hl,?_⟩
  show _∧_
  rw [hz]
  exact ⟨⟨_,he,rfl⟩,last⟩
section
variable {e it:Addr} {fa:List Addr} {n k:Nat} {isA:Nat→Value→Prop} {sa:Nat→Heap→Prop} {old:Value}
theorem ZmQ {Q:Option Value→Shared→Prop} (SA:Zh6 prog w it fa n isA sa) (he:IsEnum s.heap e it k old) (ha:sa k s.heap) (kn:k<n) (hne:e≠it) (hfe:e∉fa)
  (q:∀ x h',isA k x→IsEnumOut h' e it ((k:Int)+1) x s.heap.objs.size→sa (k+1) h'→h'.get? s.heap.objs.size=some { cls:=.type "tuple",data:=.seq #[.int k s.toks,x] } →
   (∀ b o,b≠e→b≠it→s.heap.get? b=some o→h'.get? b=some o)→Q (some (.ref s.heap.objs.size)) { s with heap:=h',toks:=s.toks+1 }) :
  wpAny (model prog w) A (pyNext (.ref e)) Q E s:=by
 obtain ⟨hp,g,d,tk,os⟩:=s
 have ty:Shared.TypeIs ⟨hp,g,d,tk,os⟩ (.ref e) "enumerate":=⟨_,he,rfl⟩
 unfold pyNext
 refine wpAny_bind (wpAny_attempt (wpAny_callSpecial?_slot (name:=Str.ofString "__next__") ty PySem.F.slot_enumerate_next (wpAny_call_entry PySem.F.slot_enumerate_next ty PySem.F.entry_enumerate_next ?_ (PySem.F.args_enumerate_next_1 _))))
 have fr:∀ {h h':Heap},sa (k+1) h→(∀ b o,b≠e→h.get? b=some o→h'.get? b=some o)→sa (k+1) h':=fun st kp=>SA.frame _ _ _ st fun b hb o x=>kp b o (by
  rcases hb with rfl | hb
  ·exact Ne.symm hne
  ·intro z;subst z;exact hfe hb) x
 show wpAny _ _ (field (.ref e) 2 >>= _) _ _ _
 refine wpAny_bind (wpAny_field he rfl (x:=.ref it) rfl ?_)
 refine wpAny_bind (SA.item _ _ _ k _ kn ha fun x h1 hx a1 s1=>?_)
 replace s1:Heap.SameBut it hp h1:=s1
 have e1:IsEnum h1 e it k old:=(s1.2 e hne).trans he
 show wpAny _ _ (field (.ref e) 3 >>= _) _ _ ⟨h1,g,d,tk,os⟩
 refine wpAny_bind (wpAny_field e1 rfl (x:=rawInt k) rfl ?_)
 show wpAny _ _ (field (.ref e) 4 >>= _) _ _ ⟨h1,g,d,tk,os⟩
 refine wpAny_bind (wpAny_field e1 rfl (x:=.none) rfl ?_)
 show wpAny _ _ (mkInt k >>= _) _ _ ⟨h1,g,d,tk,os⟩
 refine wpAny_bind (wpAny_mkInt ?_)
 show wpAny _ _ (setField (.ref e) 3 (rawInt ((k:Int)+1)) >>= _) _ _ ⟨h1,g,d,tk+1,os⟩
 refine wpAny_bind (wpAny_setField_rec e1 (by simp) fun h2 e2 s2=>?_)
 replace s2:Heap.SameBut e h1 h2:=s2
 replace e2:IsEnum h2 e it ((k:Int)+1) old:=e2
 show wpAny _ _ (setField (.ref e) 4 .none >>= _) _ _ ⟨h2,g,d,tk+1,os⟩
 refine wpAny_bind (wpAny_setField_rec e2 (by simp) fun h3 e3 s3=>?_)
 replace s3:Heap.SameBut e h2 h3:=s3
 replace e3:IsEnum h3 e it ((k:Int)+1) old:=e3
 show wpAny _ _ (newTuple [.int k tk,x] >>= _) _ _ ⟨h3,g,d,tk+1,os⟩
 refine wpAny_bind (wpAny_newTuple ?_)
 have sz:h3.objs.size=hp.objs.size:=by rw [s3.1,s2.1,s1.1]
 have el:e<hp.objs.size:=Heap.lt_size he
 have e4:IsEnum (h3.push { cls:=.type "tuple",data:=.seq #[.int k tk,x] }) e it ((k:Int)+1) old:=Heap.get?_push_of_some _ e3
 have t4:(h3.push { cls:=.type "tuple",data:=.seq #[.int k tk,x] }).get? hp.objs.size=some { cls:=.type "tuple",data:=.seq #[.int k tk,x] }:=by rw [← sz];exact Heap.get?_push_size _ rfl
 have k4:∀ b o,b≠e→b≠it→hp.get? b=some o→(h3.push { cls:=.type "tuple",data:=.seq #[.int k tk,x] }).get? b=some o:=fun b o he hi hb =>
  Heap.get?_push_of_some _ (s3.extBut b o he (s2.extBut b o he (s1.extBut b o hi hb)))
 have a4:sa (k+1) (h3.push { cls:=.type "tuple",data:=.seq #[.int k tk,x] }):=fr a1 fun b o hb z=>Heap.get?_push_of_some _ (s3.extBut b o hb (s2.extBut b o hb z))
 generalize (h3.push { cls:=.type "tuple",data:=.seq #[.int k tk,x] })=h4 at e4 t4 k4 a4 ⊢
 show wpAny _ _ (Builtin.SmallTypes.ownedTupleIsFree (.ref e) >>= _) _ _ ⟨h4,g,d,tk+1,os⟩
 rw [sz]
 refine wpAny_bind ?_
 unfold Builtin.SmallTypes.ownedTupleIsFree
 refine wpAny_bind (wpAny_field e4 rfl (x:=.none) rfl (wpAny_pure ?_))
 rw [if_pos rfl]
 refine wpAny_bind (wpAny_rule ?_)
 refine wpAny_bind (wpAny_field e4 rfl (x:=old) rfl ?_)
 refine wpAny_bind (wpAny_setField_rec e4 (by simp) fun h5 e5 s5=>?_)
 replace s5:Heap.SameBut e h4 h5:=s5
 replace e5:IsEnum h5 e it ((k:Int)+1) x:=e5
 show wpAny _ _ (Builtin.SmallTypes.ownedTupleHandOut (.ref e) (.ref hp.objs.size) >>= _) _ _ ⟨h5,g,d,tk+1,os⟩
 refine wpAny_bind ?_
 unfold Builtin.SmallTypes.ownedTupleHandOut
 refine wpAny_bind (wpAny_setField_rec e5 (by simp) fun h6 e6 s6=>?_)
 replace s6:Heap.SameBut e h5 h6:=s6
 replace e6:IsEnumOut h6 e it ((k:Int)+1) x hp.objs.size:=e6
 refine wpAny_setField_rec e6 (by simp) fun h7 e7 s7=>?_
 replace s7:Heap.SameBut e h6 h7:=s7
 replace e7:IsEnumOut h7 e it ((k:Int)+1) x hp.objs.size:=e7
 have up:∀ b o,b≠e→h4.get? b=some o→h7.get? b=some o:=fun b o hb z=>s7.extBut b o hb (s6.extBut b o hb (s5.extBut b o hb z))
 refine wpAny_bind (wpAny_letGo (wpAny_pure ⟨_,rfl,wpAny_pure (q x h7 hx e7 (fr a4 up) (up _ _ (Nat.ne_of_gt el) t4) fun b o he hi z=>up b o he (k4 b o he hi z))⟩))
theorem ZnP {Q:Option Value→Shared→Prop} (hh:A.handled=none) (SA:Zh6 prog w it fa n isA sa) (he:IsEnum s.heap e it k old) (ha:sa k s.heap) (kn:n≤k)
  (q:∀ h',Heap.ExtBut it s.heap h'→Q none { s with heap:=h' }):wpAny (model prog w) A (pyNext (.ref e)) Q E s:=by
 have ty:s.TypeIs (.ref e) "enumerate":=⟨_,he,rfl⟩
 unfold pyNext
 refine wpAny_bind (wpAny_attempt (wpAny_callSpecial?_slot (name:=Str.ofString "__next__") ty PySem.F.slot_enumerate_next (wpAny_call_entry PySem.F.slot_enumerate_next ty PySem.F.entry_enumerate_next ?_ (PySem.F.args_enumerate_next_1 _))))
 show wpAny _ _ (field (.ref e) 2 >>= _) _ _ _
 refine wpAny_bind (wpAny_field he rfl (x:=.ref it) rfl ?_)
 refine wpAny_bind (SA.fin _ _ _ k _ (by first | exact hh | simpa using hh) kn ha fun h' x e' hx=>?_)
 obtain ⟨o,ho,hc⟩:=hx
 exact wpAny_bind (wpAny_isInstance (T:="StopIteration") (b:=true) ⟨o,ho,hc⟩ isSubtype_stop (wpAny_pure (q _ e')))
theorem Zp6 {elts:List Expr} {x1} {pos:Pos} {i:Int} {v:Value} {T:Addr} {Q:Unit→Shared→Prop} (hz:IsEnumOut s.heap e it i v T)
  (q:∀ h',IsEnum h' e it i v→Heap.SameBut e s.heap h'→Q () { s with heap:=h' }):wpAny (model prog w) A (letOwnedTupleGo (.Tuple elts x1 pos) (.ref e) (.ref T)) Q E s:=by
 unfold letOwnedTupleGo
 refine wpAny_bind (wpAny_load hz ?_)
 show wpAny _ _ (if (["enumerate","zip","dict_itemiterator","dict_reverseitemiterator","odict_iterator","itertools.zip_longest","itertools.pairwise"].contains "enumerate"&&(#[rawInt T,.bool false,.ref it,rawInt i,.none,v]:Array Value)[0]?==some (rawInt T))=true then _ else _) Q E s
 rw [if_pos (by simp)]
 refine wpAny_bind (wpAny_rule ?_)
 show wpAny _ _ (setField (.ref e) 0 .none) Q E s
 exact wpAny_setField_rec hz (by simp) fun h' z sb=>q h' z sb
end
end
def Ite (K:PySem.W.Frag) (S:Src):It :=
 ⟨fun i H=>∃ xs x,S.sq K H xs∧xs[i]?=some x,
  fun i H v H'=>∃ p x,v=.ref p∧H p=none∧H'=upd H p (.tup [.int i,x])∧(∀ xs,S.sq K H xs→xs[i]?=some x),
  fun i H=>∃ xs,S.sq K H xs∧xs.length≤i⟩
theorem Znb {P:Program} {w:World} {K:PySem.W.Frag} {elts:List Expr} {x1} {pos:Pos} (S:Src) (n:Nat) (h1:S.ad<n) :
  Zgl P w K (.Tuple elts x1 pos) (Ite K S) [n+1,n] (n+1) (fun i h=>(∃ old,IsEnum h (n+1) n i old)∧S.it h n i) where
 mem:=by simp
 obj:=fun i h ⟨⟨x,z⟩,c⟩ q hq=>by
  simp only [List.mem_cons,List.not_mem_nil,or_false] at hq
  rcases hq with rfl | rfl
  ·exact ⟨_,z,fun v e=>nomatch (show Data.fields _=Data.cell v from e)⟩
  ·exact S.itOb c
 keep:=fun i h h' ⟨⟨x,z⟩,c⟩ k=>⟨⟨x,k _ (by simp) _ z⟩,S.itAt c fun o e=>k _ (by simp) o e⟩
 item:=by
  intro X hP hw hK hc i pins s σ H E I hf ⟨⟨old,z⟩,c⟩ ⟨xs,x,hx,ex⟩
  subst hP hw hK
  obtain ⟨its,r1,o1,_⟩:=S.of I hx
  obtain ⟨u1,e1,ru1⟩:=r1.get ex
  have l1:=(List.getElem?_eq_some_iff.mp e1).1
  have hlt:n+1<s.heap.objs.size:=Heap.lt_size z
  have nea:S.ad≠(n+1:Nat):=fun e=>absurd (show @LT.lt Nat _ S.ad n from h1) (by rw [e];show ¬ @LT.lt Nat _ _ _;omega)
  refine ZmQ (S.sub (P:=X.prog) (w:=X.w) its.toArray) z ⟨c,o1⟩ (by simpa using l1) (by (show @Ne Nat _ _;omega)) (fun z=>nea (List.mem_singleton.mp z).symm) fun x' h' hx' z' ⟨c',_⟩ new kp=>?_
  have hx1:x'=u1:=by simp [e1] at hx';exact hx'.symm
  subst hx1
  refine ⟨_,rfl,Zp6 (s:={ s with heap:=h',toks:=s.toks+1 }) z' fun h2' z2 sb=>?_⟩
  have up:∀ q o,q≠n+1→h'.get? q=some o→h2'.get? q=some o:=fun q o hq e=>sb.extBut _ _ hq e
  have I1:Inv X pins σ (upd H s.heap.objs.size (.tup [.int i,x])) { s with heap:=h2' }:=by
   refine I.yielded hf (fun q o hq e=>up q o (fun z=>hq (by simp [z])) (kp q o (fun z=>hq (by simp [z])) (fun z=>hq (by simp [z])) e)) (Nat.le_refl _) ?_
   exact ⟨show 2≤sizeLine by decide,[.int i s.toks,x'],.cons ⟨_,rfl⟩ (.cons ru1 .nil),⟨_,up _ _ (by (show @Ne Nat _ _;omega)) new,rfl,_,rfl⟩⟩
  refine ⟨.ref s.heap.objs.size,_,I1.tok (s.toks+1),rfl,⟨_,x,rfl,I.hok.fresh (Nat.le_refl _),rfl,fun zs hz=>by rw [S.inj I hz hx];exact ex⟩,⟨⟨x',?_⟩,S.itAt c' fun o e=>up _ o (by (show @Ne Nat _ _;omega)) e⟩,fun q hq=>?_⟩
  ·have:((i+1:Nat):Int)=(i:Int)+1:=by omega
   show IsEnum h2' (n+1) n ((i+1:Nat):Int) x'
   rw [this]
   exact z2
  rw [ZE]
  ·exact (hf q hq).1
  ·simp only [List.mem_cons,List.not_mem_nil,or_false] at hq
   rcases hq with rfl | rfl<;>(show @Ne Nat _ _;omega)
 done:=by
  intro X hP hw hK hc i pins s σ H E I hf ⟨⟨old,z⟩,c⟩ ⟨xs,hx,hl⟩
  subst hP hw hK
  obtain ⟨its,r1,o1,_⟩:=S.of I hx
  have q1:=r1.length
  refine ZnP (I.ok.hd hc) (S.sub (P:=X.prog) (w:=X.w) its.toArray) z ⟨c,o1⟩ (by simp only [List.size_toArray];omega) fun h' kp=>⟨rfl,I.turnedL hf fun q o hq e=>kp q o (fun z=>hq (by simp [z])) e⟩
 self:=fun _ _ _ _ _ ⟨⟨_,z⟩,_⟩ q=>wpAny_pyIter_enum z q
theorem Zmu:bootBuiltins "enumerate"=some (.type "enumerate"):=by decide +kernel
def ZcA:Nat→List D→List D
 | _,[]=>[]
 | k,d::ds=>.tup [.int k,d]::ZcA (k+1) ds
theorem Zjh:∀ (xs:List D) (k:Nat),(ZcA k xs).length=xs.length
 | [],_=>rfl
 | _::xs,k=>by simp [ZcA,Zjh xs]
theorem ZiT:∀ (xs:List D) (k i:Nat),(ZcA k xs)[i]?=(xs[i]?).map fun d=>D.tup [.int ((k+i:Nat):Int),d]
 | [],_,_=>by simp [ZcA]
 | x::xs,k,0=>by simp [ZcA]
 | x::xs,k,i+1=>by
  simp only [ZcA,List.getElem?_cons_succ,ZiT xs]
  rw [show k+1+i=k+(i+1) by omega]
@[simp] def ZjA (f:VE→Option D):VE→Option (List D):=fun ρ=>match (f ρ).bind Zb8 with
  | some xs=>some (ZcA 0 xs)
  | none=>none
theorem Zpx {K:PySem.W.Frag} {M N:Fb} {H:Hp} {S:Src} {xs:List D} {us:List V} (h1:DenL K N H xs us) (q1:∀ N2 H2,Step M N N2 H H2→S.sq K H2 us):Zoj K M N H (Ite K S) (ZcA 0 xs):=fun N2 H2 St i=>by
 have s1:=q1 _ _ St
 have d1:=DenL.step St _ _ h1
 refine ⟨fun d he=>?_,fun he=>⟨us,s1,?_⟩⟩
 ·rw [ZiT] at he
  cases ex:xs[i]? with
  | none=>rw [ex] at he;cases he
  | some x =>
   rw [ex] at he;cases he
   obtain ⟨u,eu,du⟩:=d1.get ex
   refine ⟨⟨us,u,s1,eu⟩,fun z H3 ⟨p,u',e1,hp,e3,w1⟩=>?_⟩
   have:=w1 us s1;rw [eu] at this;cases this
   subst e1 e3
   refine ⟨Zoa hp,Zfp hp (DenL.cons ?_ (DenL.cons du DenL.nil))⟩
   simp [Den]
 ·have l1:=h1.length
  rw [Zjh] at he
  omega
section
variable {X:Cx} {M:Fb} {H0:Hp} {f:VE→Option D} {a:Expr} {elts:List Expr} {p pos tpos:Pos}
theorem Zqt {x1} (hg:Gl X "enumerate") (hm:X.mg "enumerate"=none) (ha:PE X a (tQ X.K M H0 f)) (hs:starEach [a] X.env=[(false,eval a X.env)]:=by rfl) (hs3:starEach [] X.env=[]:=by rfl) :
  PI X (.Tuple elts x1 tpos) (.Call (.Name "enumerate" p) [a] [] pos) (tI X.K M H0 (ZjA f)):=by
 intro pins s σ H Q I ⟨ρ,ds,R,e,q⟩
 unfold ZjA at e
 split at e
 ·next xs ex =>
  cases e
  cases hf:f ρ with
  | none=>rw [hf] at ex;cases ex
  | some d1 =>
   rw [hf] at ex
   have PA2:=Zdb ha pa_nil (by rw [hs,hs3])
   refine Call_ (Zex I hg hm Zmu (PyProof.Rows.callWith_type1 (thn (PA2 pos pins s σ H (fun vs H2=>∃ S us,vs=[.ref (Src.ad S)]∧Same H H2∧DenL X.K (Nf M ρ σ) H2 xs us∧(∀ N2 H3,Step M (Nf M ρ σ) N2 H2 H3→S.sq X.K H3 us)) I ?_) fun us s1 ⟨vs,H1,I1,r1,q1⟩=>?_) hs rfl))
   ·refine ⟨ρ,d1,R,hf,fun v1 H1 z1 q1=>?_⟩
    obtain ⟨S,us,e1,dl1,k1⟩:=q1.src ex
    exact ⟨S,us,by rw [e1],z1,dl1,k1⟩
   ·obtain ⟨S,us',e1,z,dl1,k1⟩:=q1
    subst e1
    cases r1 with
    | cons r rr =>
     cases rr
     cases r
     obtain ⟨its,v1,o1,_⟩:=S.of I1 (k1 _ _ Step.refl)
     refine Znv o1 fun h' a1 a4 kp=>wpAny_pyIter_enum a1 ?_
     refine ⟨_,_,_,_,H1,rfl,I1.kept (t':=s1.toks) kp,Znb S s1.heap.objs.size (S.lt o1),⟨⟨_,a1⟩,a4⟩,fun b hb=>?_,q _ _ z (Zpx dl1 k1)⟩
     have hl:s1.heap.objs.size≤b:=by
      simp only [List.mem_cons,List.not_mem_nil,or_false] at hb
      rcases hb with rfl | rfl<;>(show @LE.le Nat _ _ _;omega)
     exact I1.fpOk hl (I1.hok.fresh hl)
 ·cases e
theorem Zng {x1} (hg:Gl X "enumerate") (hm:X.mg "enumerate"=none) (ha:JE X a (tQ X.K M H0 f)) (hs:starEach [a] X.env=[(false,eval a X.env)]:=by rfl) (hs3:starEach [] X.env=[]:=by rfl) :
  JI X (.Tuple elts x1 tpos) (.Call (.Name "enumerate" p) [a] [] pos) (tI X.K M H0 (ZjA f)):=⟨Zqt hg hm ha.h hs hs3⟩
end
end L2
set_option Elab.async false
set_option linter.all false
set_option maxRecDepth 100000
namespace L2
open PySem PySem.Spec PyProof.Rows
abbrev T3:=KT×V×V
def Zbk:List T3→List V
 | []=>[]
 | t::r=>t.2.1::t.2.2::Zbk r
def ZaZ:List T3→KT→Option V
 | [],_=>none
 | t::r,k=>if t.1=k then some t.2.2 else ZaZ r k
def ZdM:List T3→KT→V→List T3
 | [],_,_=>[]
 | t::r,k,v=>(if t.1=k then (t.1,t.2.1,v) else t)::ZdM r k v
def Zcl (tr:List T3) (k:KT) (kv v:V):List T3:=if (ZaZ tr k).isSome=true then ZdM tr k v else tr++[(k,kv,v)]
theorem ZjN (k:KT) (v:V):∀ tr:List T3,(ZdM tr k v).map (·.1)=tr.map (·.1)
 | []=>rfl
 | t::r=>by
  simp only [ZdM,List.map_cons,ZjN k v r]
  split<;>rfl
theorem Zjf {k:KT}:∀ {tr:List T3},ZaZ tr k=none→k∉tr.map (·.1)
 | [],_=>by simp
 | t::r,h=>by
  unfold ZaZ at h
  split at h
  ·cases h
  ·next e =>
   simp only [List.map_cons,List.mem_cons,not_or]
   exact ⟨fun z=>e z.symm,Zjf h⟩
theorem Zd2 {tr:List T3} {k:KT} {kv v:V} (h:(tr.map (·.1)).Nodup):((Zcl tr k kv v).map (·.1)).Nodup:=by
 unfold Zcl
 split
 ·rw [ZjN];exact h
 ·next e =>
  rw [List.map_append,List.nodup_append]
  refine ⟨h,by simp,fun a ha b hb=>?_⟩
  have hn:ZaZ tr k=none:=by
   cases hv:ZaZ tr k with
   | none=>rfl
   | some x=>rw [hv] at e;exact absurd rfl e
  simp only [List.map_cons,List.map_nil,List.mem_singleton] at hb
  subst hb
  rintro rfl
  exact Zjf hn ha
theorem ZjL (k:KT) (v:V):∀ tr:List T3,(ZdM tr k v).length=tr.length
 | []=>rfl
 | t::r=>by simp [ZdM,ZjL k v r]
theorem ZkN (tr:List T3) (k:KT) (kv v:V):(Zcl tr k kv v).length≤tr.length+1:=by
 unfold Zcl
 split
 ·rw [ZjL];omega
 ·simp
theorem Zet {a:At} {u:Value} (h:RelV (atV a) u):ZgG a u=true:=by
 cases a with
 | non=>cases h;rfl
 | int i=>obtain ⟨t,rfl⟩:=h;exact Zok i t
 | str x=>obtain ⟨t,rfl⟩:=h;exact ZnL x t
theorem Zsx {a:At} {u:Value} (h:ZgG a u=true):RelV (atV a) u:=by
 rcases Zbh h with ⟨rfl,rfl⟩ | ⟨i,t,rfl,rfl⟩ | ⟨x,t,rfl,rfl⟩
 ·rfl
 ·exact ⟨t,rfl⟩
 ·exact ⟨t,rfl⟩
abbrev RA:List T3→List (At×Value)→Prop:=Paired fun t u=>t.1=.at u.1∧t.2.1=atV u.1∧RelV t.2.2 u.2
theorem Zjj {P:Program} {w:World}:∀ {tr:List T3} {es:List DictEntry},Zg5 w (tr.map (·.1)) (Zbk tr) es→(∀ t∈tr,∃ a,t.1=KT.at a) →
  ∃ us,RA tr us∧Pairs (Z4 P w) es us∧∀ e∈es,∃ k,(Z4 P w).is k e.key=true∧e.hash=(Z4 P w).hash k
 | [],es,h,_=>by
  obtain ⟨_,rfl⟩:=h
  exact ⟨[],.nil,.nil,fun _ z=>nomatch z⟩
 | t::r,es,h,ha=>by
  obtain ⟨kv,v,q,e,es',e1,e2,h1,h2,h3,h4,h5⟩:=h
  obtain ⟨a,ea⟩:=ha t List.mem_cons_self
  simp only [Zbk,List.cons.injEq] at e1
  obtain ⟨e1,e1',e1''⟩:=e1
  subst e1 e1' e2 e1''
  dsimp only at h3 h4
  rw [ea] at h3 h4
  obtain ⟨us,r1,r2,r3⟩:=Zjj (P:=P) h5 fun t ht=>ha t (List.mem_cons_of_mem _ ht)
  have h4:t.2.1=atV a:=h4
  rw [h4] at h1
  refine ⟨(a,e.val)::us,.cons ⟨ea,h4,h2⟩ r1,.cons (Zet h1) rfl r2,fun e' he=>?_⟩
  rcases List.mem_cons.mp he with rfl | he
  ·exact ⟨a,Zet h1,h3⟩
  ·exact r3 e' he
theorem Zjd {P:Program} {w:World}:∀ {tr:List T3} {us:List (At×Value)} {es:List DictEntry},RA tr us→Pairs (Z4 P w) es us→(∀ e∈es,∃ k,(Z4 P w).is k e.key=true∧e.hash=(Z4 P w).hash k) →
  Zg5 w (tr.map (·.1)) (Zbk tr) es
 | _,_,_,.nil,.nil,_=>⟨rfl,rfl⟩
 | t::r,(a,u)::us,e::es,.cons ⟨h1,h2,h3⟩ hr,.cons p1 p2 pr,hk=>by
  refine ⟨t.2.1,t.2.2,Zbk r,e,es,rfl,rfl,?_,?_,?_,?_,Zjd hr pr fun e he=>hk e (List.mem_cons_of_mem _ he)⟩
  ·rw [h2];exact Zsx p1
  ·rw [p2];exact h3
  ·obtain ⟨k,q1,q2⟩:=hk e List.mem_cons_self
   have:k=a:=(Z4 P w).inj _ _ _ q1 p1
   subst this
   dsimp only;rw [h1];exact q2
  ·dsimp only;rw [h1];exact h2
theorem RA.val:∀ {tr:List T3} {us:List (At×Value)},RA tr us→∀ a,RelO (ZaZ tr (.at a)) (valueAt us a)
 | _,_,.nil,_=>True.intro
 | t::r,u::us,.cons ⟨h1,h2,h3⟩ hr,a=>by
  have ih:=RA.val hr a
  unfold ZaZ valueAt
  rw [h1,List.find?_cons]
  by_cases e:u.1=a
  ·rw [if_pos (by rw [e])];simp only [e,decide_true];exact h3
  ·rw [if_neg (fun z=>e (KT.at.inj z))];simp only [e,decide_false];exact ih
theorem RelO.isS:∀ {o:Option V} {u:Option Value},RelO o u→o.isSome=u.isSome
 | some _,some _,_=>rfl
 | none,none,_=>rfl
 | some _,none,h=>h.elim
 | none,some _,h=>h.elim
theorem RA.rep {a:At} {v:V} {u:Value} (rv:RelV v u):∀ {tr:List T3} {us:List (At×Value)},RA tr us→RA (ZdM tr (.at a) v) (us.map fun kv=>if kv.1=a then (kv.1,u) else kv)
 | _,_,.nil=>.nil
 | t::r,w::us,.cons ⟨h1,h2,h3⟩ hr=>by
  have ih:=RA.rep (a:=a) rv hr
  unfold ZdM
  rw [List.map_cons]
  refine .cons ?_ ih
  by_cases e:w.1=a
  ·rw [if_pos (by rw [h1,e]),if_pos e];exact ⟨h1,h2,rv⟩
  ·rw [if_neg (fun z=>e (KT.at.inj (h1.symm.trans z))),if_neg e];exact ⟨h1,h2,h3⟩
theorem Paired.snoc' {α β:Type} {F:α→β→Prop} {x:α} {y:β} (h:F x y):∀ {l:List α} {m:List β},Paired F l m→Paired F (l++[x]) (m++[y])
 | _,_,.nil=>.cons h .nil
 | _,_,.cons r t=>.cons r (Paired.snoc' h t)
theorem Zqj {us:List (At×Value)} {a:At}:(us.any fun kv=>decide (kv.1=a))=(valueAt us a).isSome:=by
 unfold valueAt
 rw [Option.isSome_map]
 induction us with
 | nil=>rfl
 | cons x r ih =>
  rw [List.any_cons,List.find?_cons]
  cases decide (x.1=a) with
  | true=>rfl
  | false=>simpa using ih
theorem RA.put {tr:List T3} {us:List (At×Value)} {a:At} {v:V} {u:Value} (h:RA tr us) (rv:RelV v u):RA (Zcl tr (.at a) (atV a) v) (stored us a u):=by
 unfold Zcl stored
 rw [Zqj,(h.val a).isS]
 by_cases e:(valueAt us a).isSome=true
 ·rw [if_pos e,if_pos e];exact h.rep rv
 ·rw [if_neg e,if_neg e];exact Paired.snoc' ⟨rfl,rfl,rv⟩ h
theorem RA.fst:∀ {tr:List T3} {us:List (At×Value)},RA tr us→tr.map (·.1)=(us.map (·.1)).map KT.at
 | _,_,.nil=>rfl
 | t::r,u::us,.cons ⟨h1,_,_⟩ hr=>by rw [List.map_cons,List.map_cons,List.map_cons,h1,RA.fst hr]
abbrev RT:List T3→List (List At×Addr×Value)→Prop:=Paired fun t u=>t.1=.tup u.1∧t.2.1=.ref u.2.1∧RelV t.2.2 u.2.2
theorem ZkG {P:Program} {w:World}:∀ {tr:List T3} {es:List DictEntry},Zg5 w (tr.map (·.1)) (Zbk tr) es→(∀ t∈tr,∃ l,t.1=KT.tup l) →
  ∃ us,RT tr us∧es=us.map (entryOfKey (tupleKind (Z4 P w)))
 | [],es,h,_=>by
  obtain ⟨_,rfl⟩:=h
  exact ⟨[],.nil,rfl⟩
 | t::r,es,h,ha=>by
  obtain ⟨kv,v,q,e,es',e1,e2,h1,h2,h3,h4,h5⟩:=h
  obtain ⟨l,el⟩:=ha t List.mem_cons_self
  simp only [Zbk,List.cons.injEq] at e1
  obtain ⟨e1,e1',e1''⟩:=e1
  subst e1 e1' e2 e1''
  dsimp only at h3 h4
  rw [el] at h3 h4
  obtain ⟨us,r1,r2⟩:=ZkG (P:=P) h5 fun t ht=>ha t (List.mem_cons_of_mem _ ht)
  obtain ⟨p,ep⟩:=(h4:∃ p,t.2.1=.ref p)
  rw [ep] at h1
  obtain ⟨hh,hk,hv⟩:=e
  cases (h1:hk=Value.ref p)
  refine ⟨(l,p,hv)::us,.cons ⟨el,ep,h2⟩ r1,?_⟩
  rw [List.map_cons,← r2]
  have:hh=(KT.tup l).hash w:=h3
  rw [this];rfl
theorem ZkE {P:Program} {w:World}:∀ {tr:List T3} {us:List (List At×Addr×Value)},RT tr us→Zg5 w (tr.map (·.1)) (Zbk tr) (us.map (entryOfKey (tupleKind (Z4 P w))))
 | _,_,.nil=>⟨rfl,rfl⟩
 | t::r,u::us,.cons ⟨h1,h2,h3⟩ hr=>by
  refine ⟨t.2.1,t.2.2,Zbk r,_,_,rfl,rfl,?_,h3,?_,?_,ZkE hr⟩
  ·rw [h2];rfl
  ·dsimp only;rw [h1];rfl
  ·dsimp only;rw [h1];exact ⟨_,h2⟩
theorem RT.val:∀ {tr:List T3} {us:List (List At×Addr×Value)},RT tr us→∀ l,RelO (ZaZ tr (.tup l)) ((atKey us l).map (·.2))
 | _,_,.nil,_=>True.intro
 | t::r,u::us,.cons ⟨h1,h2,h3⟩ hr,l=>by
  have ih:=RT.val hr l
  unfold ZaZ atKey
  rw [h1,List.find?_cons]
  by_cases e:u.1=l
  ·rw [if_pos (by rw [e])];simp only [e,decide_true];exact h3
  ·rw [if_neg (fun z=>e (KT.tup.inj z))];simp only [e,decide_false];exact ih
theorem RT.rep {l:List At} {v:V} {u:Value} (rv:RelV v u):∀ {tr:List T3} {us:List (List At×Addr×Value)},RT tr us→RT (ZdM tr (.tup l) v) (us.map (putAt l u))
 | _,_,.nil=>.nil
 | t::r,w::us,.cons ⟨h1,h2,h3⟩ hr=>by
  have ih:=RT.rep (l:=l) rv hr
  unfold ZdM
  rw [List.map_cons]
  refine .cons ?_ ih
  unfold putAt
  by_cases e:w.1=l
  ·rw [if_pos (by rw [h1,e]),if_pos e];exact ⟨h1,h2,rv⟩
  ·rw [if_neg (fun z=>e (KT.tup.inj (h1.symm.trans z))),if_neg e];exact ⟨h1,h2,h3⟩
theorem RT.put {tr:List T3} {us:List (List At×Addr×Value)} {l:List At} {p:Addr} {v:V} {u:Value} (h:RT tr us) (rv:RelV v u):RT (Zcl tr (.tup l) (.ref p) v) (storedH us l p u):=by
 unfold Zcl storedH
 have e0:=(h.val l).isS
 rw [Option.isSome_map] at e0
 rw [e0]
 by_cases e:(atKey us l).isSome=true
 ·rw [if_pos e,if_pos e];exact h.rep rv
 ·rw [if_neg e,if_neg e];exact Paired.snoc' ⟨rfl,rfl,rv⟩ h
theorem RT.fst:∀ {tr:List T3} {us:List (List At×Addr×Value)},RT tr us→tr.map (·.1)=(us.map (·.1)).map KT.tup
 | _,_,.nil=>rfl
 | t::r,u::us,.cons ⟨h1,_,_⟩ hr=>by rw [List.map_cons,List.map_cons,List.map_cons,h1,RT.fst hr]
theorem Zgu {α β:Type} {f:α→β} (hf:∀ a b,f a=f b→a=b):∀ {l:List α},(l.map f).Nodup→l.Nodup
 | [],_=>List.nodup_nil
 | a::l,h=>by
  rw [List.map_cons,List.nodup_cons] at h
  rw [List.nodup_cons]
  exact ⟨fun z=>h.1 (List.mem_map.mpr ⟨a,z,rfl⟩),Zgu hf h.2⟩
def Zdg (K:PySem.W.Frag) (H:Hp):KT→V→Prop
 | .at a,v=>v=atV a
 | .tup l,v=>∃ p,v=.ref p∧SqT K H p (l.map atV)
theorem ZjR {P:Program} {w:World}:∀ {ks:List At} {us:List Value},Vals (ks.map atV) us→ItemsAre (Z4 P w) ks us
 | [],_,r=>by rw [List.map_nil] at r;cases r;exact .nil
 | k::ks,_,r=>by
  rw [List.map_cons] at r
  cases r with
  | cons h t=>exact .cons (Zet h) (ZjR t)
def ZgS:KT→List T3→Prop
 | .at _,tr=>∀ t∈tr,∃ a,t.1=KT.at a
 | .tup _,tr=>∀ t∈tr,∃ l,t.1=KT.tup l
def IsDc (K:PySem.W.Frag) (H:Hp) (a:Addr) (tr:List T3):Prop:=Rd H a (.dct (tr.map (·.1)) (Zbk tr))∧∀ t∈tr,Zdg K H t.1 t.2.1
section
variable {X:Cx} {pins:List (Addr×Obj)} {σ:St} {H:Hp} {s:Shared} {a p:Addr} {y v:V} {u r:Value} {o:Option V} {A:Around} {E:Value→Shared→Prop} {tr:List T3} {k:KT}
theorem Zfk {l:List At} (I:Inv X pins σ H s) (h:SqT X.K H p (l.map atV)):(tupleKind (Z4 X.prog X.w)).is s.heap l p:=by
 obtain ⟨its,r,⟨o,h1,h2,n,h3⟩,_⟩:=I.tuple h
 exact ⟨o,its.toArray,n,h1,h2,h3,by simpa using ZjR r⟩
theorem Zh0 (I:Inv X pins σ H s) (h:IsDc X.K H a tr) (hk:∀ t∈tr,∃ a,t.1=KT.at a):tr.length≤sizeLine∧(a==sysModules)=false∧(tr.map (·.1)).Nodup∧∃ us,RA tr us∧s.heap.DictOf (Z4 X.prog X.w) a us:=by
 obtain ⟨z,hs,nd,o,es,ep,e1,e2,e3,e4⟩:=h.1.ok I.hok
 obtain ⟨us,r1,r2,r3⟩:=Zjj (P:=X.prog) e4 hk
 refine ⟨by simpa using z,hs,nd,us,r1,o,es,ep,e1,e2,e3,fun e he=>r3 e (by simpa using he),r2,?_⟩
 rw [r1.fst] at nd
 exact Zgu (fun _ _ z=>KT.at.inj z) nd
theorem ZgZ (I:Inv X pins σ H s) (h:IsDc X.K H a tr) (hk:∀ t∈tr,∃ l,t.1=KT.tup l):tr.length≤sizeLine∧(a==sysModules)=false∧(tr.map (·.1)).Nodup∧∃ us,RT tr us∧s.heap.DictOfH (tupleKind (Z4 X.prog X.w)) a us:=by
 obtain ⟨z,hs,nd,o,es,ep,e1,e2,e3,e4⟩:=h.1.ok I.hok
 obtain ⟨us,r1,r2⟩:=ZkG (P:=X.prog) e4 hk
 have nd':=nd
 rw [r1.fst] at nd'
 refine ⟨by simpa using z,hs,nd,us,r1,o,es,ep,e1,e2,e3,r2,fun x hx=>?_,Zgu (fun _ _ z=>KT.tup.inj z) nd'⟩
 have all:∀ {l:List T3} {m:List (List At×Addr×Value)},RT l m→(∀ t∈l,Zdg X.K H t.1 t.2.1)→∀ x∈m,(tupleKind (Z4 X.prog X.w)).is s.heap x.1 x.2.1:=by
  intro l m q
  induction q with
  | nil=>intro _ x hx;exact nomatch hx
  | @cons t u ts us hq tl ih =>
   intro hl x hx
   rcases List.mem_cons.mp hx with e | hx
   ·subst e
    have:=hl t List.mem_cons_self
    rw [hq.1,hq.2.1] at this
    obtain ⟨p,ep,sq⟩:=this
    cases ep
    exact Zfk I sq
   ·exact ih (fun t ht=>hl t (List.mem_cons_of_mem _ ht)) x hx
 exact all r1 h.2 x hx
theorem RelO.to:∀ {v:V} {o:Option Value},RelO (some v) o→∃ w,o=some w∧RelV v w
 | _,some w,h=>⟨w,rfl,h⟩
 | _,none,h=>h.elim
theorem Zl7 {Q:Value→Shared→Prop} (hu:A.units+1<cLine) (I:Inv X pins σ H s) (h:IsDc X.K H a tr) (hk:ZgS k tr) (ky:Zdg X.K H k y) (ry:RelV y u) (hv:ZaZ tr k=some v) (q:∀ w' s',Inv X pins σ H s'→RelV v w'→Q w' s') :
  wpAny (model X.prog X.w) A (getItem (.ref a) u) Q E s:=by
 cases k with
 | «at» b =>
  cases ky
  obtain ⟨z,hd,nd,us,rel,dd⟩:=Zh0 I h hk
  have h1:=rel.val b
  rw [hv] at h1
  obtain ⟨w',hw,rw'⟩:=h1.to
  exact wpAny_getItem_of (knd:=Z4 X.prog X.w) (Zet ry) dd.mapOf hw (q w' _ (I.tok _) rw')
 | tup l =>
  obtain ⟨p,ep,sq⟩:=ky
  subst ep
  cases (show u=Value.ref p from ry)
  obtain ⟨z,hd,nd,us,rel,dd⟩:=ZgZ I h hk
  have h1:=rel.val l
  rw [hv] at h1
  obtain ⟨w',hw,rw'⟩:=h1.to
  obtain ⟨p',hp,hp2⟩:=Option.map_eq_some_iff.mp hw
  refine wpAny_getItem_heap (tupleKind_room_in1 hu) (Zfk I sq) dd hp ?_
  rw [hp2]
  exact q w' _ (I.tok _) rw'
theorem Zs9 {Q:Value→Shared→Prop} (hu:A.units+1<cLine) (I:Inv X pins σ H s) (h:IsDc X.K H a tr) (hk:ZgS k tr) (ky:Zdg X.K H k y) (ry:RelV y u) (q:∀ s',Inv X pins σ H s'→Q (.bool (ZaZ tr k).isSome) s') :
  wpAny (model X.prog X.w) A (compareOp .In u (.ref a)) Q E s:=by
 cases k with
 | «at» b =>
  cases ky
  obtain ⟨z,hd,nd,us,rel,dd⟩:=Zh0 I h hk
  refine wpAny_in_of (knd:=Z4 X.prog X.w) (Zet ry) hd dd.mapOf ?_
  rw [← (rel.val b).isS]
  exact q _ (I.tok _)
 | tup l =>
  obtain ⟨p,ep,sq⟩:=ky
  subst ep
  cases (show u=Value.ref p from ry)
  obtain ⟨z,hd,nd,us,rel,dd⟩:=ZgZ I h hk
  refine wpAny_in_heap (tupleKind_room_in1 hu) (Zfk I sq) hd dd ?_
  have e0:=(rel.val l).isS
  rw [Option.isSome_map] at e0
  rw [← e0]
  exact q _ (I.tok _)
theorem ZfL {h':Heap} {t':Nat} {ob:HO} (I:Inv X pins σ H s) (mu:Mut (H a)) (hs:Heap.SameBut a s.heap h') (he:∃ q,h'.get? a=some q) (new:ObjOk X.prog X.w (upd H a ob) h' a ob) :
  Inv X pins σ (upd H a ob) { s with heap:=h',toks:=t' } :=
 I.write (x:=a) (e:=a) mu (.inl rfl) (fun b q hb z=>(hs.2 b hb).trans z) he new
def dcO (tr:List T3):HO:=.dct (tr.map (·.1)) (Zbk tr)
theorem ZnA {P:Program} {w:World} {H':Hp} {h':Heap} {us:List (At×Value)} (z:tr.length≤sizeLine) (hd:(a==sysModules)=false) (nd:(tr.map (·.1)).Nodup) (rel:RA tr us) (dd:h'.DictOf (Z4 P w) a us):ObjOk P w H' h' a (dcO tr):=by
 obtain ⟨o,es,ep,e1,e2,e3,e4,e5,e6⟩:=dd
 exact ⟨by simpa using z,hd,nd,o,es,ep,e1,e2,e3,Zjd rel e5 fun e he=>e4 e (by simpa using he)⟩
theorem ZlH {P:Program} {w:World} {H':Hp} {h':Heap} {us:List (List At×Addr×Value)} (z:tr.length≤sizeLine) (hd:(a==sysModules)=false) (nd:(tr.map (·.1)).Nodup) (rel:RT tr us) (dd:h'.DictOfH (tupleKind (Z4 P w)) a us):ObjOk P w H' h' a (dcO tr):=by
 obtain ⟨o,es,ep,e1,e2,e3,e4,e5,e6⟩:=dd
 refine ⟨by simpa using z,hd,nd,o,es,ep,e1,e2,e3,?_⟩
 rw [e4]
 exact ZkE rel
theorem Zmy {Q:Unit→Shared→Prop} (hu:A.units+1<cLine) (I:Inv X pins σ H s) (e:H a=some (dcO tr)) (hkeys:∀ t∈tr,Zdg X.K H t.1 t.2.1) (hk:ZgS k tr) (ky:Zdg X.K H k y) (ry:RelV y u) (rv:RelV v r) (hl:tr.length<sizeLine)
  (q:∀ s',Inv X pins σ (upd H a (dcO (Zcl tr k y v))) s'→Q () s'):wpAny (model X.prog X.w) A (setItem (.ref a) u r) Q E s:=by
 have h:IsDc X.K H a tr:=⟨.inl e,hkeys⟩
 have hl':(Zcl tr k y v).length≤sizeLine:=by have:=ZkN tr k y v;omega
 cases k with
 | «at» b =>
  cases ky
  obtain ⟨z,hd,nd,us,rel,dd⟩:=Zh0 I h hk
  have hz:us.length≤sizeLine:=by rw [← Paired.length rel];exact z
  refine wpAny_setItem_pairs (knd:=Z4 X.prog X.w) (hsz:=hz) (Zet ry) dd fun h' dd' hs=>q _ ?_
  have he:∃ q,h'.get? a=some q:=let ⟨q,_,_,hq,_⟩:=dd';⟨q,hq⟩
  exact ZfL I (by rw [e];exact True.intro) hs he (ZnA hl' hd (Zd2 nd) (rel.put rv) dd')
 | tup l =>
  obtain ⟨p,ep,sq⟩:=ky
  subst ep
  cases (show u=Value.ref p from ry)
  obtain ⟨z,hd,nd,us,rel,dd⟩:=ZgZ I h hk
  have hz:us.length≤sizeLine:=by rw [← Paired.length rel];exact z
  refine wpAny_setItem_heap (hsz:=hz) (tupleKind_room_in1 hu) (Zfk I sq) dd fun h' dd' hs=>q _ ?_
  have he:∃ q,h'.get? a=some q:=let ⟨q,_,_,hq,_⟩:=dd';⟨q,hq⟩
  exact ZfL I (by rw [e];exact True.intro) hs he (ZlH hl' hd (Zd2 nd) (rel.put rv) dd')
end
end L2
set_option Elab.async false
set_option linter.all false
set_option maxRecDepth 100000
namespace PySem
section
variable {prog:Program} {w:World} {K:Type} [DecidableEq K] {knd:HeapKind prog w K} {A:Around} {E:Value→Shared→Prop} {s:Shared}
theorem ZgP {d a:Addr} {xs:List (K×Addr×Value)} {k:K} {v:Value} {Q:Value→Shared→Prop} (hu:knd.room A) (hkey:knd.is s.heap k a) (hm:s.heap.DictOfH knd d xs) (hsz:xs.length≤sizeLine)
  (h1:∀ p,atKey xs k=some p→Q p.2 { s with toks:=s.toks+knd.draws k })
  (h2:atKey xs k=none→∀ h',h'.DictOfH knd d (storedH xs k a v)→Heap.SameBut d s.heap h'→Q v { s with heap:=h',toks:=s.toks+knd.draws k }) :
  wpAny (model prog w) A (dictSetDefault d (.ref a) v) Q E s:=by
 obtain ⟨o,es,ep,ho,hc,hd,he,his,hn⟩:=hm
 unfold dictSetDefault
 try with_reducible refine wpAny_holding ?_
 refine wpAny_bind (knd.pyHash hu hkey ?_)
 refine wpAny_bind (wpAny_dictFind_heap (s:={ s with toks:=s.toks+knd.draws k }) hu hkey ho hd he his hn ?_ ?_)
 ·intro hno
  have hnot:k∉xs.map (·.1):=not_mem_keys_of_get hno
  refine wpAny_bind (wpAny_rule (wpAny_bind (wpAny_updateDictKeys (hz:=by have e:=size_of_entries he;omega) (s:={ s with toks:=s.toks+knd.draws k }) ho hd (wpAny_pure (h2 (atKey_none_of_get hno) _ ⟨_,_,ep+1,Heap.get?_update_self _ ho (Obj.isFreed_of_dict (Obj.data_mapDictKeys hd _)),
   hc.mapDictKeys _,Obj.data_mapDictKeys hd _,?_,?_,?_⟩ (Heap.SameBut.update ..))))))
  ·rw [storedH_new (atKey_none_of_get hno)]
   simp [he,entryOfKey]
  ·rw [storedH_new (atKey_none_of_get hno)]
   intro x hx
   rcases List.mem_append.mp hx with hx | hx
   ·exact knd.keeps (his x hx) ho hd (Heap.SameBut.update ..)
   ·simp only [List.mem_singleton] at hx
    subst hx
    exact knd.keeps hkey ho hd (Heap.SameBut.update ..)
  ·rw [storedH_new (atKey_none_of_get hno)]
   rw [List.map_append,List.nodup_append]
   refine ⟨hn,by simp,?_⟩
   intro x hx y hy
   simp only [List.map_cons,List.map_nil,List.mem_singleton] at hy
   subst hy
   exact fun e=>hnot (e ▸ hx)
 ·intro j p hj
  refine wpAny_bind (wpAny_dictEntries (s:={ s with toks:=s.toks+knd.draws k }) ho hd ?_)
  rw [entry_at he j,hj]
  exact wpAny_bind (wpAny_rule (wpAny_pure (h1 p (atKey_of_get hn hj))))
theorem Zgi {k:K} {a:Addr} (d:Addr) (hd:(d==sysModules)=false) (dflt:Value) :
  MeetsIn prog w (Builtin.«dict.setdefault» ⟨[.ref d,.ref a,dflt],[]⟩) (fun A R s=>knd.room A.in1∧∃ xs,knd.is s.heap k a∧s.heap.DictOfH knd d xs∧xs.length≤sizeLine ∧
   (∀ p,atKey xs k=some p→R (.ok (.ret p.2)) { s with toks:=s.toks+knd.draws k }) ∧
   (atKey xs k=none→∀ h',h'.DictOfH knd d (storedH xs k a dflt)→Heap.SameBut d s.heap h'→R (.ok (.ret dflt)) { s with heap:=h',toks:=s.toks+knd.draws k })) :=
 .of_wp fun A R s ⟨hu,xs,hkey,hm,hz,h1,h2⟩=>by
  unfold Builtin.«dict.setdefault»
  refine wpAny_bind ?_
  unfold Builtin.Dict.keyAndDefault
  refine wpAny_bind (wpAny_notOrdered_dict hm.typeIs ?_)
  show wpAny _ _ (pure (d,Value.ref a,some dflt)) _ _ s
  refine wpAny_pure ?_
  show wpAny _ _ (if (d==sysModules)=true then _ else (dictSetDefault d (.ref a) dflt >>= _)) _ _ s
  rw [if_neg (by rw [hd];exact Bool.false_ne_true)]
  exact wpAny_bind (ZgP hu hkey hm hz (fun p hp=>wpAny_pure ⟨p.2,rfl,h1 p hp⟩) fun hn h' hm' hs'=>wpAny_pure ⟨dflt,rfl,h2 hn h' hm' hs'⟩)
end
end PySem
namespace L2
open PySem PySem.Spec PyProof.Rows
def Ztd (K:PySem.W.Frag):R2:=fun x y H Q=>∃ a tr k v,x=.ref a∧IsDc K H a tr∧ZgS k tr∧Zdg K H k y∧ZaZ tr k=some v∧Q v H
def Zo5 (K:PySem.W.Frag) (neg:Bool):R2:=fun x y H Q=>∃ a tr k,y=.ref a∧IsDc K H a tr∧ZgS k tr∧Zdg K H k x∧Q (.bl (neg != (ZaZ tr k).isSome)) H
def ZrZ (K:PySem.W.Frag):Zl2:=fun o i v H Q=>∃ a tr k,o=.ref a∧H a=some (dcO tr)∧(∀ t∈tr,Zdg K H t.1 t.2.1)∧ZgS k tr∧Zdg K H k i∧tr.length<sizeLine∧Q (upd H a (dcO (Zcl tr k i v)))
def ZuJ (K:PySem.W.Frag):V→List V→Hp→VK→Prop:=fun x xs H Q=>∃ a tr k y z,x=.ref a∧xs=[y,z]∧H a=some (dcO tr)∧(∀ t∈tr,Zdg K H t.1 t.2.1)∧ZgS k tr∧Zdg K H k y∧tr.length<sizeLine ∧
 (∀ v,ZaZ tr k=some v→Q v H)∧(ZaZ tr k=none→Q z (upd H a (dcO (Zcl tr k y z))))
theorem IsDc.typeIs {X:Cx} {pins:List (Addr×Obj)} {σ:St} {H:Hp} {s:Shared} {a:Addr} {tr:List T3} (I:Inv X pins σ H s) (h:IsDc X.K H a tr):s.TypeIs (.ref a) "dict":=by
 obtain ⟨_,_,_,o,_,_,e,c,_⟩:=h.1.ok I.hok
 exact ⟨o,e,c.1⟩
section
variable {X:Cx}
theorem Zvf (hu:X.A.units+64<cLine):IxR X (Ztd X.K):=by
 intro value slice pins s σ H x y v u Q I rx ry h hs
 obtain ⟨a,tr,k,z,rfl,hd,hk,ky,hv,q⟩:=h
 cases rx
 have hT:=hd.typeIs I
 unfold subscriptTail
 refine wpAny_bind ?_
 rw [getitemInPython_of_ne hT.not_modules]
 refine wpAny_bind (wpAny_specialOf hT PySem.F.slot_dict_getitem.lookup ?_)
 have fin:wpAny (model X.prog X.w) X.A (subscripted slice false (.ref a) u) (fun r s₃=>wpAny (model X.prog X.w) X.A (letTemporaryGo value (.ref a) r >>= fun _=>pure r) (EP X pins σ Q) X.xe s₃) X.xe s:=by
  rw [hs]
  exact wpAny_operating (Zl7 (by omega) I hd hk ky ry hv fun w' s' I' rw'=>wpAny_bind (wpAny_letTemporaryGo (wpAny_pure ⟨z,H,I',rw',q⟩)))
 first
  | exact wpAny_pure (wpAny_bind fin)
  | exact wpAny_bind (wpAny_pure (wpAny_bind fin))
  | exact wpAny_bind fin
theorem Zqn (hu:X.A.units+64<cLine):OpR X (compareOp .In) (Zo5 X.K false):=by
 intro pins s σ H x y v u Q I rx ry h
 obtain ⟨a,tr,k,rfl,hd,hk,ky,q⟩:=h
 cases ry
 exact Zs9 (by omega) I hd hk ky rx fun s' I'=>⟨.bl (ZaZ tr k).isSome,H,I',rfl,by simpa using q⟩
theorem ZpP (hu:X.A.units+64<cLine):ZqW X (ZrZ X.K):=by
 intro pins s σ H o i v ov iv u Q I ro ri rv h
 obtain ⟨a,tr,k,rfl,e,hks,hk,ky,hl,q⟩:=h
 cases ro
 exact Zmy (by omega) I e hks hk ky ri rv hl fun s' I'=>⟨_,I',q⟩
theorem Zjy (hu:X.A.units+64<cLine):MtR X "dict.setdefault" (ZuJ X.K):=by
 intro pins s σ H x xs v us Q I rx rs h
 obtain ⟨a,tr,k,y,z,rfl,rfl,e,hks,hk,ky,hl,q1,q2⟩:=h
 cases rx
 obtain ⟨u1,u2,rfl,ry,rz⟩:=rs.two
 have hd:IsDc X.K H a tr:=⟨.inl e,hks⟩
 have hl':(Zcl tr k y z).length≤sizeLine:=by have:=ZkN tr k y z;omega
 cases k with
 | «at» b =>
  cases ky
  obtain ⟨zz,hs,nd,us,rel,dd⟩:=Zh0 I hd hk
  have hz:us.length≤sizeLine:=by rw [← Paired.length rel];exact zz
  have h1:=rel.val b
  refine call_meetsIn PySem.F.slot_dict_setdefault dd.typeIs PySem.F.entry_dict_setdefault (PySem.F.args_dict_setdefault_3 _ _ _) (kt_meets_setdefault (Z4 X.prog X.w) a (Zet ry) hs u2)
   ⟨us,dd,hz,fun v' hv'=>?_,fun hn h' dd' hs'=>?_⟩
  ·rw [hv'] at h1
   cases hv:ZaZ tr (.at b) with
   | none=>rw [hv] at h1;exact h1.elim
   | some w=>rw [hv] at h1;exact ⟨w,H,I.tok _,h1,q1 w hv⟩
  ·rw [hn] at h1
   cases hv:ZaZ tr (.at b) with
   | some w=>rw [hv] at h1;exact h1.elim
   | none =>
    have he:∃ q,h'.get? a=some q:=let ⟨q,_,_,hq,_⟩:=dd';⟨q,hq⟩
    exact ⟨z,_,ZfL I (by rw [e];exact True.intro) hs' he (ZnA hl' hs (Zd2 nd) (rel.put rz) dd'),rz,q2 hv⟩
 | tup l =>
  obtain ⟨p,ep,sq⟩:=ky
  subst ep
  cases (show u1=Value.ref p from ry)
  obtain ⟨zz,hs,nd,us,rel,dd⟩:=ZgZ I hd hk
  have hz:us.length≤sizeLine:=by rw [← Paired.length rel];exact zz
  have h1:=rel.val l
  refine call_meetsIn PySem.F.slot_dict_setdefault dd.typeIs PySem.F.entry_dict_setdefault (PySem.F.args_dict_setdefault_3 _ _ _) (Zgi (knd:=tupleKind (Z4 X.prog X.w)) (k:=l) a hs u2)
   ⟨tupleKind_room_in1 (by omega),us,Zfk I sq,dd,hz,fun p' hp'=>?_,fun hn h' dd' hs'=>?_⟩
  ·rw [hp'] at h1
   cases hv:ZaZ tr (.tup l) with
   | none=>rw [hv] at h1;exact h1.elim
   | some w=>rw [hv] at h1;exact ⟨w,H,I.tok _,h1,q1 w hv⟩
  ·rw [hn] at h1
   cases hv:ZaZ tr (.tup l) with
   | some w=>rw [hv] at h1;exact h1.elim
   | none =>
    have he:∃ q,h'.get? a=some q:=let ⟨q,_,_,hq,_⟩:=dd';⟨q,hq⟩
    exact ⟨z,_,ZfL I (by rw [e];exact True.intro) hs' he (ZlH hl' hs (Zd2 nd) (rel.put rz) dd'),rz,q2 hv⟩
theorem Inv.big (I:Inv X pins σ H s):sysModules<s.heap.objs.size:=by
 have h:mainGlobals<s.heap.objs.size:=(I.mod.glob.keeps I.bk).lt
 exact Nat.lt_trans (by decide) h
theorem pe_dnew {pos:Pos}:PE X (.Dict [] [] pos) (fun _ H Q=>∀ p,H p=none→Q (.ref p) (upd H p (dcO []))):=fun pins s σ H Q I h =>
 wpAny_Dict_empty ⟨.ref s.heap.objs.size,_,I.laid (a:=s.heap.objs.size) (o:=dcO []) (t':=s.toks) (fun _ _ q=>Heap.get?_push_of_some _ q) (Nat.le_refl _)
  ⟨Nat.zero_le _,beq_eq_false_iff_ne.mpr (Ne.symm (Nat.ne_of_lt I.big)),List.nodup_nil,_,#[],0,Heap.get?_push_size _ rfl,⟨rfl,rfl,rfl⟩,rfl,rfl,rfl⟩,rfl,h _ (I.hok.fresh (Nat.le_refl _))⟩
end
def okA:D→Option At
 | .non=>some .non
 | .int i=>some (.int i)
 | .str x=>some (.str x)
 | _=>none
def ZfM:List D→Option (List At)
 | []=>some []
 | d::r=>(okA d).bind fun a=>(ZfM r).map (a::·)
def okK:D→Option KT
 | .tup l=>(ZfM l).map KT.tup
 | d=>(okA d).map KT.at
def aD:At→D
 | .non=>.non
 | .int i=>.int i
 | .str x=>.str x
def kD:KT→D
 | .at a=>aD a
 | .tup l=>.tup (l.map aD)
theorem ZlE {d:D} {a:At} (h:okA d=some a):d=aD a:=by
 unfold okA at h
 split at h<;>cases h<;>rfl
theorem ZkU:∀ {l:List D} {as:List At},ZfM l=some as→l=as.map aD
 | [],_,h=>by cases h;rfl
 | d::r,as,h=>by
  unfold ZfM at h
  cases h1:okA d with
  | none=>rw [h1] at h;cases h
  | some a =>
   rw [h1] at h
   cases h2:ZfM r with
   | none=>rw [h2] at h;cases h
   | some bs=>rw [h2] at h;cases h;rw [List.map_cons,← ZlE h1,← ZkU h2]
theorem Zg4 {d:D} {k:KT} (h:okK d=some k):d=kD k:=by
 unfold okK at h
 split at h
 ·next l =>
  cases h1:ZfM l with
  | none=>rw [h1] at h;cases h
  | some as=>rw [h1] at h;cases h;rw [ZkU h1];rfl
 ·cases h1:okA d with
  | none=>rw [h1] at h;cases h
  | some a=>rw [h1] at h;cases h;rw [ZlE h1];rfl
theorem Zsj (a:At):okA (aD a)=some a:=by cases a<;>rfl
theorem Zkb:∀ (l:List At),ZfM (l.map aD)=some l
 | []=>rfl
 | a::l=>by rw [List.map_cons];unfold ZfM;rw [Zsj,Zkb l];rfl
@[simp] theorem Zj3 (k:KT):okK (kD k)=some k:=by
  cases k with
  | «at» a=>cases a<;>rfl
  | tup l=>show (ZfM (l.map aD)).map KT.tup=_;rw [Zkb];rfl
@[simp] theorem ZuT:okK .non=some (.at .non):=rfl
@[simp] theorem ZuN (i:Int):okK (.int i)=some (.at (.int i)):=rfl
@[simp] theorem ZuQ (x:Str):okK (.str x)=some (.at (.str x)):=rfl
theorem ZpS (a:At):Zn6 (aD a)=a:=by cases a<;>rfl
theorem ZpK (k:KT):Zon (kD k)=k:=by
 cases k with
 | «at» a=>cases a<;>rfl
 | tup l =>
  unfold kD Zon
  simp only [List.map_map,KT.tup.injEq]
  induction l with
  | nil=>rfl
  | cons a l ih=>rw [List.map_cons,ih];simp [ZpS]
abbrev KDs:=List (KT×D)
def Zx:KDs→List D
 | []=>[]
 | p::r=>kD p.1::p.2::Zx r
def unf:List D→Option KDs
 | []=>some []
 | k::v::r=>(okK k).bind fun kt=>(unf r).map ((kt,v)::·)
 | _=>none
@[simp] theorem Zj5:∀ kvs:KDs,unf (Zx kvs)=some kvs
  | []=>rfl
  | p::r=>by unfold Zx unf;rw [Zj3,Zj5 r];rfl
@[simp] theorem ZuR:unf []=some []:=rfl
theorem Zg9:∀ {xs:List D} {kvs:KDs},unf xs=some kvs→xs=Zx kvs
 | [],_,h=>by cases h;rfl
 | [_],_,h=>by cases h
 | k::v::r,kvs,h=>by
  unfold unf at h
  cases h1:okK k with
  | none=>rw [h1] at h;cases h
  | some kt =>
   rw [h1] at h
   cases h2:unf r with
   | none=>rw [h2] at h;cases h
   | some q=>rw [h2] at h;cases h;unfold Zx;rw [← Zg4 h1,← Zg9 h2]
theorem ZhL:∀ kvs:KDs,ZfA (Zx kvs)=kvs.map (·.1)
 | []=>rfl
 | p::r=>by unfold Zx ZfA;rw [ZpK,ZhL r];rfl
def ZbP:KDs→KT→Option D
 | [],_=>none
 | t::r,k=>if t.1=k then some t.2 else ZbP r k
def Zmw:KDs→KT→D→KDs
 | [],_,_=>[]
 | t::r,k,v=>(if t.1=k then (t.1,v) else t)::Zmw r k v
def ZeV (kvs:KDs) (k:KT) (v:D):KDs:=if (ZbP kvs k).isSome=true then Zmw kvs k v else kvs++[(k,v)]
def Zgs:KT→Bool
 | .at _=>true
 | _=>false
def Zc6 (k:KT) (kvs:KDs):Bool:=kvs.all fun p=>Zgs p.1==Zgs k
section
variable {K:PySem.W.Frag} {N:Fb} {H:Hp}
abbrev PD (K:PySem.W.Frag) (N:Fb) (H:Hp):KDs→List T3→Prop:=Paired fun p t=>p.1=t.1∧Den K N H (kD p.1) t.2.1∧Den K N H p.2 t.2.2
theorem Zm3 {a:At} {v:V} (h:Den K N H (aD a) v):v=atV a:=by cases a<;>simpa only [aD,Den,atV] using h
theorem Zlw:∀ {l:List At} {vs:List V},DenL K N H (l.map aD) vs→vs=l.map atV
 | [],_,h=>by simpa only [List.map_nil,DenL] using h
 | a::l,vs,h=>by
  simp only [List.map_cons,DenL] at h
  obtain ⟨v,r,e,h1,h2⟩:=h
  rw [e,Zm3 h1,Zlw h2];rfl
theorem Zhb {k:KT} {v:V} (h:Den K N H (kD k) v):Zdg K H k v:=by
 cases k with
 | «at» a=>exact Zm3 h
 | tup l =>
  simp only [kD,Den] at h
  obtain ⟨p,vs,e,sq,hl⟩:=h
  rw [Zlw hl] at sq
  exact ⟨p,e,sq⟩
theorem Zfs {k:KT} {v:V} (h:DenP K N H (kD k) v):Den K N H (kD k) v:=by
 cases k with
 | «at» a=>cases a<;>exact h
 | tup l=>exact h
theorem ZjC:∀ {kvs:KDs} {vs:List V},DenL K N H (Zx kvs) vs→∃ tr,vs=Zbk tr∧PD K N H kvs tr
 | [],vs,h=>⟨[],by simpa only [Zx,DenL,Zbk] using h,.nil⟩
 | p::r,vs,h=>by
  simp only [Zx,DenL] at h
  obtain ⟨v,t,e,h1,v',t',e',h2,h3⟩:=h
  obtain ⟨tr,e2,q⟩:=ZjC h3
  exact ⟨(p.1,v,v')::tr,by rw [e,e',e2];rfl,.cons ⟨rfl,h1,h2⟩ q⟩
theorem PD.flat:∀ {kvs:KDs} {tr:List T3},PD K N H kvs tr→DenL K N H (Zx kvs) (Zbk tr)
 | _,_,.nil=>DenL.nil
 | _,_,.cons ⟨_,h1,h2⟩ t=>DenL.cons h1 (DenL.cons h2 (PD.flat t))
theorem PD.fst:∀ {kvs:KDs} {tr:List T3},PD K N H kvs tr→kvs.map (·.1)=tr.map (·.1)
 | _,_,.nil=>rfl
 | _,_,.cons ⟨h1,_,_⟩ t=>by rw [List.map_cons,List.map_cons,h1,PD.fst t]
theorem PD.keys:∀ {kvs:KDs} {tr:List T3},PD K N H kvs tr→∀ t∈tr,Zdg K H t.1 t.2.1
 | _,_,.nil,_,h=>nomatch h
 | _,_,.cons ⟨h1,h2,_⟩ t,x,hx=>by
  rcases List.mem_cons.mp hx with rfl | hx
  ·rw [← h1];exact Zhb h2
  ·exact PD.keys t x hx
def RelD (K:PySem.W.Frag) (N:Fb) (H:Hp):Option D→Option V→Prop
 | some d,some v=>Den K N H d v
 | none,none=>True
 | _,_=>False
theorem PD.val:∀ {kvs:KDs} {tr:List T3},PD K N H kvs tr→∀ k,RelD K N H (ZbP kvs k) (ZaZ tr k)
 | _,_,.nil,_=>True.intro
 | p::kvs,t::tr,.cons ⟨h1,_,h2⟩ r,k=>by
  have ih:=PD.val r k
  unfold ZbP ZaZ
  rw [h1]
  split
  ·exact h2
  ·exact ih
theorem RelD.isS:∀ {o:Option D} {u:Option V},RelD K N H o u→o.isSome=u.isSome
 | some _,some _,_=>rfl
 | none,none,_=>rfl
 | some _,none,h=>h.elim
 | none,some _,h=>h.elim
theorem PD.rep {k:KT} {d:D} {v:V} (hd:Den K N H d v):∀ {kvs:KDs} {tr:List T3},PD K N H kvs tr→PD K N H (Zmw kvs k d) (ZdM tr k v)
 | _,_,.nil=>.nil
 | p::kvs,t::tr,.cons ⟨h1,h2,h3⟩ r=>by
  have ih:=PD.rep (k:=k) hd r
  unfold Zmw ZdM
  rw [h1]
  refine .cons ?_ ih
  split
  ·exact ⟨rfl,h1 ▸ h2,hd⟩
  ·exact ⟨h1,h2,h3⟩
theorem PD.put {kvs:KDs} {tr:List T3} {k:KT} {d:D} {kv v:V} (h:PD K N H kvs tr) (hk:Den K N H (kD k) kv) (hd:Den K N H d v):PD K N H (ZeV kvs k d) (Zcl tr k kv v):=by
 unfold ZeV Zcl
 rw [(h.val k).isS]
 split
 ·exact h.rep hd
 ·exact Paired.snoc' ⟨rfl,hk,hd⟩ h
theorem PD.hom {k:KT}:∀ {kvs:KDs} {tr:List T3},PD K N H kvs tr→Zc6 k kvs=true→ZgS k tr
 | _,_,.nil,_=>by cases k<;>exact fun _ h=>nomatch h
 | p::kvs,t::tr,.cons ⟨h1,_,_⟩ r,e=>by
  simp only [Zc6,List.all_cons,Bool.and_eq_true] at e
  have ih:=PD.hom (k:=k) r e.2
  have e1:=e.1
  rw [h1] at e1
  cases k with
  | «at» a =>
   intro x hx
   rcases List.mem_cons.mp hx with rfl | hx
   ·cases hx:x.1 with
    | «at» b=>exact ⟨b,rfl⟩
    | tup l=>rw [hx] at e1;cases e1
   ·exact ih x hx
  | tup l =>
   intro x hx
   rcases List.mem_cons.mp hx with rfl | hx
   ·cases hx:x.1 with
    | «at» b=>rw [hx] at e1;cases e1
    | tup l=>exact ⟨l,rfl⟩
   ·exact ih x hx
theorem Zo7 {a:Addr} {kvs:KDs} {vs:List V} (h:Rd H a (.dct (ZfA (Zx kvs)) vs)) (hd:DenL K N H (Zx kvs) vs):∃ tr,IsDc K H a tr∧PD K N H kvs tr:=by
 obtain ⟨tr,e,p⟩:=ZjC hd
 subst e
 rw [ZhL,p.fst] at h
 exact ⟨tr,⟨h,p.keys⟩,p⟩
theorem Zhe {kvs:KDs} {tr:List T3} (p:PD K N H kvs tr):CO true (Zx kvs) (Zbk tr)=dcO tr:=by
 unfold CO dcO
 dsimp only
 rw [ZhL,p.fst]
end
def ZjF:D→D→Option D
 | .lst xs true,y=>(unf xs).bind fun kvs=>(okK y).bind fun k=>if Zc6 k kvs then ZbP kvs k else none
 | _,_=>none
@[simp] theorem Zte (kvs:KDs) (y:D):ZjF (.lst (Zx kvs) true) y=(okK y).bind fun k=>if Zc6 k kvs then ZbP kvs k else none:=by simp [ZjF]
@[simp] theorem Zt0 (y:D):ZjF (.lst [] true) y=(okK y).bind fun k=>none:=by simp [ZjF,ZbP]
def ZeS (neg:Bool):D→D→Option D
 | y,.lst xs true=>(unf xs).bind fun kvs=>(okK y).bind fun k=>if Zc6 k kvs then some (.bl (neg != (ZbP kvs k).isSome)) else none
 | _,_=>none
@[simp] theorem Zt3 (neg:Bool) (kvs:KDs) (y:D):ZeS neg y (.lst (Zx kvs) true)=(okK y).bind fun k=>if Zc6 k kvs then some (.bl (neg != (ZbP kvs k).isSome)) else none:=by simp [ZeS]
@[simp] theorem Zur (neg:Bool) (y:D):ZeS neg y (.lst [] true)=(okK y).bind fun k=>some (.bl neg):=by simp [ZeS,ZbP,Zc6]
section
variable {X:Cx} {K:PySem.W.Frag} {M:Fb} {H0:Hp} {e a b:Expr} {f g:VE→Option D} {pos:Pos}
theorem ZrC {neg:Bool}:R2D K (Zo5 K neg) (ZeS neg):=by
 intro N H x y d1 d2 d Q nh h1 h2 e q
 unfold ZeS at e
 split at e
 ·next xs =>
  cases hu:unf xs with
  | none=>rw [hu] at e;cases e
  | some kvs =>
   rw [hu] at e
   cases hk:okK d1 with
   | none=>rw [hk] at e;cases e
   | some k =>
    rw [hk] at e
    have e:(if Zc6 k kvs then some (D.bl (neg != (ZbP kvs k).isSome)) else none)=some d:=e
    split at e
    ·next hh =>
     cases e
     rw [Zg9 hu] at h2
     obtain ⟨p,vs,ep,r,hd⟩:=h2
     obtain ⟨tr,dc,pd⟩:=Zo7 r hd
     rw [Zg4 hk] at h1
     refine ⟨p,tr,k,ep,dc,pd.hom hh,Zhb (Zfs h1),?_⟩
     rw [← (pd.val k).isS]
     exact q _ H (Same.refl H) ZbA
    ·cases e
 ·cases e
theorem Zpd (hu:X.A.units+64<cLine) (ha:PE X a (tP X.K M H0 f)) (hb:PE X b (tP X.K M H0 g)) (hm:behindInMarks .In b=false:=by with_unfolding_all rfl):PT X (.Compare a [.In] [b] pos) (tB' X.K M H0 fun ρ=>asB (Ze (ZeS false) f g ρ)):=Zfh (Zqn hu) ZrC ha hb hm
theorem Zi7 (hu:X.A.units+64<cLine) (ha:JE X a (tP X.K M H0 f)) (hb:JE X b (tP X.K M H0 g)) (hm:behindInMarks .In b=false:=by with_unfolding_all rfl):JT X (.Compare a [.In] [b] pos) (tB' X.K M H0 fun ρ=>asB (Ze (ZeS false) f g ρ)):=⟨Zpd hu ha.h hb.h hm⟩
def Zo4:List D→Option D
 | [.lst xs true]=>(unf xs).bind fun kvs=>if kvs.all (fun p=>Zgs p.1) then some (.int kvs.length) else none
 | _=>none
@[simp] theorem ZtI (kvs:KDs):Zo4 [.lst (Zx kvs) true]=if kvs.all (fun p=>Zgs p.1) then some (.int kvs.length) else none:=by simp [Zo4]
theorem Zsl {pos:Pos}:PE X (.Dict [] [] pos) (tFb true K M H0 fun _=>some []):=pe_dnew.mono fun σ H Q ⟨ρ,xs,R,e,q⟩ p hp=>by
 cases e
 exact Zh4 (xs:=[]) (vs:=[]) (fl:=true) (Same.refl H) hp DenL.nil q
theorem ZfB {pos:Pos}:JE X (.Dict [] [] pos) (tFb true K M H0 fun _=>some []):=⟨Zsl⟩
def ZdZ (i:Nat) (ok ov:Option D) (ρ:VE):Res:=match rdG ρ i,ok,ov with
 | some xs,some y,some d=>match unf xs,okK y with
  | some kvs,some k=>if Zc6 k kvs&&decide (kvs.length<sizeLine) then .next (ρ.set i (.own (Zx (ZeV kvs k d)) true)) else .fail
  | _,_=>.fail
 | _,_,_=>.fail
theorem ZpE {i:Nat} {x:Str} {vpos tpos pos:Pos} {ei e:Expr} {fi f:VE→Option D} (hu:X.A.units+64<cLine) (hi:PE X ei (tP X.K M H0 fi)) (he:PE X e (tD X.K M H0 f)) (hN:X.N[i]?=some x:=by rfl)
  (hv:Vis X.env.scope x:=by first | exact Or.inl rfl | exact Or.inr (Or.inl rfl) | exact Or.inr (Or.inr rfl)) (hd:(x==("__debug__":Str))=false:=by decide) (hcd:(x==("__classdict__":Str))=false:=by decide)
  (ha:∀ v,assign (.Subscript (.Name x vpos) ei tpos) X.env v=(do
   let ov ← holding [v] (eval (.Name x vpos) X.env)
   let iv ← holding [v,ov] (eval ei X.env)
   standAt tpos
   holding [v,ov,iv] (setItem ov iv v)
   release [v,ov,iv] []):=by intro _;rfl)
  (hs:swapsWithSole [.Subscript (.Name x vpos) ei tpos] e pos.line X.env=pure false:=by rfl) (hw:swappedStores [.Subscript (.Name x vpos) ei tpos] e X.env=pure none:=by rfl)
  (h1:(assignEach [.Subscript (.Name x vpos) ei tpos] X.env).map (·.2)=[assign (.Subscript (.Name x vpos) ei tpos) X.env]:=by rfl) :
  PS X (.Assign [.Subscript (.Name x vpos) ei tpos] e pos) (tS X.K M H0 fun ρ=>ZdZ i (fi ρ) (f ρ) ρ):=(ZnC he (ZsT (ZcP hN hv hd hcd) hi (ZpP hu) ha) hs hw h1).mono fun D' σ H ⟨ρ,R,q⟩=>by
 try dsimp only at q
 unfold ZdZ at q
 split at q
 ·next xs y d hr hfi hf =>
  split at q
  ·next kvs k hun hk =>
   split at q
   ·next hh =>
    rw [Bool.and_eq_true,decide_eq_true_eq] at hh
    refine ⟨ρ,d,R,hf,fun v H1 s1 hv=>?_⟩
    have hi':=ZkK hr
    have R1:=R.st s1
    have ex:=Zg9 hun
    subst ex
    obtain ⟨a,vs,e1,z1,z2,z3,z4⟩:=R1.slot i _ hi'
    have ha:=join_some e1
    refine ⟨.ref a,ha,ρ,y,R1,hfi,fun w H2 s2 hw=>?_⟩
    have R2:=R1.st s2
    obtain ⟨tr,dc,pd⟩:=Zo7 (K:=X.K) (.inl (s2 _ _ z3)) (z4.same s2)
    obtain ⟨tr',e',pd'⟩:=ZjC (z4.same s2)
    subst e'
    rw [Zg4 hk] at hw
    have pp:=pd'.put (k:=k) (Zfs hw) (hv.same s2)
    obtain ⟨R3,S3⟩:=R2.chg (fl2:=true) (ys:=Zx (ZeV kvs k d)) (ws:=Zbk (Zcl tr' k w v)) hi' ha pp.flat
    rw [Zhe pp] at R3 S3
    refine ⟨a,tr',k,rfl,?_,pd'.keys,pd'.hom hh.1,Zhb (Zfs hw),by rw [← Paired.length pd'];exact hh.2,q _ _ R3 ((Step.of_same (s1.trans s2)).trans S3)⟩
    rw [← Zhe pd']
    exact s2 _ _ z3
   ·exact False.elim q
  ·exact False.elim q
 ·exact False.elim q
theorem Zi2 {i:Nat} {x:Str} {vpos tpos pos:Pos} {ei e:Expr} {fi f:VE→Option D} (hu:X.A.units+64<cLine) (hi:JE X ei (tP X.K M H0 fi)) (he:JE X e (tD X.K M H0 f)) (hN:X.N[i]?=some x:=by rfl)
  (hv:Vis X.env.scope x:=by first | exact Or.inl rfl | exact Or.inr (Or.inl rfl) | exact Or.inr (Or.inr rfl)) (hd:(x==("__debug__":Str))=false:=by decide) (hcd:(x==("__classdict__":Str))=false:=by decide)
  (ha:∀ v,assign (.Subscript (.Name x vpos) ei tpos) X.env v=(do
   let ov ← holding [v] (eval (.Name x vpos) X.env)
   let iv ← holding [v,ov] (eval ei X.env)
   standAt tpos
   holding [v,ov,iv] (setItem ov iv v)
   release [v,ov,iv] []):=by intro _;rfl)
  (hs:swapsWithSole [.Subscript (.Name x vpos) ei tpos] e pos.line X.env=pure false:=by rfl) (hw:swappedStores [.Subscript (.Name x vpos) ei tpos] e X.env=pure none:=by rfl)
  (h1:(assignEach [.Subscript (.Name x vpos) ei tpos] X.env).map (·.2)=[assign (.Subscript (.Name x vpos) ei tpos) X.env]:=by rfl) :
  JS X (.Assign [.Subscript (.Name x vpos) ei tpos] e pos) (tS X.K M H0 fun ρ=>ZdZ i (fi ρ) (f ρ) ρ):=⟨ZpE hu hi.h he.h hN hv hd hcd ha hs hw h1⟩
end
end L2
set_option Elab.async false
set_option linter.all false
set_option maxRecDepth 100000
namespace L2
open PySem PySem.Spec PyProof.Rows
theorem ZlP {kvs:KDs} (a:At) (h:∀ p∈kvs,Zgs p.1=true):Zc6 (.at a) kvs=true:=by
 unfold Zc6
 rw [List.all_eq_true]
 intro p hp
 rw [h p hp];rfl
theorem Zob {kvs:KDs} (l:List At) (h:∀ p∈kvs,Zgs p.1=false):Zc6 (.tup l) kvs=true:=by
 unfold Zc6
 rw [List.all_eq_true]
 intro p hp
 rw [h p hp];rfl
end L2
set_option Elab.async false
set_option linter.all false
set_option maxRecDepth 100000
namespace L2
open PySem PySem.Spec PyProof.Rows
def tX (K:PySem.W.Frag) (M:Fb) (H0:Hp) (f:VE→Option (D×VE)):TE:=fun σ H Q=>∃ ρ d ρ',Rel K M H0 ρ σ H∧f ρ=some (d,ρ') ∧
 ∀ v H',Rel K M H0 ρ' σ H'→Step M (Nf M ρ σ) (Nf M ρ' σ) H H'→Den K (Nf M ρ' σ) H' d v→Q v H'
def tBX (K:PySem.W.Frag) (M:Fb) (H0:Hp) (t:VE→Option (Bool×VE)):TT:=fun σ H Q=>∃ ρ b ρ',Rel K M H0 ρ σ H∧t ρ=some (b,ρ') ∧
 ∀ H',Rel K M H0 ρ' σ H'→Step M (Nf M ρ σ) (Nf M ρ' σ) H H'→Q b H'
def sdX (i:Nat) (fk fv:VE→Option D):VE→Option (D×VE):=fun ρ=>match rdG ρ i,fk ρ,fv ρ with
 | some xs,some y,some d=>match unf xs,okK y with
  | some kvs,some k=>if Zc6 k kvs&&decide (kvs.length<sizeLine) then
    (match ZbP kvs k with
    | some v=>some (v,ρ)
    | none=>some (d,ρ.set i (.own (Zx (ZeV kvs k d)) true)))
   else none
  | _,_=>none
 | _,_,_=>none
section
variable {X:Cx} {K:PySem.W.Frag} {M:Fb} {H0:Hp} {e a b ek ev:Expr} {f g fk fv:VE→Option D} {fx:VE→Option (D×VE)} {pos:Pos}
theorem ZtL {i:Nat} {x:Str} {vpos apos cpos:Pos} (hu:X.A.units+64<cLine) (hk:PE X ek (tP X.K M H0 fk)) (hv':PE X ev (tD X.K M H0 fv)) (hN:X.N[i]?=some x:=by rfl) (hv:Vis X.env.scope x:=by first | exact Or.inl rfl | exact Or.inr (Or.inl rfl) | exact Or.inr (Or.inr rfl)) (hd:(x==("__debug__":Str))=false:=by decide) (hcd:(x==("__classdict__":Str))=false:=by decide)
  (hbase:attributeBase (.Name x vpos) "setdefault" X.env (eval (.Name x vpos) X.env)=eval (.Name x vpos) X.env:=by rfl)
  (hfew:((backTo cpos (starEach [ek,ev] X.env)).all (fun x=>!x.1)&&(backToKw cpos (keywordEach [] X.env)).all (fun x=>x.1.isSome)
   && decide ([ek,ev].length+([]:List Keyword).length+(if ([]:List Keyword).isEmpty then 0 else 1)<30))=true:=by rfl)
  (hline:(apos.endLine==cpos.line)=true:=by rfl) (hst:starEach [ek,ev] X.env=(false,eval ek X.env)::starEach [ev] X.env:=by exact Zaa (fun _ _ z=>nomatch z)) (hst2:starEach [ev] X.env=(false,eval ev X.env)::starEach [] X.env:=by exact Zaa (fun _ _ z=>nomatch z)) (hpl:(backTo cpos (starEach [ev] X.env)).any (·.1)=false:=by rfl) :
  PE X (.Call (.Attribute (.Name x vpos) "setdefault" apos) [ek,ev] [] cpos) (tX X.K M H0 (sdX i fk fv)) :=
 (Zmm PySem.F.plainAttrs_dict PySem.F.slot_dict_setdefault PySem.F.type_dict_setdefault (Zjy hu) (ZcP hN hv hd hcd) (Zdb hk (Zdb hv' pa_nil hst2) hst) hbase hfew hline hst hpl).mono fun σ H Q ⟨ρ,d,ρ',R,ex,q⟩=>by
  unfold sdX at ex
  split at ex
  ·next xs y dv hr hfk hfv =>
   split at ex
   ·next kvs k hun hkk =>
    split at ex
    ·next hh =>
     rw [Bool.and_eq_true,decide_eq_true_eq] at hh
     have hi':=ZkK hr
     have exs:=Zg9 hun
     subst exs
     obtain ⟨a,vs,e1,z1,z2,z3,z4⟩:=R.slot i _ hi'
     have ha:=join_some e1
     have tv:tyV X.K "dict" (.ref a) H:=.inr (.inr (.inl ⟨rfl,.inr (.inr ⟨_,_,.inl z3⟩)⟩))
     refine ⟨.ref a,ha,tv,ρ,y,R,hfk,fun w H1 s1 hw=>⟨ρ,dv,R.st s1,hfv,fun v H2 s2 hv=>?_⟩⟩
     have s:=s1.trans s2
     have R2:=R.st s
     obtain ⟨tr,e',pd⟩:=ZjC (z4.same s)
     subst e'
     rw [Zg4 hkk] at hw
     have hw2:=Zfs (hw.same s2)
     have hval:=pd.val k
     refine ⟨a,tr,k,w,v,rfl,rfl,?_,pd.keys,pd.hom hh.1,Zhb hw2,by rw [← Paired.length pd];exact hh.2,fun u hu'=>?_,fun hn=>?_⟩
     ·rw [← Zhe pd];exact s _ _ z3
     ·rw [hu'] at hval
      cases hvl:ZbP kvs k with
      | none=>rw [hvl] at hval;exact hval.elim
      | some d0 =>
       rw [hvl] at hval ex
       cases ex
       exact q u H2 R2 (Step.of_same s) hval
     ·rw [hn] at hval
      cases hvl:ZbP kvs k with
      | some d0=>rw [hvl] at hval;exact hval.elim
      | none =>
       rw [hvl] at ex
       cases ex
       have pp:=pd.put (k:=k) hw2 hv
       obtain ⟨R3,S3⟩:=R2.chg (fl2:=true) (ys:=Zx (ZeV kvs k d)) (ws:=Zbk (Zcl tr k w v)) hi' ha pp.flat
       rw [Zhe pp] at R3 S3
       exact q v _ R3 ((Step.of_same s).trans S3) (Den.step S3 d v hv)
    ·cases ex
   ·cases ex
  ·cases ex
theorem Zlm {i:Nat} {x:Str} {vpos apos cpos:Pos} (hu:X.A.units+64<cLine) (hk:JE X ek (tP X.K M H0 fk)) (hv':JE X ev (tD X.K M H0 fv)) (hN:X.N[i]?=some x:=by rfl) (hv:Vis X.env.scope x:=by first | exact Or.inl rfl | exact Or.inr (Or.inl rfl) | exact Or.inr (Or.inr rfl)) (hd:(x==("__debug__":Str))=false:=by decide) (hcd:(x==("__classdict__":Str))=false:=by decide)
  (hbase:attributeBase (.Name x vpos) "setdefault" X.env (eval (.Name x vpos) X.env)=eval (.Name x vpos) X.env:=by rfl)
  (hfew:((backTo cpos (starEach [ek,ev] X.env)).all (fun x=>!x.1)&&(backToKw cpos (keywordEach [] X.env)).all (fun x=>x.1.isSome)
   && decide ([ek,ev].length+([]:List Keyword).length+(if ([]:List Keyword).isEmpty then 0 else 1)<30))=true:=by rfl)
  (hline:(apos.endLine==cpos.line)=true:=by rfl) (hst:starEach [ek,ev] X.env=(false,eval ek X.env)::starEach [ev] X.env:=by exact Zaa (fun _ _ z=>nomatch z)) (hst2:starEach [ev] X.env=(false,eval ev X.env)::starEach [] X.env:=by exact Zaa (fun _ _ z=>nomatch z)) (hpl:(backTo cpos (starEach [ev] X.env)).any (·.1)=false:=by rfl) :
  JE X (.Call (.Attribute (.Name x vpos) "setdefault" apos) [ek,ev] [] cpos) (tX X.K M H0 (sdX i fk fv)):=⟨ZtL hu hk.h hv'.h hN hv hd hcd hbase hfew hline hst hst2 hpl⟩
def ZvD (o:Option (D×VE)):Res:=match o with
 | some (_,ρ')=>.next ρ'
 | none=>.fail
def neX (fx:VE→Option (D×VE)) (g:VE→Option D):VE→Option (Bool×VE):=fun ρ=>match fx ρ with
 | some (d,ρ')=>match g ρ' with
  | some y=>(asB (neO d y)).map fun b=>(b,ρ')
  | none=>none
 | none=>none
theorem ZsJ (hu:X.A.units+64<cLine) (ha:PE X a (tX X.K M H0 fx)) (hb:PE X b (tP X.K M H0 g)):PT X (.Compare a [.NotEq] [b] pos) (tBX X.K M H0 (neX fx g)):=(Zlv (Znp hu) ha hb (Zcy _ (by decide) (by decide))).mono fun σ H Q ⟨ρ,bb,ρ',R,ex,q⟩=>by
 unfold neX at ex
 split at ex
 ·next d ρ1 hf =>
  split at ex
  ·next y hg =>
   cases hn:asB (neO d y) with
   | none=>rw [hn] at ex;cases ex
   | some b0 =>
    rw [hn] at ex
    cases ex
    refine ⟨ρ,d,ρ',R,hf,fun v H1 R1 S1 hv=>⟨ρ',y,R1,hg,fun u H2 s2 hu2=>?_⟩⟩
    exact ZoT (Nf M ρ' σ) H2 v u d y (.bl bb) _ (R1.st s2).nh (hv.p.same s2) hu2 (Zdt hn) fun w H3 s3 hw=>by
     simp only [Den] at hw
     exact ⟨bb,hw,q H3 ((R1.st s2).st s3) (S1.trans (Step.of_same (s2.trans s3)))⟩
  ·cases ex
 ·cases ex
theorem ZkM (hu:X.A.units+64<cLine) (ha:JE X a (tX X.K M H0 fx)) (hb:JE X b (tP X.K M H0 g)):JT X (.Compare a [.NotEq] [b] pos) (tBX X.K M H0 (neX fx g)):=⟨ZsJ hu ha.h hb.h⟩
def ZcL (c:Option (Bool×VE)) (g1 g2:VE→Res):Res:=match c with
 | some (true,ρ')=>g1 ρ'
 | some (false,ρ')=>g2 ρ'
 | none=>.fail
theorem ZqO {c:Expr} {s1 s2:List Stmt} {t:VE→Option (Bool×VE)} {g1 g2:VE→Res} (hc:PT X c (tBX K M H0 t)) (ha:PSs X s1 (tS K M H0 g1)) (hb:PSs X s2 (tS K M H0 g2)):PS X (.If c s1 s2 pos) (tS K M H0 fun ρ=>ZcL (t ρ) g1 g2):=(ZoY hc ha hb).mono fun D' σ H ⟨ρ,R,q⟩=>by
 try dsimp only at q
 cases ht:t ρ with
 | none=>rw [ht] at q;exact False.elim q
 | some p =>
  obtain ⟨k,ρ'⟩:=p
  rw [ht] at q
  refine ⟨ρ,k,ρ',R,ht,fun H1 R1 S=>?_⟩
  cases k with
  | true=>refine Zd0 ?_;exact ⟨ρ',R1,resOk.from S q⟩
  | false=>refine Zd4 ?_;exact ⟨ρ',R1,resOk.from S q⟩
theorem ZjM {c:Expr} {s1 s2:List Stmt} {t:VE→Option (Bool×VE)} {g1 g2:VE→Res} (hc:JT X c (tBX K M H0 t)) (ha:JB X s1 (tS K M H0 g1)) (hb:JB X s2 (tS K M H0 g2)):JS X (.If c s1 s2 pos) (tS K M H0 fun ρ=>ZcL (t ρ) g1 g2):=⟨ZqO hc.h ha.h hb.h⟩
def Zuj:D→D→Option D
 | .bl i,.bl j=>some (.bl (decide (i=j)))
 | _,_=>none
@[simp] theorem Zvt (i j:Bool):Zuj (.bl i) (.bl j)=some (.bl (decide (i=j))):=rfl
end
end L2
set_option Elab.async false
set_option linter.all false
set_option maxRecDepth 100000
namespace L2
open PySem PySem.Spec PyProof.Rows
section
variable {X:Cx} {K:PySem.W.Frag}
def ZmS:V→List V→Hp→VK→Prop:=fun x vs H Q=>∃ z i,x=.str z∧vs=[.int i]∧PadOk i=true∧Q (.str (Txt.zfill z i)) H
theorem Zou:MtR X "str.zfill" ZmS:=by
 intro pins s σ H x vs v us Q I rx rv h
 obtain ⟨z,i,rfl,rfl,hp,q⟩:=h
 obtain ⟨t,rfl⟩:=rx
 obtain ⟨u,rfl,t',rfl⟩:=Zd6 rv
 exact SC.zfill hp fun t'' k=>⟨.str _,H,I.tok _,⟨_,rfl⟩,q⟩
noncomputable def Zgj (z:Str):List D→Option D
 | [.int i]=>gd (0≤i∧i<1000000) (some (.str (Txt.zfill z i)))
 | _=>none
theorem ZsQ {i:Int} (h0:0≤i) (h1:i<1000000):PadOk i=true:=by
 unfold PadOk fitsSsize Builtin.Str.tooLong
 rw [Bool.and_eq_true,Bool.not_eq_true',Bool.not_eq_true',Bool.or_eq_false_iff]
 refine ⟨⟨decide_eq_false (by omega),decide_eq_false (by omega)⟩,decide_eq_false ?_⟩
 have h2:i.toNat<1000000:=by omega
 have h3:(1000000:Nat)≤sizeLine:=by decide
 omega
theorem Zow:RmD K ZmS Zgj:=by
 intro N H z vs ds d Q nh h e q
 unfold Zgj at e
 split at e
 ·next i =>
  obtain ⟨hi,e⟩:=Zj6 e
  cases e
  obtain ⟨v,rfl,hv⟩:=Paired.one' h
  exact ⟨z,i,rfl,by rw [hv.int],ZsQ hi.1 hi.2,q _ H (Same.refl H) Ze7⟩
 ·cases e
@[simp] theorem Znt (z:Str) (i:Int) (h0:0≤i) (h1:i<1000000):Zgj z [.int i]=some (.str (Txt.zfill z i)):=by
  unfold Zgj
  exact ZgI ⟨h0,h1⟩
@[simp] def Zs6 (z:Str):List D→Option D
  | [.str y]=>some (.bl (Txt.startswith z y))
  | _=>none
end
end L2
set_option Elab.async false
set_option linter.all false
set_option maxRecDepth 100000
namespace L2
open PySem PySem.Spec PyProof.Rows
@[simp] def ZhI (b:D→VE→Option VE) (o:Option D) (ρ:VE):Res:=match o with
  | some d=>(match b d ρ with
   | some ρ'=>.next ρ'
   | none=>.fail)
  | none=>.fail
section
variable {X:Cx} {K:PySem.W.Frag} {M:Fb} {H0:Hp} {e tg:Expr} {f:VE→Option D} {b:D→VE→Option VE} {pos:Pos}
theorem ZsF {ws:List Nat} (he:PE X e (tD K M H0 f)) (hg:PG X tg (tG K M H0 ws b)) (hs:swapsWithSole [tg] e pos.line X.env=pure false:=by rfl) (hw:swappedStores [tg] e X.env=pure none:=by rfl)
  (h1:(assignEach [tg] X.env).map (·.2)=[assign tg X.env]:=by rfl):PS X (.Assign [tg] e pos) (tS K M H0 fun ρ=>ZhI b (f ρ) ρ):=(ZnC he hg hs hw h1).mono fun D' σ H ⟨ρ,R,q⟩=>by
 try dsimp only at q
 cases hf:f ρ with
 | none=>rw [hf] at q;exact False.elim q
 | some d =>
  rw [hf] at q
  cases hb:b d ρ with
  | none=>simp only [ZhI,hb] at q;exact False.elim q
  | some ρ' =>
   simp only [ZhI,hb] at q
   exact ⟨ρ,d,R,hf,fun v H1 s hv=>⟨ρ,d,ρ',R.st s,hv,hb,fun σ1 R1 S1 _=>q σ1 H1 R1 ((Step.of_same s).trans S1)⟩⟩
theorem ZoL {ws:List Nat} (he:JE X e (tD K M H0 f)) (hg:JG X tg (tG K M H0 ws b)) (hs:swapsWithSole [tg] e pos.line X.env=pure false:=by rfl) (hw:swappedStores [tg] e X.env=pure none:=by rfl)
  (h1:(assignEach [tg] X.env).map (·.2)=[assign tg X.env]:=by rfl):JS X (.Assign [tg] e pos) (tS K M H0 fun ρ=>ZhI b (f ρ) ρ):=⟨ZsF he.h hg.h hs hw h1⟩
end
end L2
set_option Elab.async false
set_option linter.all false
set_option maxRecDepth 100000
namespace L2
open PySem PySem.Spec PyProof.Rows PySem.W
section
variable (lt:Nat→Nat→Bool)
structure WO (n:Nat):Prop where
 asym:∀ a b,a<n→b<n→lt a b=true→lt b a=false
 neg:∀ a b c,a<n→b<n→c<n→lt a c=true→lt a b=true∨lt b c=true
def le' (a b:Nat):Prop:=lt b a=false
end
section
variable {lt:Nat→Nat→Bool} {n:Nat} (W:WO lt n)
include W
theorem WO.refl {a:Nat} (ha:a<n):le' lt a a:=by
 unfold le'
 cases h:lt a a with
 | false=>rfl
 | true=>have:=W.asym a a ha ha h;rw [h] at this;cases this
theorem WO.trans {a b c:Nat} (ha:a<n) (hb:b<n) (hc:c<n) (h1:le' lt a b) (h2:le' lt b c):le' lt a c:=by
 unfold le' at *
 cases h:lt c a with
 | false=>rfl
 | true =>
  rcases W.neg c b a hc hb ha h with z | z
  ·rw [z] at h2;cases h2
  ·rw [z] at h1;cases h1
theorem WO.of_lt {a b:Nat} (ha:a<n) (hb:b<n) (h:lt a b=true):le' lt a b:=W.asym a b ha hb h
end
abbrev pvA (p:Array Nat) (i:Nat):Nat:=p.getD i 0
def ZeQ (lt:Nat→Nat→Bool) (p:Array Nat) (k:Nat):Prop:=∀ i j,i≤j→j<k→le' lt (pvA p i) (pvA p j)
def ZeI (lt:Nat→Nat→Bool) (p:Array Nat) (k:Nat):Prop:=∀ i j,i≤j→j<k→le' lt (pvA p j) (pvA p i)
def Eqv (lt:Nat→Nat→Bool) (a b:Nat):Prop:=le' lt a b∧le' lt b a
def Bs (n:Nat) (p:Array Nat):Prop:=p.Perm (List.range n).toArray
theorem Bs.size {n:Nat} {p:Array Nat} (h:Bs n p):p.size=n:=by have:=h.size_eq;simpa using this
theorem Bs.lt {n:Nat} {p:Array Nat} (h:Bs n p) {i:Nat} (hi:i<n):pvA p i<n:=by
 have hs:=h.size
 have hi':i<p.size:=by omega
 have hm:p[i]∈p:=Array.getElem_mem hi'
 have:=(h.mem_iff (a:=p[i])).mp hm
 simp at this
 unfold pvA
 rw [Array.getD_eq_getD_getElem?,Array.getElem?_eq_getElem hi']
 exact this
theorem ZgA {p q:Array Nat} {i j:Nat} (h:p[i]?=q[j]?):pvA p i=pvA q j:=by
 unfold pvA
 rw [Array.getD_eq_getD_getElem?,Array.getD_eq_getD_getElem?,h]
theorem Zfj {p:Array Nat} {i j:Nat} (hj:j≤p.size) (k:Nat):pvA (kas_rev p i j) k=if i≤k∧k<j then pvA p (i+j-1-k) else pvA p k:=by
 have:=getElem?_mirror_all (xs:=p) (i:=i) (j:=j) hj k
 by_cases h:i≤k∧k<j
 ·rw [if_pos h] at this ⊢;exact ZgA this
 ·rw [if_neg h] at this ⊢;exact ZgA this
theorem Zlk {p:Array Nat} {k d:Nat} (hk:k<p.size) (hd:d≤k) (i:Nat):pvA (bubble p k d) i=if i=k-d then pvA p k else if k-d<i∧i≤k then pvA p (i-1) else pvA p i:=by
 have:=getElem?_bubble (xs:=p) (src:=k) hk d hd i
 by_cases h:i=k-d
 ·rw [if_pos h] at this ⊢;exact ZgA this
 ·rw [if_neg h] at this ⊢
  by_cases h2:k-d<i∧i≤k
  ·rw [if_pos h2] at this ⊢;exact ZgA this
  ·rw [if_neg h2] at this ⊢;exact ZgA this
theorem Bs.rev {n:Nat} {p:Array Nat} (h:Bs n p) (i j:Nat):Bs n (kas_rev p i j):=(mirror_perm p i j _).trans h
theorem Bs.bub {n:Nat} {p:Array Nat} (h:Bs n p) (k d:Nat):Bs n (bubble p k d):=(bubble_perm p k d).trans h
section
variable {lt:Nat→Nat→Bool} {n:Nat} (W:WO lt n) {cmp:Nat→Nat→(Bool→Shared→Prop)→Shared→Prop} {s:Shared} (hc:∀ i j C,i<n→j<n→C (lt i j) s→cmp i j C s)
include W hc
theorem ZkR {p:Array Nat} (hp:Bs n p):∀ (f m:Nat) {Q:Nat→Shared→Prop},1≤m→m+f≤n→ZeQ lt p m→(∀ m',m≤m'→m'≤m+f→ZeQ lt p m'→(m'=m+f∨lt (pvA p m') (pvA p (m'-1))=true)→Q m' s)→KasT.kasWp cmp (kas_asc p f m) Q s
 | 0,m,Q,h1,h2,h3,q=>by
  rw [kas_asc,KasT.kasWp]
  exact q m (Nat.le_refl _) (by omega) h3 (.inl rfl)
 | f+1,m,Q,h1,h2,h3,q=>by
  rw [kas_asc,KasT.kasWp]
  refine hc _ _ _ (hp.lt (by omega)) (hp.lt (by omega)) ?_
  cases hb:lt (pvA p m) (pvA p (m-1)) with
  | true =>
   simp only [if_true,KasT.kasWp]
   exact q m (Nat.le_refl _) (by omega) h3 (.inr hb)
  | false =>
   simp only [Bool.false_eq_true,if_false]
   refine ZkR hp f (m+1) (by omega) (by omega) (fun i j hij hj=>?_) fun m' a b c d=>q m' (by omega) (by omega) c (by rcases d with d | d;exact .inl (by omega);exact .inr d)
   rcases Nat.lt_or_ge j m with z | z
   ·exact h3 i j hij z
   ·have e:j=m:=by omega
    subst e
    rcases Nat.lt_or_ge i j with y | y
    ·exact W.trans (hp.lt (by omega)) (hp.lt (i:=j-1) (by omega)) (hp.lt (by omega)) (h3 i (j-1) (by omega) (by omega)) hb
    ·have e:i=j:=by omega
     subst e
     exact W.refl (hp.lt (by omega))
theorem Zix {p:Array Nat} (hp:Bs n p) {i j:Nat} (hij:i<j) (hj:j≤n) (he:∀ k,i≤k→k<j→Eqv lt (pvA p k) (pvA p (j-1))) (k:Nat) (hk:k<n):Eqv lt (pvA (kas_rev p i j) k) (pvA p k):=by
 rw [Zfj (by rw [hp.size];exact hj)]
 by_cases h:i≤k∧k<j
 ·rw [if_pos h]
  have a:=he (i+j-1-k) (by omega) (by omega)
  have b:=he k h.1 h.2
  exact ⟨W.trans (hp.lt (by omega)) (hp.lt (by omega)) (hp.lt (by omega)) a.1 b.2,W.trans (hp.lt (by omega)) (hp.lt (by omega)) (hp.lt (by omega)) b.1 a.2⟩
 ·rw [if_neg h]
  exact ⟨W.refl (hp.lt hk),W.refl (hp.lt hk)⟩
theorem Zjk {p q:Array Nat} (hp:Bs n p) (hq:Bs n q) {k:Nat} (hk:k≤n) (he:∀ i,i<n→Eqv lt (pvA q i) (pvA p i)) (h:ZeI lt p k):ZeI lt q k:=fun i j hij hj =>
 W.trans (hq.lt (by omega)) (hp.lt (i:=j) (by omega)) (hq.lt (by omega)) (he j (by omega)).1 (W.trans (hp.lt (by omega)) (hp.lt (i:=i) (by omega)) (hq.lt (by omega)) (h i j hij hj) (he i (by omega)).2)
theorem Zg0:∀ (f:Nat) (p:Array Nat) (m q:Nat) {Q:Array Nat×Nat×Nat→Shared→Prop},Bs n p→1≤m→m+f≤n→q+1≤m→ZeI lt p m→(∀ i,m-(q+1)≤i→i<m→Eqv lt (pvA p i) (pvA p (m-1))) →
  (∀ p' m' q',Bs n p'→m≤m'→m'≤m+f→q'+1≤m'→ZeI lt p' m'→(∀ i,m'-(q'+1)≤i→i<m'→Eqv lt (pvA p' i) (pvA p' (m'-1)))→Q (p',m',q') s)→KasT.kasWp cmp (kas_desc f p m q) Q s
 | 0,p,m,q,Q,hp,h1,h2,h3,h4,h5,hq=>by
  rw [kas_desc,KasT.kasWp]
  exact hq p m q hp (Nat.le_refl _) (by omega) h3 h4 h5
 | f+1,p,m,q,Q,hp,h1,h2,h3,h4,h5,hq=>by
  rw [kas_desc,KasT.kasWp]
  refine hc _ _ _ (hp.lt (by omega)) (hp.lt (by omega)) ?_
  have step:∀ (p':Array Nat),Bs n p'→ZeI lt p' m→le' lt (pvA p' m) (pvA p' (m-1))→ZeI lt p' (m+1):=fun p' hp' h hb i j hij hj=>by
   rcases Nat.lt_or_ge j m with z | z
   ·exact h i j hij z
   ·have e:j=m:=by omega
    subst e
    rcases Nat.lt_or_ge i j with y | y
    ·exact W.trans (hp'.lt (by omega)) (hp'.lt (i:=j-1) (by omega)) (hp'.lt (by omega)) hb (h i (j-1) (by omega) (by omega))
    ·have e:i=j:=by omega
     subst e
     exact W.refl (hp'.lt (by omega))
  cases hb:lt (pvA p m) (pvA p (m-1)) with
  | true =>
   have hle:=W.of_lt (hp.lt (by omega)) (hp.lt (by omega)) hb
   simp only [if_true]
   have one:∀ (p':Array Nat),Bs n p'→∀ i,m+1-(0+1)≤i→i<m+1→Eqv lt (pvA p' i) (pvA p' (m+1-1)):=fun p' hp' i a b=>by
    have e:i=m:=by omega
    subst e
    exact ⟨W.refl (hp'.lt (by omega)),W.refl (hp'.lt (by omega))⟩
   by_cases h0:q > 0
   ·simp only [h0,if_true]
    have hp':=hp.rev (m-(q+1)) m
    have hev:=Zix W hc hp (i:=m-(q+1)) (j:=m) (by omega) (by omega) h5
    have hni:=Zjk W hc hp hp' (k:=m) (by omega) (fun i hi=>hev i hi) h4
    have em:pvA (kas_rev p (m-(q+1)) m) m=pvA p m:=by rw [Zfj (by rw [hp.size];omega),if_neg (by omega)]
    have hle':le' lt (pvA (kas_rev p (m-(q+1)) m) m) (pvA (kas_rev p (m-(q+1)) m) (m-1)):=by
     rw [em]
     exact W.trans (hp.lt (by omega)) (hp.lt (by omega)) (hp'.lt (by omega)) hle (hev (m-1) (by omega)).2
    exact Zg0 f _ (m+1) 0 hp' (by omega) (by omega) (by omega) (step _ hp' hni hle') (one _ hp') fun p2 m2 q2 a b c d e g=>hq p2 m2 q2 a (by omega) (by omega) d e g
   ·simp only [h0,if_false]
    exact Zg0 f _ (m+1) 0 hp (by omega) (by omega) (by omega) (step _ hp h4 hle) (one _ hp) fun p2 m2 q2 a b c d e g=>hq p2 m2 q2 a (by omega) (by omega) d e g
  | false =>
   simp only [Bool.false_eq_true,if_false,KasT.kasWp]
   refine hc _ _ _ (hp.lt (by omega)) (hp.lt (by omega)) ?_
   cases hd:lt (pvA p (m-1)) (pvA p m) with
   | true =>
    simp only [if_true,KasT.kasWp]
    exact hq p m q hp (Nat.le_refl _) (by omega) h3 h4 h5
   | false =>
    simp only [Bool.false_eq_true,if_false]
    refine Zg0 f _ (m+1) (q+1) hp (by omega) (by omega) (by omega) (step _ hp h4 hd) (fun i a b=>?_) fun p2 m2 q2 a b c d e g=>hq p2 m2 q2 a (by omega) (by omega) d e g
    show Eqv lt (pvA p i) (pvA p m)
    rcases Nat.lt_or_ge i m with z | z
    ·have:=h5 i (by omega) z
     exact ⟨W.trans (hp.lt (by omega)) (hp.lt (i:=m-1) (by omega)) (hp.lt (by omega)) this.1 hb,W.trans (hp.lt (by omega)) (hp.lt (i:=m-1) (by omega)) (hp.lt (by omega)) hd this.2⟩
    ·have e:i=m:=by omega
     subst e
     exact ⟨W.refl (hp.lt (by omega)),W.refl (hp.lt (by omega))⟩
theorem ZjI {p:Array Nat} {m nr:Nat} {Q:Nat×Array Nat→Shared→Prop} (hp:Bs n p) (h1:1≤m) (h2:m≤nr) (h3:nr≤n) (h4:ZeI lt p m)
  (q:∀ m' p',Bs n p'→1≤m'→m'≤nr→ZeQ lt p' m'→Q (m',p') s):KasT.kasWp cmp (kas_tail3 m nr p) Q s:=by
 unfold kas_tail3
 rw [KasT.kasWp_bind]
 have hp':=hp.rev 0 m
 refine ZkR W hc hp' (nr-m) m h1 (by omega) (fun i j hij hj=>?_) fun m' a b c _=>?_
 ·rw [Zfj (by rw [hp.size];omega),Zfj (by rw [hp.size];omega),if_pos (by omega),if_pos (by omega)]
  exact h4 (0+m-1-j) (0+m-1-i) (by omega) (by omega)
 ·rw [KasT.kasWp]
  exact q m' _ hp' (by omega) (by omega) c
theorem Zk7 {p:Array Nat} {m nr:Nat} {Q:Nat×Array Nat→Shared→Prop} (hp:Bs n p) (h2:m+1≤nr) (h3:nr≤n) (h4:ZeI lt p (m+1))
  (q:∀ m' p',Bs n p'→1≤m'→m'≤nr→ZeQ lt p' m'→Q (m',p') s):KasT.kasWp cmp (kas_descPart m nr p) Q s:=by
 unfold kas_descPart
 rw [KasT.kasWp_bind]
 refine Zg0 W hc (nr-(m+1)) p (m+1) 0 hp (by omega) (by omega) (by omega) h4 (fun i a b=>?_) fun p' m' q' a b c d e g=>?_
 ·have e:i=m:=by omega
  subst e
  exact ⟨W.refl (hp.lt (by omega)),W.refl (hp.lt (by omega))⟩
 ·by_cases h0:q' > 0
  ·simp only [h0,if_true]
   exact ZjI W hc (a.rev _ _) (by omega) (by omega) h3 (Zjk W hc a (a.rev _ _) (by omega) (fun i hi=>Zix W hc a (by omega) (by omega) g i hi) e) q
  ·simp only [h0,if_false]
   exact ZjI W hc a (by omega) (by omega) h3 e q
theorem ZnX {p:Array Nat} {Q:Nat×Array Nat→Shared→Prop} (hp:Bs n p) (h1:1≤n) (q:∀ m' p',Bs n p'→1≤m'→m'≤n→ZeQ lt p' m'→Q (m',p') s):KasT.kasWp cmp (kas_count n p) Q s:=by
 unfold kas_count
 rw [KasT.kasWp_bind]
 refine ZkR W hc hp (n-1) 1 (by omega) (by omega) (fun i j hij hj=>?_) fun m a b c d=>?_
 ·have e:i=0:=by omega
  have e2:j=0:=by omega
  subst e e2
  exact W.refl (hp.lt (by omega))
 ·by_cases hm:m=n
  ·subst hm
   simp only [beq_self_eq_true,if_true,KasT.kasWp]
   exact q m p hp a (by omega) c
  ·have hb:(m==n)=false:=by simpa using hm
   have hlt:lt (pvA p m) (pvA p (m-1))=true:=by
    rcases d with d | d
    ·exact absurd (by omega) hm
    ·exact d
   simp only [hb,Bool.false_eq_true,if_false]
   have desc:∀ (p':Array Nat),Bs n p'→(∀ i,i<m→Eqv lt (pvA p' i) (pvA p' (m-1)))→lt (pvA p' m) (pvA p' (m-1))=true→KasT.kasWp cmp (kas_descPart m n p') Q s:=fun p' hp' he hl =>
    Zk7 W hc hp' (by omega) (by omega) (fun i j hij hj=>by
     rcases Nat.lt_or_ge j m with z | z
     ·exact W.trans (hp'.lt (by omega)) (hp'.lt (i:=m-1) (by omega)) (hp'.lt (by omega)) (he j z).1 (he i (by omega)).2
     ·have e:j=m:=by omega
      subst e
      rcases Nat.lt_or_ge i j with y | y
      ·exact W.trans (hp'.lt (by omega)) (hp'.lt (i:=j-1) (by omega)) (hp'.lt (by omega)) (W.of_lt (hp'.lt (by omega)) (hp'.lt (by omega)) hl) (he i y).2
      ·have e:i=j:=by omega
       subst e
       exact W.refl (hp'.lt (by omega))) q
   by_cases h1m:m > 1
   ·simp only [h1m,if_true,KasT.kasWp]
    refine hc _ _ _ (hp.lt (by omega)) (hp.lt (by omega)) ?_
    cases hx:lt (pvA p 0) (pvA p (m-1)) with
    | true =>
     simp only [if_true,KasT.kasWp]
     exact q m p hp a (by omega) c
    | false =>
     simp only [Bool.false_eq_true,if_false]
     have hp':=hp.rev 0 m
     have he:∀ i,i<m→Eqv lt (pvA p i) (pvA p (m-1)):=fun i hi=>⟨c i (m-1) (by omega) (by omega),W.trans (hp.lt (by omega)) (hp.lt (i:=0) (by omega)) (hp.lt (by omega)) hx (c 0 i (by omega) hi)⟩
     have hev:=fun k hk=>Zix W hc hp (i:=0) (j:=m) (by omega) (by omega) (fun k _ hk=>he k hk) k hk
     have em:pvA (kas_rev p 0 m) m=pvA p m:=by rw [Zfj (by rw [hp.size];omega),if_neg (by omega)]
     refine desc _ hp' (fun i hi=>?_) ?_
     ·have x1:=hev i (by omega)
      have x2:=hev (m-1) (by omega)
      have x3:=he i hi
      exact ⟨W.trans (hp'.lt (by omega)) (hp.lt (i:=i) (by omega)) (hp'.lt (by omega)) x1.1 (W.trans (hp.lt (by omega)) (hp.lt (i:=m-1) (by omega)) (hp'.lt (by omega)) x3.1 x2.2),
       W.trans (hp'.lt (by omega)) (hp.lt (i:=m-1) (by omega)) (hp'.lt (by omega)) x2.1 (W.trans (hp.lt (by omega)) (hp.lt (i:=i) (by omega)) (hp'.lt (by omega)) x3.2 x1.2)⟩
     ·rw [em]
      have x2:=hev (m-1) (by omega)
      rcases W.neg (pvA p m) (pvA (kas_rev p 0 m) (m-1)) (pvA p (m-1)) (hp.lt (by omega)) (hp'.lt (by omega)) (hp.lt (by omega)) hlt with z | z
      ·exact z
      ·have:=x2.2;unfold le' at this;rw [z] at this;cases this
   ·have e:m=1:=by omega
    subst e
    simp only [h1m,if_false]
    refine desc p hp (fun i hi=>?_) hlt
    have e:i=0:=by omega
    subst e
    exact ⟨W.refl (hp.lt (by omega)),W.refl (hp.lt (by omega))⟩
theorem ZhH {p:Array Nat} (hp:Bs n p) {k:Nat} (hk:k<n) (hs:ZeQ lt p k):∀ (f l r:Nat) {Q:Nat→Shared→Prop},l≤r→r≤k→r≤l+f→(∀ i,i<l→le' lt (pvA p i) (pvA p k))→(∀ i,r≤i→i<k→lt (pvA p k) (pvA p i)=true) →
  (∀ l',l'≤k→(∀ i,i<l'→le' lt (pvA p i) (pvA p k))→(∀ i,l'≤i→i<k→lt (pvA p k) (pvA p i)=true)→Q l' s)→KasT.kasWp cmp (kas_place p k f l r) Q s
 | 0,l,r,Q,h1,h2,h3,h4,h5,q=>by
  rw [kas_place,KasT.kasWp]
  have e:l=r:=by omega
  subst e
  exact q l h2 h4 h5
 | f+1,l,r,Q,h1,h2,h3,h4,h5,q=>by
  rw [kas_place]
  by_cases hlr:l≥r
  ·have e:l=r:=by omega
   subst e
   rw [if_pos hlr,KasT.kasWp]
   exact q l h2 h4 h5
  ·rw [if_neg hlr,KasT.kasWp]
   refine hc _ _ _ (hp.lt hk) (hp.lt (by omega)) ?_
   cases hb:lt (pvA p k) (pvA p ((l+r) / 2)) with
   | true =>
    simp only [if_true]
    refine ZhH hp hk hs f l ((l+r) / 2) (by omega) (by omega) (by omega) h4 (fun i a b=>?_) q
    have hle:=hs ((l+r) / 2) i a b
    rcases W.neg (pvA p k) (pvA p i) (pvA p ((l+r) / 2)) (hp.lt hk) (hp.lt (by omega)) (hp.lt (by omega)) hb with z | z
    ·exact z
    ·unfold le' at hle;rw [z] at hle;cases hle
   | false =>
    simp only [Bool.false_eq_true,if_false]
    refine ZhH hp hk hs f ((l+r) / 2+1) r (by omega) h2 (by omega) (fun i a=>?_) h5 q
    exact W.trans (hp.lt (by omega)) (hp.lt (i:=(l+r) / 2) (by omega)) (hp.lt hk) (hs i ((l+r) / 2) (by omega) (by omega)) hb
theorem Znw:∀ (f:Nat) (p:Array Nat) (k:Nat) {Q:Array Nat→Shared→Prop},Bs n p→k+f=n→ZeQ lt p k→(∀ p',Bs n p'→ZeQ lt p' n→Q p' s)→KasT.kasWp cmp (kas_bin f p k) Q s
 | 0,p,k,Q,hp,h1,h2,q=>by
  rw [kas_bin,KasT.kasWp]
  have e:k=n:=by omega
  subst e
  exact q p hp h2
 | f+1,p,k,Q,hp,h1,h2,q=>by
  rw [kas_bin,KasT.kasWp_bind]
  refine ZhH W hc hp (k:=k) (by omega) h2 k 0 k (by omega) (Nat.le_refl _) (by omega) (fun i z=>by omega) (fun i a b=>by omega) fun l a b c=>?_
  refine Znw f _ (k+1) (hp.bub _ _) (by omega) (fun i j hij hj=>?_) q
  have hkp:k<p.size:=by rw [hp.size];omega
  have hkl:k-(k-l)=l:=by omega
  rw [Zlk hkp (by omega),Zlk hkp (by omega),hkl]
  by_cases hi:i=l
  ·rw [if_pos hi]
   by_cases hj':j=l
   ·rw [if_pos hj'];exact W.refl (hp.lt (by omega))
   ·rw [if_neg hj',if_pos (by omega)]
    exact W.of_lt (hp.lt (by omega)) (hp.lt (by omega)) (c (j-1) (by omega) (by omega))
  ·rw [if_neg hi]
   by_cases hi2:l<i∧i≤k
   ·rw [if_pos hi2,if_neg (by omega),if_pos (by omega)]
    exact h2 (i-1) (j-1) (by omega) (by omega)
   ·rw [if_neg hi2]
    by_cases hj':j=l
    ·rw [if_pos hj'];exact b i (by omega)
    ·rw [if_neg hj']
     by_cases hj2:l<j∧j≤k
     ·rw [if_pos hj2];exact h2 i (j-1) (by omega) (by omega)
     ·rw [if_neg hj2];exact h2 i j hij (by omega)
theorem Zpz {Q:Array Nat→Shared→Prop} (h1:1≤n) (q:∀ p',Bs n p'→ZeQ lt p' n→Q p' s):KasT.kasWp cmp (kas_sort n) Q s:=by
 unfold kas_sort
 rw [KasT.kasWp_bind]
 refine ZnX W hc (p:=(List.range n).toArray) (Array.Perm.refl _) h1 fun m p' a b c d=>?_
 by_cases hm:m<n
 ·simp only [hm,if_true]
  have e:max m 1=m:=by omega
  rw [e]
  exact Znw W hc (n-m) p' m a (by omega) d q
 ·have e:m=n:=by omega
  subst e
  simp only [Nat.lt_irrefl,if_false,KasT.kasWp]
  exact q p' a d
end
end L2
set_option Elab.async false
set_option linter.all false
set_option maxRecDepth 100000
namespace L2
open PySem PySem.Spec PyProof.Rows PySem.W
section
variable {X:Cx} {pins:List (Addr×Obj)} {σ:St} {H:Hp} {s:Shared} {N:Fb}
theorem ZtH (I:Inv X pins σ H s) {prog:Program} {w:World} (A:Around) (hu:A.units+40<cLine) (b fin:Bool) {Q:Bool→Shared→Prop}:∀ (xs ys:List D) (vs1 vs2:List V) (us1 us2:List Value) (i:Nat) (r:Bool),Zev (ltN 5) xs ys=some r →
  DenL X.K N H xs vs1→DenL X.K N H ys vs2→Vals vs1 us1→Vals vs2 us2→fin=decide (xs.length<ys.length) →
  (b=false∨i≠0∨((∀ x,xs.head?=some x→∃ n,x=.int n)∧∀ y,ys.head?=some y→∃ n,y=.int n))→Q r s→KatLex prog w A b fin Q (us1.zip us2) i s:=by
 intro xs
 induction xs with
 | nil =>
  intro ys vs1 vs2 us1 us2 i r h d1 d2 r1 r2 hf hb q
  simp only [DenL] at d1;subst d1;cases r1
  rw [List.zip_nil_left]
  refine kat_nil ?_
  cases ys with
  | nil=>simp only [Zev] at h;cases h;rw [hf];exact q
  | cons y ys=>simp only [Zev] at h;cases h;rw [hf];simpa using q
 | cons x xs ih =>
  intro ys vs1 vs2 us1 us2 i r h d1 d2 r1 r2 hf hb q
  simp only [DenL] at d1;obtain ⟨w1,t1,e1,dw1,dt1⟩:=d1;subst e1
  cases r1 with
  | cons rw1 rt1 =>
   cases ys with
   | nil =>
    simp only [DenL] at d2;subst d2;cases r2
    rw [List.zip_nil_right]
    simp only [Zev] at h;cases h
    refine kat_nil ?_
    rw [hf];simpa using q
   | cons y ys =>
    simp only [DenL] at d2;obtain ⟨w2,t2,e2,dw2,dt2⟩:=d2;subst e2
    cases r2 with
    | cons rw2 rt2 =>
     rw [List.zip_cons_cons]
     simp only [Zev] at h
     split at h
     ·next ho =>
      rw [Bool.and_eq_true] at ho
      have he:=(Zec I Zae A x y _ _ _ _ (by unfold Zae;omega) ho.1 ho.2 dw1.p dw2.p rw1 rw2).2.1
      refine kat_cons ?_
      split at h
      ·next e =>
       rw [e] at he
       refine he prog w _ _ ?_
       show KatGo prog w A b fin Q _ _ _ i true s
       unfold KatGo
       rw [if_pos rfl]
       exact ih ys _ _ _ _ (i+1) r h dt1 dt2 rt1 rt2 (by rw [hf];simp) (.inr (.inl (by omega))) q
      ·next e =>
       rw [Bool.not_eq_true] at e
       rw [e] at he
       refine he prog w _ _ ?_
       refine kat_no ?_
       by_cases hm:(b&&i==0)=true
       ·rw [hm]
        have hm':b=true∧i=0:=by simpa using hm
        rcases hb with z | z | ⟨z1,z2⟩
        ·rw [hm'.1] at z;cases z
        ·exact absurd hm'.2 z
        ·obtain ⟨n1,rfl⟩:=z1 x rfl
         obtain ⟨n2,rfl⟩:=z2 y rfl
         have g1:=dw1.p.int
         have g2:=dw2.p.int
         subst g1 g2
         obtain ⟨k1,rfl⟩:=rw1
         obtain ⟨k2,rfl⟩:=rw2
         simp only [ltN] at h
         cases h
         exact oneLt_int q
       ·rw [Bool.not_eq_true] at hm
        rw [hm]
        refine kat_one _ _ ?_
        exact ZnF I 5 A x y _ _ _ _ r (by unfold Zae;omega) h dw1.p dw2.p rw1 rw2 prog w _ (PySem.W.BoolBack Q) q
     ·cases h
def KMode (b:Bool) (k:D):Prop:=match b with
 | true=>∃ i r,k=.tup (.int i::r)
 | false=>∃ f r,k=.tup (.tup f::r)
theorem KMode.tup {b:Bool} {k:D} (h:KMode b k):∃ f r,k=.tup (f::r):=by
 cases b with
 | true=>obtain ⟨i,r,e⟩:=h;exact ⟨_,_,e⟩
 | false=>obtain ⟨i,r,e⟩:=h;exact ⟨_,_,e⟩
theorem ZrA (I:Inv X pins σ H s) {prog:Program} {w:World} (A:Around) (hu:A.units+40<cLine) (b r:Bool) {k1 k2:D} {v1 v2:V} {u1 u2:Value} {Q:Bool→Shared→Prop} {E:Value→Shared→Prop} (h:ltN 6 k1 k2=some r) (m1:KMode b k1) (m2:KMode b k2)
  (d1:Den X.K N H k1 v1) (d2:Den X.K N H k2 v2) (r1:RelV v1 u1) (r2:RelV v2 u2) (q:Q r s):wpAny (model prog w) A (keyLt' (tuples' b) u1 u2) Q E s:=by
 obtain ⟨f1,g1,e1⟩:=m1.tup
 obtain ⟨f2,g2,e2⟩:=m2.tup
 subst e1 e2
 simp only [Den] at d1 d2
 obtain ⟨a1,vs1,e1,q1,dl1⟩:=d1
 obtain ⟨a2,vs2,e2,q2,dl2⟩:=d2
 subst e1 e2
 cases r1
 cases r2
 obtain ⟨its1,rv1,p1,_⟩:=I.tuple q1
 obtain ⟨its2,rv2,p2,_⟩:=I.tuple q2
 obtain ⟨o1,ho1,_,n1,hd1⟩:=p1
 obtain ⟨o2,ho2,_,n2,hd2⟩:=p2
 refine kat_lt ho1 hd1 ho2 hd2 ?_
 have l1:=dl1.length
 have l2:=dl2.length
 have l3:=rv1.length
 have l4:=rv2.length
 have:=ZtH I (prog:=prog) (w:=w) (N:=N) A hu b (decide (its1.toArray.size<its2.toArray.size)) (Q:=Q) (f1::g1) (f2::g2) vs1 vs2 its1 its2 0 r h dl1 dl2 rv1 rv2 (by rw [List.size_toArray,List.size_toArray,← l3,← l4,← l1,← l2]) (by
  cases b with
  | false=>exact .inl rfl
  | true =>
   obtain ⟨i1,_,e1⟩:=m1
   obtain ⟨i2,_,e2⟩:=m2
   cases e1
   cases e2
   exact .inr (.inr ⟨fun x hx=>by cases hx;exact ⟨_,rfl⟩,fun x hx=>by cases hx;exact ⟨_,rfl⟩⟩)) q
 simpa using this
theorem Zn1 (I:Inv X pins σ H s) {M:Model} (b:Bool):∀ (ks:List D) (kvs:List V) (us:List Value),DenL X.K N H ks kvs→Vals kvs us→(∀ k∈ks,KMode b k) →
  ∃ fs,KatTups s.heap us fs∧fs.length=us.length∧∀ v∈fs,Looks M s.heap (typeOf v) (.type (if b then "int" else "tuple")):=by
 intro ks
 induction ks with
 | nil =>
  intro kvs us d r _
  simp only [DenL] at d;subst d;cases r
  exact ⟨[],KatTups.nil,rfl,fun _ h=>nomatch h⟩
 | cons k ks ih =>
  intro kvs us d r hm
  simp only [DenL] at d;obtain ⟨v,t,e,dv,dt⟩:=d;subst e
  cases r with
  | cons rv rt =>
   obtain ⟨fs,h1,h2,h3⟩:=ih t _ dt rt fun k hk=>hm k (List.mem_cons_of_mem _ hk)
   have m:=hm k List.mem_cons_self
   obtain ⟨f,g,e⟩:=m.tup
   subst e
   simp only [Den] at dv
   obtain ⟨a,vs,e,q,dl⟩:=dv
   subst e
   cases rv
   obtain ⟨its,rv1,⟨o,ho,hc,n,hd⟩,_⟩:=I.tuple q
   obtain ⟨w,vs',e,dw,_⟩:=dl
   subst e
   cases rv1 with
   | cons rw1 rt1 =>
    rename_i u us'
    refine ⟨u::fs,KatTups.cons ho hc hd (by simp) h1,by simp [h2],fun v hv=>?_⟩
    rcases List.mem_cons.mp hv with e | hv
    ·subst e
     intro A Q E s' hk hq
     cases b with
     | true =>
      obtain ⟨i,_,e⟩:=m
      cases e
      have g:=dw.p.int
      subst g
      obtain ⟨t,rfl⟩:=rw1
      exact wpAny_typeOf (T:="int") rfl hq
     | false =>
      obtain ⟨i,_,e⟩:=m
      cases e
      simp only [Den] at dw
      obtain ⟨a2,vs2,e,q2,_⟩:=dw
      subst e
      cases rw1
      obtain ⟨_,_,⟨o2,ho2,hc2,_⟩,_⟩:=I.tuple q2
      exact wpAny_typeOf (T:="tuple") ⟨o2,hk _ _ ho2,hc2⟩ hq
    ·exact h3 v hv
structure Off (X:Cx) (pins:List (Addr×Obj)) (a:Addr):Prop where
 nL:a≠X.env.locals
 s0:X.s₀.heap.objs.size≤a
 cl:∀ x c,X.env.cells.lookup x=some c→c≠a
 pn:∀ p∈X.pn++pins,p.1≠a
 nf:a∉X.fs
theorem Inv.off (I:Inv X pins σ H s) {a:Addr} (h:s.heap.objs.size≤a):Off X pins a where
 nL:=fun e=>by have h2:=I.lt;rw [← e] at h2;exact absurd (Nat.lt_of_lt_of_le h2 h) (Nat.lt_irrefl _)
 s0:=Nat.le_trans I.sz h
 cl:=fun x c e z=>by
  obtain ⟨v,o,ho,_⟩:=I.cell x c e
  have h2:=Heap.lt_size ho
  rw [z] at h2
  exact absurd (Nat.lt_of_lt_of_le h2 h) (Nat.lt_irrefl _)
 pn:=fun p hp z=>by
  have h2:=Heap.lt_size (I.pin p hp).1
  rw [z] at h2
  exact absurd (Nat.lt_of_lt_of_le h2 h) (Nat.lt_irrefl _)
 nf:=I.nofs h
theorem Inv.pin1 {a:Addr} {o:Obj} (I:Inv X pins σ H s) (hH:H a=none) (f:Off X pins a) (e:s.heap.get? a=some o) (hc:∀ v,o.data≠.cell v):Inv X (pins++[(a,o)]) σ H s :=
 I.pins_of fun p hp=>by
  rcases List.mem_append.mp hp with hp | hp
  ·exact I.pin p (List.mem_append_right _ hp)
  ·simp only [List.mem_singleton] at hp;subst hp;exact ⟨e,hH,f.nL,f.nf,hc⟩
theorem Inv.catch {a:Addr} {its:List Value} {n:Nat} {vs:List V} (I:Inv X pins σ H s) (hH:H a=none) (f:Off X pins a) (e:s.heap.get? a=some { cls:=.type "list",data:=.seq its.toArray n }) (hv:Vals vs its) (hz:vs.length≤sizeLine):Inv X pins σ (upd H a (.lst vs)) s:=by
 have ne:∀ b u,H b=some u→b≠a:=fun b u q z=>by rw [z,hH] at q;cases q
 have:=I.step (h':=s.heap) (g':=s.gens) (d':=s.drawn) (t':=s.toks) (ch:=[a]) (H':=upd H a (.lst vs)) (fun b hb=>by
   have e:b=a:=by simpa using hb
   subst e
   exact ⟨.inr f.s0,f.nL,f.cl,f.pn⟩) (fun b o _ _ _ q _=>q) (fun b o _ _ _ q _=>⟨o.slots,q⟩) (fun b o hb _ n=>by rw [ZE (fun z=>hb (by simp [z]))];exact n) (fun b o _ q=>⟨o,q⟩)
  (fun b xs q=>by rw [ZE (ne _ _ q)];exact q) (fun b o u q=>by rw [ZE (ne _ _ q)];exact q) (fun b ps q=>⟨#[],by rw [ZE (ne _ _ q),q];simp⟩) (fun m hm=>hm) (fun b u q=>by
   by_cases hb:b=a
   ·subst hb
    rw [Zak] at q
    cases q
    exact ⟨hz,its,n,hv,e⟩
   ·rw [ZE hb] at q
    exact (I.hok b u q).stay (fun c v _ r=>r) (fun c r=>by rw [ZE (ne _ _ r)];exact r) fun c xs r=>by rw [ZE (ne _ _ r)];exact r) I.bare
 exact this
end
end L2
set_option Elab.async false
set_option linter.all false
set_option maxRecDepth 100000
namespace L2
open PySem PySem.Spec PyProof.Rows PySem.W
def Zbp (F:List Sl→Option Rv) (x:D):D:=((F [.val x]).map rvD).getD .non
def ltF (F:List Sl→Option Rv) (x y:D):Bool:=match ltN 6 (Zbp F x) (Zbp F y) with
 | some true=>true
 | _=>false
theorem ZjZ {F:List Sl→Option Rv} {x y:D} {r:Bool} (h:ltN 6 (Zbp F x) (Zbp F y)=some r):ltF F x y=r:=by
 unfold ltF;rw [h];cases r<;>rfl
structure SortOk (F:List Sl→Option Rv) (xs:List D):Prop where
 few:xs.length<64
 tells:∀ x∈xs,∃ r,F [.val x]=some r
 mode:∃ b,∀ x∈xs,KMode b (Zbp F x)
 cmp:∀ x∈xs,∀ y∈xs,∃ r,ltN 6 (Zbp F x) (Zbp F y)=some r
 asym:∀ x∈xs,∀ y∈xs,ltF F x y=true→ltF F y x=false
 neg:∀ x∈xs,∀ y∈xs,∀ z∈xs,ltF F x z=true→ltF F x y=true∨ltF F y z=true
 anti:∀ x∈xs,∀ y∈xs,ltF F x y=false→ltF F y x=false→x=y
def Zfr (lt:D→D→Bool) (x:D):List D→List D
 | []=>[x]
 | y::r=>if lt x y then x::y::r else y::Zfr lt x r
def Zds (lt:D→D→Bool):List D→List D
 | []=>[]
 | x::r=>Zfr lt x (Zds lt r)
theorem Zgw (lt:D→D→Bool) (x:D):∀ l,(Zfr lt x l).Perm (x::l)
 | []=>.refl _
 | y::r=>by
  unfold Zfr
  split
  ·exact .refl _
  ·exact ((Zgw lt x r).cons y).trans (.swap x y r)
theorem ZeH (lt:D→D→Bool):∀ l,(Zds lt l).Perm l
 | []=>.refl _
 | x::r=>(Zgw lt x _).trans ((ZeH lt r).cons x)
theorem Zjm {F:List Sl→Option Rv} {xs:List D} (h:SortOk F xs) {x:D} (hx:x∈xs):∀ l:List D,(∀ y∈l,y∈xs)→l.Pairwise (fun a b=>ltF F b a=false)→(Zfr (ltF F) x l).Pairwise fun a b=>ltF F b a=false
 | [],_,_=>by simp [Zfr]
 | y::r,hm,hp=>by
  obtain ⟨h1,h2⟩:=List.pairwise_cons.mp hp
  have hy:=hm y List.mem_cons_self
  unfold Zfr
  split
  ·next hl =>
   refine List.pairwise_cons.mpr ⟨fun z hz=>?_,hp⟩
   rcases List.mem_cons.mp hz with e | hz
   ·subst e;exact h.asym x hx z hy hl
   ·cases hc:ltF F z x with
    | false=>rfl
    | true =>
     rcases h.neg z (hm z (List.mem_cons_of_mem _ hz)) y hy x hx hc with q | q
     ·rw [h1 z hz] at q;cases q
     ·rw [h.asym x hx y hy hl] at q;cases q
  ·next hl =>
   rw [Bool.not_eq_true] at hl
   refine List.pairwise_cons.mpr ⟨fun z hz=>?_,Zjm h hx r (fun z hz=>hm z (List.mem_cons_of_mem _ hz)) h2⟩
   rcases List.mem_cons.mp ((Zgw (ltF F) x r).subset hz) with e | hz
   ·subst e;exact hl
   ·exact h1 z hz
theorem Zjg {F:List Sl→Option Rv} {xs:List D} (h:SortOk F xs):∀ l:List D,(∀ y∈l,y∈xs)→(Zds (ltF F) l).Pairwise fun a b=>ltF F b a=false
 | [],_=>.nil
 | x::r,hm=>Zjm h (hm x List.mem_cons_self) _ (fun y hy=>hm y (List.mem_cons_of_mem _ ((ZeH _ r).subset hy))) (Zjg h r fun y hy=>hm y (List.mem_cons_of_mem _ hy))
noncomputable def Zh5 (F:List Sl→Option Rv) (xs:List D):Option (List D):=gd (SortOk F xs) (some (Zds (ltF F) xs))
theorem SortOk.same {F:List Sl→Option Rv} {xs ys:List D} (h:SortOk F xs) (hp:ys.Perm xs) (hs:ys.Pairwise fun a b=>ltF F b a=false):ys=Zds (ltF F) xs :=
 List.Perm.eq_of_pairwise (le:=fun a b=>ltF F b a=false) (fun a b ha hb h1 h2=>h.anti a (hp.subset ha) b ((ZeH _ xs).subset hb) h2 h1) hs (Zjg h xs fun _ hy=>hy) (hp.trans (ZeH _ xs).symm)
theorem Zoi {F:List Sl→Option Rv} {xs:List D} (h:SortOk F xs):Zh5 F xs=some (Zds (ltF F) xs):=ZgI h
theorem Zn4 {F:List Sl→Option Rv} {xs ys:List D} (h:Zh5 F xs=some ys):SortOk F xs∧ys=Zds (ltF F) xs:=by
 unfold Zh5 gd at h
 split at h
 ·next hh=>cases h;exact ⟨hh,rfl⟩
 ·cases h
section
variable {X:Cx} {pins:List (Addr×Obj)} {σ:St} {H:Hp} {s:Shared} {N:Fb}
theorem Zkk {K:PySem.W.Frag} {ds:List D} {vs:List V} (h:DenL K N H ds vs):∀ (js:List Nat),(∀ j∈js,j<ds.length)→DenL K N H (js.map fun j=>ds.getD j .non) (js.map fun j=>vs.getD j .non)
 | [],_=>DenL.nil
 | j::js,hj=>by
  have hl:=hj j List.mem_cons_self
  obtain ⟨v,e,d⟩:=h.get (List.getElem?_eq_getElem hl)
  refine DenL.cons ?_ (Zkk h js fun k hk=>hj k (List.mem_cons_of_mem _ hk))
  have e1:ds.getD j .non=ds[j]:=by simp [List.getD,hl]
  have e2:vs.getD j .non=v:=by simp [List.getD,e]
  show Den K N H (ds.getD j .non) (vs.getD j .non)
  rw [e1,e2];exact d
theorem ZeB {vs:List V} {us:List Value} (h:Vals vs us):∀ (js:List Nat),Vals (js.map fun j=>vs.getD j .non) (js.map fun j=>us.getD j .none)
 | []=>.nil
 | j::js=>by
  refine .cons ?_ (ZeB h js)
  induction h generalizing j with
  | nil=>simp;rfl
  | cons a _ ih =>
   cases j with
   | zero=>simpa using a
   | succ j=>simpa using ih j
theorem Zor (I:Inv X pins σ H s) {prog:Program} {w:World} (A:Around) (hu:A.units+40<cLine) {E:Value→Shared→Prop} {F:List Sl→Option Rv} {ds:List D} (h:SortOk F ds) {kvs:List V} {us items:List Value}
  (d:DenL X.K N H (ds.map (Zbp F)) kvs) (r:Vals kvs us) (hi:items.length=ds.length) {a:Addr} {e1:Nat} {kS:Value} {P:PySem.Fin→Shared→Prop}
  (q:∀ (p:List Nat) (st:SortSt),p.Perm (List.range ds.length)→(p.map fun j=>ds.getD j .non)=Zds (ltF F) ds→Array.map (fun x=>x.2) (arrOf st)=(p.map fun j=>items.getD j .none).toArray→failedOf st=none→wpAny (model prog w) A (ksk_tail a false e1 kS st) P E s) :
  wpAny (model prog w) A (ksk_end a false items.toArray e1 kS us.toArray) P E s:=by
 unfold ksk_end
 simp only [Bool.false_eq_true,if_false]
 have l1:=d.length
 have l2:=r.length
 rw [List.length_map] at l1
 by_cases h2:items.toArray.size<2
 ·rw [if_pos h2]
  simp only [h2,if_true]
  have hz:us.length=items.length:=by omega
  rw [List.size_toArray] at h2
  refine wpAny_bind (wpAny_pure ?_)
  refine wpAny_bind ?_
  show wpAny _ _ (pure ((),SortSt.mk' general' (us.toArray.zip items.toArray) #[] 7 none)) _ _ _
  refine wpAny_pure ?_
  refine q (List.range ds.length) (SortSt.mk' general' (us.toArray.zip items.toArray) #[] 7 none) (.refl _) ?_ ?_ rfl
  ·have e:(List.range ds.length).map (fun j=>ds.getD j .non)=ds:=by
    apply List.ext_getElem?
    intro i
    by_cases hi:i<ds.length
    ·simp [hi]
    ·simp [hi]
   rw [e]
   refine h.same (.refl _) ?_
   match ds,hi with
   | [],_=>exact .nil
   | [a],_=>exact List.pairwise_singleton _ _
   | a::b::c,hi=>simp at hi;omega
  ·show Array.map (fun x=>x.2) (us.toArray.zip items.toArray)=_
   have e:(List.range ds.length).map (fun j=>items.getD j .none)=items:=by
    rw [← hi]
    apply List.ext_getElem?
    intro i
    by_cases hi:i<items.length
    ·simp [hi]
    ·simp [hi]
   rw [e]
   rw [List.zip_toArray,List.map_toArray]
   congr 1
   exact List.map_snd_zip (by omega)
 ·rw [if_neg h2]
  simp only [h2,if_false]
  rw [List.size_toArray] at h2
  obtain ⟨b,hb⟩:=h.mode
  obtain ⟨fs,k1,k2,k3⟩:=Zn1 I (M:=model prog w) b (ds.map (Zbp F)) kvs us d r fun k hk=>by
   obtain ⟨x,hx,rfl⟩:=List.mem_map.mp hk
   exact hb x hx
  refine wpAny_bind (kat_kind k1 (by omega) k3 (by cases b<;>rfl) ?_)
  have em:(Value.type (if b=true then "int" else "tuple") != Value.type "tuple")=b:=by cases b<;>rfl
  rw [em]
  have hz:us.length=items.length:=by omega
  have hsz:(us.toArray.zip items.toArray).size=ds.length:=by simp;omega
  have hr:=kas_range (us.toArray.zip items.toArray)
  rw [hsz] at hr
  have hst:SortSt.mk' (tuples' b) (us.toArray.zip items.toArray) #[] 7 none=kas_st (tuples' b) (us.toArray.zip items.toArray) (List.range ds.length).toArray:=by
   unfold kas_st;rw [hr]
  refine wpAny_bind ?_
  rw [hst]
  have W:WO (fun i j=>ltF F (ds.getD i .non) (ds.getD j .non)) ds.length:=by
   have mem:∀ i,i<ds.length→ds.getD i .non∈ds:=fun i hi=>by
    have e1:ds.getD i .non=ds[i]:=by simp [List.getD,hi]
    rw [e1];exact List.getElem_mem hi
   exact ⟨fun a b ha hb hl=>h.asym _ (mem a ha) _ (mem b hb) hl,fun a b c ha hb hc hl=>h.neg _ (mem a ha) _ (mem b hb) _ (mem c hc) hl⟩
  have hc:∀ i j (C:Bool→Shared→Prop),i<ds.length→j<ds.length→C (ltF F (ds.getD i .non) (ds.getD j .non)) s→kas_cmp prog w A (tuples' b) (us.toArray.zip items.toArray) i j C s:=fun i j C hi' hj' hq=>by
   unfold kas_cmp
   rw [kat_item hz,kat_item hz]
   have mem:∀ i,i<ds.length→ds.getD i .non∈ds:=fun i hi=>by
    have e1:ds.getD i .non=ds[i]:=by simp [List.getD,hi]
    rw [e1];exact List.getElem_mem hi
   obtain ⟨rr,hrr⟩:=h.cmp _ (mem i hi') _ (mem j hj')
   rw [ZjZ hrr] at hq
   have den:∀ i,i<ds.length→∃ v,Den X.K N H (Zbp F (ds.getD i .non)) v∧RelV v (us.getD i .none):=fun i hi=>by
    have e1:ds.getD i .non=ds[i]:=by simp [List.getD,hi]
    obtain ⟨v,ev,dv⟩:=d.get (i:=i) (d:=Zbp F ds[i]) (by simp [hi])
    refine ⟨v,by rw [e1];exact dv,?_⟩
    have:=ZeB r [i]
    cases this with
    | cons a _ =>
     have e2:kvs.getD i .non=v:=by simp [List.getD,ev]
     rw [← e2]
     exact a
   obtain ⟨v1,dv1,rv1⟩:=den i hi'
   obtain ⟨v2,dv2,rv2⟩:=den j hj'
   exact ZrA I A hu b rr hrr (hb _ (mem i hi')) (hb _ (mem j hj')) dv1 dv2 rv1 rv2 hq
  refine kas_runs (Q:=fun _ st s'=>wpAny (model prog w) A (ksk_tail a false e1 kS st) P E s') (G:=fun p s'=>s'=s∧Bs ds.length p∧ZeQ (fun i j=>ltF F (ds.getD i .non) (ds.getD j .non)) p ds.length) (by omega) h.few (fun p st s' hp ha hf hg=>?_) (Zpz W hc (by omega) fun p a b=>⟨rfl,a,b⟩)
  obtain ⟨rfl,hB,hS⟩:=hg
  have hperm:p.toList.Perm (List.range ds.length):=by
   have:=hB.toList
   simpa using this
  refine q p.toList st hperm ?_ (kat_snds hz ha) hf
  refine h.same ?_ ?_
  ·have e:(List.range ds.length).map (fun j=>ds.getD j .non)=ds:=by
    apply List.ext_getElem?
    intro i
    by_cases hi:i<ds.length
    ·simp [hi]
    ·simp [hi]
   have:=hperm.map fun j=>ds.getD j .non
   rw [e] at this
   exact this
  ·rw [List.pairwise_map]
   rw [List.pairwise_iff_getElem]
   intro i j hi hj hij
   have hsz':=hB.size
   have:=hS i j (by omega) (by simp at hj;omega)
   unfold le' pvA at this
   simp at hi hj
   simpa [Array.getD,hi,hj] using this
end
end L2
set_option Elab.async false
set_option linter.all false
set_option maxRecDepth 100000
namespace L2
open PySem PySem.Spec PyProof.Rows PySem.W
section
variable {X:Cx} {pins:List (Addr×Obj)} {σ:St} {H:Hp} {s:Shared} {N:Fb}
abbrev lob (its:List Value) (n:Nat):Obj:={ cls:=.type "list",data:=.seq its.toArray n }
theorem Inv.rawset {a:Addr} {its its':List Value} {n:Nat} {f:Array Value→Array Value} (I:Inv X pins σ H s) (hH:H a=none) (o:Off X pins a) (e:s.heap.get? a=some (lob its n)) (hf:f its.toArray=its'.toArray) :
  ∃ n',(s.heap.update a (Obj.mapSeq f)).get? a=some (lob its' n')∧Inv X pins σ H { s with heap:=s.heap.update a (Obj.mapSeq f) }:=by
 have q:=PySem.IsL.update e f
 rw [hf] at q
 exact ⟨_,q,I.turned (t':=s.toks) (fun b u hb hu=>(Heap.get?_update_other s.heap (Obj.mapSeq f) (Ne.symm hb)).trans hu) hH o.nL (.inr o.s0) o.cl o.pn⟩
theorem ZhD (its:List Value) (n:Nat) (v:Option Value):(lob its n).data≠.cell v:=nofun
theorem Off.more {a b:Addr} {o:Obj} (f:Off X pins a) (h:b≠a):Off X (pins++[(b,o)]) a :=
 ⟨f.nL,f.s0,f.cl,fun p hp=>by
  rw [← List.append_assoc] at hp
  rcases List.mem_append.mp hp with hp | hp
  ·exact f.pn p hp
  ·simp only [List.mem_singleton] at hp;subst hp;exact h,f.nf⟩
theorem Inv.pinGet {a:Addr} {o:Obj} (I:Inv X pins σ H s) (h:(a,o)∈pins):s.heap.get? a=some o∧H a=none:=⟨(I.pin _ (List.mem_append_right _ h)).1,(I.pin _ (List.mem_append_right _ h)).2.1⟩
theorem Zog {prog:Program} {w:World} (A:Around) {D kS:Addr} {e1 e2:Nat} {us out:List Value} {vs:List V} {E:Value→Shared→Prop} {P:PySem.Fin→Shared→Prop} {st:SortSt} (I:Inv X (pins++[(D,lob [] e1)]++[(kS,lob us e2)]) σ H s)
  (fD:Off X pins D) (fK:Off X pins kS) (ne:D≠kS) (hus:us.length≤sizeLine) (hst:Array.map (fun x=>x.2) (arrOf st)=out.toArray) (hf:failedOf st=none) (hv:Vals vs out) (hz:vs.length≤sizeLine)
  (q:∀ s',Inv X pins σ (upd H D (.lst vs)) s'→P (.done (.ret .none)) s'):wpAny (model prog w) A (ksk_tail D false e1 (.ref kS) st) P E s:=by
 obtain ⟨gk,hk⟩:=I.pinGet (a:=kS) (List.mem_append_right _ List.mem_cons_self)
 obtain ⟨gd',hd⟩:=I.pinGet (a:=D) (List.mem_append_left _ (List.mem_append_right _ List.mem_cons_self))
 have I1:Inv X (pins++[(D,lob [] e1)]) σ H s:=I.unpinned
 obtain ⟨n2,g2,I2⟩:=I1.rawset (f:=fun _=>#[]) (its':=[]) hk (fK.more ne) gk rfl
 unfold ksk_tail
 refine wpAny_bind (listUpdate_at gk rfl ?_ (by simpa using hus) (by simp))
 refine wpAny_bind (wpAny_letGo ?_)
 obtain ⟨gd2,_⟩:=I2.pinGet (a:=D) (List.mem_append_right _ List.mem_cons_self)
 refine wpAny_bind (seqEpoch_at gd2 rfl ?_)
 have I3:Inv X pins σ H _:=I2.unpinned
 have hol:out.length≤sizeLine:=by rw [← hv.length];exact hz
 obtain ⟨n3,g3,I4⟩:=I3.rawset (f:=fun _=>out.toArray) (its':=out) hd fD gd2 rfl
 simp only [Bool.false_eq_true,if_false,hst]
 refine wpAny_bind (listUpdate_at gd2 rfl ?_ (by simp) (by simp;omega))
 have hb:(e1 != e1)=false:=by simp
 rw [hf]
 simp only [hb,Bool.false_eq_true,if_false]
 exact wpAny_pure (q _ (I4.catch hd fD g3 hv hz))
variable {k:Nat} {fn:Addr} {fd:FuncData} {ps:List Str} {F:List Sl→Option Rv}
theorem ZpU (Fo:FnOk X.prog X.w X.K X.mg X.base CX0 k fn fd ps (spD X.K F)) (hb:Binds X.K fd ps []) (I:Inv X pins σ H s) (A:Around) (hr:Room k A) (e0:Env0 X.prog X.w X.K X.mg X.base A X.stack s H) (nh:∀ a,N a→H a≠none) {x:D} {v:V} {u:Value} (d:Den X.K N H x v) (rv:RelV v u) {r:Rv} (hF:F [.val x]=some r)
  {E:Value→Shared→Prop} {Q:Value→Shared→Prop} (q:∀ u' s' v' H',Inv X pins σ H' s'→Same H H'→Den X.K N H' (Zbp F x) v'→RelV v' u'→Q u' s'):wpAny (model X.prog X.w) A (call (.ref fn) [u]) Q E s:=by
 have hsp:spD X.K F [v] H (fun v' H'=>Same H H'∧Den X.K N H' (Zbp F x) v') E0:=by
  refine ⟨N,[.val x],r,nh,?_,hF,fun v' H' hs ho=>⟨hs,?_⟩⟩
  ·exact ⟨v,[],rfl,d,rfl⟩
  ·have e:Zbp F x=rvD r:=by unfold Zbp;rw [hF];rfl
   rw [e]
   cases r with
   | val y=>exact ho
   | own ys fl =>
    obtain ⟨a,ws,e1,z1,z2,z3⟩:=ho
    simp only [rvD,Den]
    exact ⟨a,ws,e1,.of (fun z=>nh a z z1) z2,z3.nw fun b hb=>.inl (.inl hb)⟩
 have hl:([u]:List Value).length=ps.length:=by
  have:=Fo.len _ _ _ _ hsp
  simpa using this
 refine wpAny_call (codeAny_mono (Fo.run A X.stack s H ⟨[u],[]⟩ [u] [v] _ E0 hr e0 (by simpa using hb s [u] I.kIn (by simpa using hl)) (.cons rv .nil) hsp) fun r s' hq=>?_)
 cases r with
 | error e=>exact False.elim hq
 | ok fl =>
  cases fl with
  | ret u' =>
   obtain ⟨v',H',I',rv',hs,hd⟩:=I.after hq
   exact q u' s' v' H' I' hs hd rv'
  | next=>exact False.elim hq
  | brk=>exact False.elim hq
  | cont=>exact False.elim hq
theorem Same.none {H H':Hp} (h:Same H H') {a:Addr} (e:H' a=none):H a=none:=by
 cases q:H a with
 | none=>rfl
 | some o=>rw [h a o q] at e;cases e
theorem Zox (Fo:FnOk X.prog X.w X.K X.mg X.base CX0 k fn fd ps (spD X.K F)) (hb:Binds X.K fd ps []) (A:Around) (hr:Room k A) (hu:A.units+40<cLine) (hA:∀ s H,Env0 X.prog X.w X.K X.mg X.base X.A X.stack s H→Env0 X.prog X.w X.K X.mg X.base A X.stack s H)
  {da kS:Addr} {e1 e0:Nat} (I:Inv X (pins++[(da,lob [] e1)]++[(kS,lob [] e0)]) σ H s) (nh:∀ a,N a→H a≠none) {items:List Value} {xs:List V} {ds:List D} (fD:Off X pins da) (fK:Off X pins kS) (ne:da≠kS) (rv:Vals xs items) (dn:DenL X.K N H ds xs) (ok:SortOk F ds)
  {E:Value→Shared→Prop} {P:PySem.Fin→Shared→Prop} (q:∀ s' H' vs,Inv X pins σ (upd H' da (.lst vs)) s'→Same H H'→H' da=none→DenL X.K N H' (Zds (ltF F) ds) vs→P (.done (.ret .none)) s') :
  wpAny (model X.prog X.w) A (ksk_rest da (.ref fn) false items.toArray e1 (.ref kS)) P E s:=by
 have l1:=dn.length
 have l2:=rv.length
 have few:=ok.few
 have hsl:sizeLine=16777216:=sizeLine_eq
 unfold ksk_rest
 refine wpAny_bind (wpAny_rule ?_)
 refine wpAny_bind (wpAny_forIn_array' _ (fun rest _ s'=>∃ (done:List Value) (H':Hp) (us:List Value) (kvs:List V) (e2:Nat),items=done++rest∧us.length=done.length∧Inv X (pins++[(da,lob [] e1)]++[(kS,lob us e2)]) σ H' s'∧Same H H'∧Vals kvs us∧DenL X.K N H' ((ds.take done.length).map (Zbp F)) kvs) _ ?_ ?_ items.toArray PUnit.unit ?_)
 ·rintro u rest b s1 ⟨done,H1,us,kvs,e2,hi,hl,I1,sm,rk,dk⟩
  have hdl:done.length<ds.length:=by
   have:=congrArg List.length hi
   simp at this
   omega
  have hx:ds[done.length]?=some ds[done.length]:=List.getElem?_eq_getElem hdl
  generalize ds[done.length]=x at hx
  obtain ⟨v,hv,dv⟩:=dn.get hx
  have ru:RelV v u:=by
   have:=ZeB rv [done.length]
   cases this with
   | cons a _ =>
    have e1:xs.getD done.length .non=v:=by simp [List.getD,hv]
    have e2:items.getD done.length .none=u:=by rw [hi];simp [List.getD]
    rw [← e1,← e2];exact a
  obtain ⟨r,hF⟩:=ok.tells x (List.mem_of_getElem? hx)
  refine wpAny_bind (wpAny_attempt ?_)
  refine ZpU (N:=N) Fo hb I1 A hr (hA _ _ I1.env0) (fun a ha z=>nh a ha (sm.none z)) (dv.same sm) ru hF fun u' s2 v' H2 I2 sm2 dv2 rv2=>?_
  obtain ⟨gk,hk⟩:=I2.pinGet (a:=kS) (List.mem_append_right _ List.mem_cons_self)
  have I3:Inv X (pins++[(da,lob [] e1)]) σ H2 s2:=I2.unpinned
  obtain ⟨n3,g3,I4⟩:=I3.rawset (f:=fun x=>x.push u') (its':=us++[u']) hk (fK.more ne) gk (by simp)
  refine wpAny_bind (listUpdate_at gk rfl ?_ (by simp;omega) (by simp;omega))
  refine wpAny_pure ?_
  refine ⟨done++[u],H2,us++[u'],kvs++[v'],n3,by rw [hi];simp,by simp [hl],I4.pin1 hk (fK.more ne) g3 (ZhD _ _),sm.trans sm2,rk.append (.cons rv2 .nil),?_⟩
  have e:(ds.take (done++[u]).length).map (Zbp F)=(ds.take done.length).map (Zbp F)++[Zbp F x]:=by
   rw [List.length_append,List.length_singleton,List.take_succ,hx]
   simp
  rw [e]
  exact (dk.same sm2).append (DenL.cons dv2 DenL.nil)
 ·rintro b s1 ⟨done,H1,us,kvs,e2,hi,hl,I1,sm,rk,dk⟩
  rw [List.append_nil] at hi
  subst hi
  obtain ⟨gk,hk⟩:=I1.pinGet (a:=kS) (List.mem_append_right _ List.mem_cons_self)
  obtain ⟨gd',hd⟩:=I1.pinGet (a:=da) (List.mem_append_left _ (List.mem_append_right _ List.mem_cons_self))
  refine wpAny_bind (listItems_at gk rfl ?_)
  have ht:ds.take items.length=ds:=List.take_of_length_le (by omega)
  rw [ht] at dk
  refine Zor (N:=N) I1 A hu ok dk rk (by omega) fun p st hp hs ha hf=>?_
  have hpl:p.length=ds.length:=by have:=hp.length_eq;simpa using this
  refine Zog A I1 fD fK ne (by omega) ha hf (ZeB rv p) (by rw [List.length_map];omega) fun s' J=>?_
  refine q s' H1 _ J sm hd ?_
  rw [← hs]
  exact Zkk (dn.same sm) p fun j hj=>by have:=hp.subset hj;simpa using this
 ·exact ⟨[],H,[],[],e0,by simp,rfl,I,Same.refl H,.nil,DenL.nil⟩
theorem Zov (Fo:FnOk X.prog X.w X.K X.mg X.base CX0 k fn fd ps (spD X.K F)) (hb:Binds X.K fd ps []) (A:Around) (hr:Room k A) (hu:A.units+40<cLine) (hA:∀ s H,Env0 X.prog X.w X.K X.mg X.base X.A X.stack s H→Env0 X.prog X.w X.K X.mg X.base A X.stack s H)
  (I:Inv X pins σ H s) (nh:∀ a,N a→H a≠none) {da:Addr} {items:List Value} {n0:Nat} {xs:List V} {ds:List D} (g:s.heap.get? da=some (lob items n0)) (hD:H da=none) (fD:Off X pins da) (rv:Vals xs items) (dn:DenL X.K N H ds xs) (ok:SortOk F ds)
  {E:Value→Shared→Prop} {P:PySem.Fin→Shared→Prop} (q:∀ s' H' vs,Inv X pins σ (upd H' da (.lst vs)) s'→Same H H'→H' da=none→DenL X.K N H' (Zds (ltF F) ds) vs→P (.done (.ret .none)) s') :
  wpAny (model X.prog X.w) A (ksk_tree da (.ref fn) false) P E s:=by
 have l1:=dn.length
 have l2:=rv.length
 have few:=ok.few
 have hsl:sizeLine=16777216:=sizeLine_eq
 unfold ksk_tree
 refine wpAny_bind (listItems_at g rfl ?_)
 obtain ⟨n1,g1,I1⟩:=I.rawset (f:=fun _=>#[]) (its':=[]) hD fD g rfl
 refine wpAny_bind (listUpdate_at g rfl ?_ (by simp;omega) (by simp))
 refine wpAny_bind (seqEpoch_at g1 rfl ?_)
 refine wpAny_bind (wpAny_newTuple ?_ (by simp;omega))
 generalize hs1:({ heap:=s.heap.update da (Obj.mapSeq fun x=>#[]),gens:=s.gens,drawn:=s.drawn,toks:=s.toks,os:=s.os }:Shared)=s1 at *
 have g1':s1.heap.get? da=some (lob [] n1):=by rw [← hs1];exact g1
 have I2:=I1.kept (t':=s1.toks) (fun b u e=>Heap.get?_push_of_some { cls:=.type "tuple",data:=.seq items.toArray } e)
 have g2:=Heap.get?_push_of_some { cls:=.type "tuple",data:=.seq items.toArray } g1'
 generalize hs2:({ heap:=s1.heap.push { cls:=.type "tuple",data:=.seq items.toArray },gens:=s1.gens,drawn:=s1.drawn,toks:=s1.toks,os:=s1.os }:Shared)=s2 at *
 have g2':s2.heap.get? da=some (lob [] n1):=by rw [← hs2];exact g2
 refine wpAny_bind (wpAny_newList ?_ (by simp))
 have I3:=I2.kept (t':=s2.toks) (fun b u e=>Heap.get?_push_of_some (lob [] 0) e)
 have g3:=Heap.get?_push_of_some (lob [] 0) g2'
 have gk:=Heap.get?_push_size s2.heap (o:=lob [] 0) rfl
 have fK:=I2.off (Nat.le_refl s2.heap.objs.size)
 have hK:H s2.heap.objs.size=none:=I2.fresh
 have ne:da≠s2.heap.objs.size:=Nat.ne_of_lt (Heap.lt_size g2')
 refine wpAny_holding ?_
 exact Zox (N:=N) Fo hb A hr hu hA ((I3.pin1 hD fD g3 (ZhD _ _)).pin1 hK (fK.more ne) gk (ZhD _ _)) nh fD fK ne rv dn ok q
theorem Zmp (Fo:FnOk X.prog X.w X.K X.mg X.base CX0 k fn fd ps (spD X.K F)) (hb:Binds X.K fd ps []) (hr:Room (k+2) X.A)
  (I:Inv X pins σ H s) (nh:∀ a,N a→H a≠none) {a:Addr} {xs:List V} {ds:List D} (hs:SqL X.K H a xs) (dn:DenL X.K N H ds xs) (ok:SortOk F ds) {Q:VK}
  (q:∀ da vs H',Same H H'→H da=none→H' da=some (.lst vs)→DenL X.K (fun b=>N b∨b=da) H' (Zds (ltF F) ds) vs→Q (.ref da) H') :
  wpAny (model X.prog X.w) X.A (call (.builtin "sorted") [.ref a] [("key",.ref fn)]) (EP X pins σ Q) X.xe s:=by
 have l1:=dn.length
 have few:=ok.few
 have hsl:sizeLine=16777216:=sizeLine_eq
 obtain ⟨its,rv,⟨o,n,ho,hc,hdd,hd⟩,hz⟩:=I.list hs
 have l2:=rv.length
 refine wpAny_call (codeAny_call_builtin plain_sorted entry_sorted ?_)
 have hck:checkBuiltinCall "sorted" ⟨[.ref a],[("key",.ref fn)]⟩=pure ():=by rfl
 rw [hck]
 refine wpAny_pure ?_
 unfold PySem.Builtin.sorted
 have hcc:checkCount "sorted" 1 1 1=pure ():=rfl
 show wpAny _ _ (do checkCount "sorted" 1 1 1;let y ← collect (.ref a);let l ← newList y;let _ ← holding [l] (call (.builtin "list.sort") [l] [("key",.ref fn)]);ret l) _ _ _
 rw [hcc]
 refine wpAny_bind (wpAny_pure ?_)
 refine wpAny_bind (wpAny_collect_seq a (T:="list") (.inl rfl) ho hc hd (fun h1 k1=>?_) (by simp;omega))
 have I1:=I.kept (t':=s.toks) k1
 refine wpAny_bind (wpAny_newList ?_ (by simp;omega))
 generalize hs1:({ heap:=h1,gens:=s.gens,drawn:=s.drawn,toks:=s.toks,os:=s.os }:Shared)=s1 at *
 have I2:=I1.kept (t':=s1.toks) (fun b u e=>Heap.get?_push_of_some (lob its 0) e)
 have g:=Heap.get?_push_size s1.heap (o:=lob its 0) rfl
 have fD:=I1.off (Nat.le_refl s1.heap.objs.size)
 have hD:H s1.heap.objs.size=none:=I1.fresh
 refine wpAny_bind (wpAny_holding ?_)
 refine wpAny_call (codeAny_call_builtin PySem.F.slot_list_sort.plain PySem.F.entry_list_sort ?_)
 refine PySem.F.slot_list_sort.check _ _ _ _ _ _ _ _ ⟨_,g,rfl⟩ rfl ?_
 rw [ksk_t1]
 refine Zov (N:=N) Fo hb X.A.in1.in1 hr.in1.in1 ?_ (fun s H e=>e.in1.in1) I2 nh g hD fD rv dn ok fun s' H' vs J sm hn dv=>?_
 ·have:=hr.un;show X.A.units+1+1+40<_;omega
 ·refine wpAny_pure ?_
  refine ⟨.ref _,_,J,rfl,q _ vs _ (fun b u e=>?_) hD Zak ?_⟩
  ·rw [ZE (fun z=>by rw [z,hD] at e;cases e)];exact sm b u e
  ·exact DenL.step (M:=fun _=>False) ⟨fun b u e z=>by
    rw [ZE (fun z=>by rw [z,hn] at e;cases e)];exact e,fun b hb=>by
    rcases hb with hb | hb
    ·exact .inl hb
    ·subst hb;exact .inr hn⟩ _ _ dv
end
end L2
set_option Elab.async false
set_option linter.all false
set_option maxRecDepth 100000
namespace L2
open PySem PySem.Spec PyProof.Rows PySem.W
section
variable {X:Cx} {M:Fb} {H0:Hp} {k:Nat} {fn:Addr} {fd:FuncData} {ps:List Str} {F:List Sl→Option Rv} {e:Expr} {f:VE→Option D} {x y:Str} {p p2 kpos pos:Pos}
noncomputable def ZgN (F:List Sl→Option Rv) (f:VE→Option D):VE→Option (List D):=fun ρ=>match f ρ with
 | some (.lst xs)=>Zh5 F xs
 | _=>none
theorem Zn2 (Fo:FnOk X.prog X.w X.K X.mg X.base CX0 k fn fd ps (spD X.K F)) (hr:Room (k+2) X.A) (hg:Gl X x) (hm:X.mg x=none) (hv:bootBuiltins x=some (.builtin "sorted")) (hgf:Gl X y) (hmf:X.mg y=some (.ref fn)) (hb:Binds X.K fd ps []) (he:PE X e (tP X.K M H0 f))
  (hn:x≠"__name__":=by decide) (hdb:(x==("__debug__":Str))=false:=by decide) (hdb2:(y==("__debug__":Str))=false:=by decide) (hs:starEach [e] X.env=(false,eval e X.env)::starEach [] X.env:=by exact Zaa (fun _ _ z=>nomatch z)) :
  PE X (.Call (.Name x p) [e] [⟨some "key",.Name y p2,kpos⟩] pos) (tF X.K M H0 (ZgN F f)):=by
 intro pins s σ H Q I h
 obtain ⟨ρ,ys,R,ev,q⟩:=h
 refine wpAny_Call_Name_kw (Zex I hg hm hv ?_ hn hdb)
 unfold ZgN at ev
 split at ev
 ·next xs hf =>
  obtain ⟨ok,rfl⟩:=Zn4 ev
  have ha:=(Zdb he (pa_nil (X:=X)) hs) pos pins s σ H (fun vs H1=>∃ v,vs=[v]∧Same H H1∧DenP X.K (Nf M ρ σ) H1 (.lst xs) v) I ⟨ρ,.lst xs,R,hf,fun v H1 s1 d1=>⟨v,rfl,s1,d1⟩⟩
  have hkw:=Zqz (nm:=some "key") (kpos:=kpos) (Zb2 (v:=.ref fn) (pos:=p2) hgf hmf rfl hdb2) (Zru (X:=X))
  rw [hs] at ha ⊢
  refine callWith_builtin_kwB rfl rfl ?_
  unfold evalArgs
  refine wpAny_bind (thn ha fun us s1 hh=>?_)
  obtain ⟨vs,H1,I1,r1,v,rfl,sm,d1⟩:=hh
  refine wpAny_bind (wpAny_pure ?_)
  refine wpAny_holding ?_
  refine wpAny_bind (thn (hkw pos pins s1 σ H1 (fun zs H2=>zs=[.ref fn]∧H2=H1) I1 ⟨rfl,rfl⟩) fun ks s2 hh=>?_)
  obtain ⟨zs,H2,I2,r2,rfl,rfl⟩:=hh
  refine wpAny_bind (wpAny_pure ?_)
  refine wpAny_pure ?_
  obtain ⟨u,rfl,ru⟩:=Zd6 r1
  obtain ⟨u2,rfl,ru2⟩:=Zd6 r2
  cases ru2
  obtain ⟨a,ws,rfl,sq,dl⟩:=d1
  cases ru
  have R1:=R.st sm
  exact Zmp (N:=Nf M ρ σ) Fo hb hr I2 R1.nh sq dl ok fun da vs H' s' hn' hd' dv=>q da vs H' (sm.trans s') (sm.none hn') hd' dv
 ·cases ev
theorem ZmH (Fo:FnOk X.prog X.w X.K X.mg X.base CX0 k fn fd ps (spD X.K F)) (hr:Room (k+2) X.A) (hg:Gl X x) (hm:X.mg x=none) (hv:bootBuiltins x=some (.builtin "sorted")) (hgf:Gl X y) (hmf:X.mg y=some (.ref fn)) (hb:Binds X.K fd ps []) (he:JE X e (tP X.K M H0 f))
  (hn:x≠"__name__":=by decide) (hdb:(x==("__debug__":Str))=false:=by decide) (hdb2:(y==("__debug__":Str))=false:=by decide) (hs:starEach [e] X.env=(false,eval e X.env)::starEach [] X.env:=by exact Zaa (fun _ _ z=>nomatch z)) :
  JE X (.Call (.Name x p) [e] [⟨some "key",.Name y p2,kpos⟩] pos) (tF X.K M H0 (ZgN F f)):=⟨Zn2 Fo hr hg hm hv hgf hmf hb he.h hn hdb hdb2 hs⟩
end
end L2
set_option Elab.async false
set_option linter.all false
set_option maxRecDepth 100000
namespace L2
open PySem PySem.Spec PyProof.Rows
section
variable {X:Cx} {K:PySem.W.Frag} {M:Fb} {H0:Hp} {pos:Pos} {tg elt iter:Expr} {ifs:List Expr} {scope:Scope} {ws:List Nat} {f:VE→Option (List D)} {b:D→VE→Option VE} {t:VE→Option Bool} {e:VE→Option D} {k:Nat} {oix:List Nat}
@[simp] theorem ZrJ (xs:List D):Zkq (.lst xs)=some xs:=rfl
end
end L2
set_option Elab.async false
set_option linter.all false
set_option maxRecDepth 100000
namespace L2
open PySem PySem.Spec PyProof.Rows PySem.W
section
variable {X:Cx} {pins:List (Addr×Obj)} {σ:St} {H:Hp} {s:Shared} {A:Around} {E:Value→Shared→Prop} {tr:List T3} {a:Addr} {k:KT} {y v:V} {u r:Value}
end
section
variable {X:Cx} {pins:List (Addr×Obj)} {σ:St} {H:Hp} {A:Around} {a it l:Addr} {N:Fb} {us:List Value} {R:Result→Shared→Prop}
end
section
variable {X:Cx} {M:Fb} {H0:Hp} {e:Expr} {f:VE→Option D} {p pos:Pos}
end
end L2
set_option Elab.async false
set_option linter.all false
set_option maxRecDepth 100000
namespace L2
open PySem PySem.Spec PyProof.Rows PySem.W
section
variable {X:Cx} {K:PySem.W.Frag} {M:Fb} {H0:Hp}
theorem ZoK {st:Stmt}:PS X st (tS K M H0 fun _=>.fail):=fun pins s σ H D I ⟨ρ,R,q⟩=>False.elim q
theorem Zdk {st:Stmt}:JS X st (tS K M H0 fun _=>.fail):=⟨ZoK⟩
@[simp] def ZvU:List D→Option D
  | [.int i]=>if i.natAbs.log2<1920 then some (.str (toString i)) else none
  | [.str z]=>some (.str z)
  | _=>none
@[simp] def ZvX:List D→Option D
  | [.str z]=>if z.length≤640 then (PySem.intText? z).map D.int else none
  | _=>none
@[simp] def Zvj (z:Str):List D→Option D
  | [.str y]=>if (y.length==0)=false∧z.length≤sizeLine∧(Txt.split z y).length≤sizeLine then some (.lst ((Txt.split z y).map D.str)) else none
  | _=>none
end
end L2
set_option Elab.async false
set_option linter.all false
set_option maxRecDepth 100000
namespace L2
open PySem PySem.Spec PyProof.Rows
end L2
set_option Elab.async false
set_option linter.all false
set_option maxRecDepth 100000
namespace L2
open PySem PySem.Spec PyProof.Rows PySem.W
section
variable {X:Cx} {M:Fb} {H0:Hp} {e a b:Expr} {es:List Expr} {f:VE→Option D} {pos:Pos}
@[simp] def ZvQ:Option D→Option D
  | some (.int i)=>if i.natAbs.log2<1920 then some (.str (toString i)) else none
  | some (.str z)=>if z.length≤sizeLine then some (.str z) else none
  | _=>none
def Zso (acc:Str) (zs:List Str):Str:=zs.foldl (·++·) acc
@[simp] def ZvI (o:Option D) (p:Option (List Str)):Option (List Str):=match o,p with
  | some (.str z),some zs=>some (z::zs)
  | _,_=>none
@[simp] def ZvG (p:Option (List Str)):Option D:=match p with
  | some zs=>if (Zso Str.empty zs).length≤sizeLine then some (.str (Zso Str.empty zs)) else none
  | none=>none
end
end L2
set_option Elab.async false
set_option linter.all false
set_option maxRecDepth 100000
namespace L2
open PySem PySem.Spec PyProof.Rows PySem.W
structure ZaR (K:Frag) (C:Addr):Prop where
 ga:findIn K (.ref C) "__getattribute__"=some (some (.builtin "BaseException.__getattribute__"))
 cl:findIn K (.ref C) "__class__"=some (some (.builtin "object.__class__"))
 gr:findIn K (.ref C) "__getattr__"=some none
 bx:subIn K (.ref C) (.type "BaseException")=some true
 ob:subIn K (.ref C) (.type "object")=some true
 ty:typeIn K (.ref C)=some (.type "type")
 is:∃ cd,clsIn K C=some cd
section
variable {prog:Program} {w:World} {A:Around} {E:Value→Shared→Prop} {h:Heap} {g:Array GenState} {d:Drawn} {t:Nat} {os:OsState} {e C:Addr} {K:Frag}
theorem Ztg {R:Result→Shared→Prop} (X:K.In h) (F:ZaR K C) (p:XAt e C h) (hq:R (.ok (.ret (.ref C))) ⟨h,g,d,t,os⟩):codeAny (model prog w) A (.call (.builtin "getset_descriptor.__get__") ⟨[.builtin "object.__class__",.ref e,.ref C],[]⟩) R ⟨h,g,d,t,os⟩:=by
 obtain ⟨o,vs,h1,h2,h3⟩:=p
 have T5:(⟨h,g,d,t,os⟩:Shared).TypeIs (.builtin "object.__class__") "getset_descriptor":=PySem.F.typeOf_object_class
 have L1:Looks (model prog w) h (isSubtype (.ref C) (.type (".".intercalate ("object.__class__".cutAt '.').dropLast))) true:=by rw [PySem.F.owner_object_class];exact looks_subIn X F.ob
 refine codeAny_call_builtin PySem.F.slot_gs_get.plain PySem.F.entry_gs_get (PySem.F.slot_gs_get.check _ _ _ _ _ _ _ _ T5 (PySem.F.args_gs_get _ _ _) ?_)
 repeat (any_goals (first | assumption | (with_reducible refine wpAny_loadPart_at h1 ?_;rw [h2]) | (with_reducible refine Looks.at L1 ?_) | wp_step))
 refine ⟨Code.quiet_builtin _ (by decide +kernel),codeAny_builtin PySem.F.entry_object_class ?_⟩
 repeat (any_goals (first | assumption | (with_reducible refine wpAny_loadPart_at h1 ?_;rw [h2]) | wp_step))
theorem Zp0 {tk:Tok} {Q:Fin→Shared→Prop} (X:K.In h) (F:ZaR K C) (p:XAt e C h) (hq:Q (.done (.ret (.ref C))) ⟨h,g,d,t,os⟩):wpAny (model prog w) A (Builtin.«object.__getattribute__» ⟨[.ref e,.str "__class__" tk],[]⟩) Q E ⟨h,g,d,t,os⟩:=by
 obtain ⟨o,vs,h1,h2,h3⟩:=id p
 have T5:(⟨h,g,d,t,os⟩:Shared).TypeIs (.builtin "object.__class__") "getset_descriptor":=PySem.F.typeOf_object_class
 have L1:Looks (model prog w) h (typeLookup (.ref C) "__class__") _:=looks_findIn X F.cl
 have e5:=PySem.F.typeOf_object_class
 have e6:=PySem.F.slot_gs_get.lookup
 have e7:=PySem.F.slot_gs_set.lookup
 repeat (any_goals (first | assumption | (with_reducible refine wpAny_loadPart_at h1 ?_;rw [h2]) | (with_reducible refine Looks.at L1 ?_) | wp_step))
 refine Ztg X F p ?_
 repeat (any_goals (first | assumption | wp_step))
theorem Zqq {M:Model} {nv:Value} {Q:Unit→Shared→Prop} (X:K.In h) (F:ZaR K C) (p:XAt e C h) (hq:Q () ⟨h,g,d,t,os⟩):wpAny M A (checkBuiltinCall "BaseException.__getattribute__" ⟨[.ref e,nv],[]⟩) Q E ⟨h,g,d,t,os⟩:=by
 obtain ⟨o,vs,h1,h2,h3⟩:=p
 have k1:builtinKind "BaseException.__getattribute__"=some .slot:=by decide +kernel
 have k2:splitId "BaseException.__getattribute__"=some ("BaseException","__getattribute__"):=by decide +kernel
 have L1:Looks M h (isSubtype (.ref C) (.type "BaseException")) true:=looks_subIn X F.bx
 have k3:=PySem.F.args_bexc_ga (.ref e) nv
 simp only [checkBuiltinCall,k1,k2]
 refine wpAny_bind ?_
 unfold isInstance
 repeat (first | (with_reducible refine wpAny_loadPart_at h1 ?_;rw [h2]) | (with_reducible refine Looks.at L1 ?_) | wp_step)
 exact hq
theorem ZsA {tk:Tok} {R:Result→Shared→Prop} (X:K.In h) (F:ZaR K C) (p:XAt e C h) (hq:R (.ok (.ret (.ref C))) ⟨h,g,d,t,os⟩) :
  codeAny (model prog w) A (.call (.builtin "BaseException.__getattribute__") ⟨[.ref e,.str "__class__" tk],[]⟩) R ⟨h,g,d,t,os⟩ :=
 codeAny_call_builtin PySem.F.excAttr_ValueError.ga.plain PySem.F.entry_bexc_ga (Zqq X F p (Zp0 X F p hq))
theorem ZuG {tk:Tok} {Q:Value→Shared→Prop} (X:K.In h) (F:ZaR K C) (p:XAt e C h) (hq:Q (.ref C) ⟨h,g,d,t,os⟩):wpAny (model prog w) A (getAttrBy (.ref e) (.str "__class__" tk) false) Q E ⟨h,g,d,t,os⟩:=by
 obtain ⟨o,vs,h1,h2,h3⟩:=id p
 have L1:Looks (model prog w) h (typeLookup (.ref C) "__getattribute__") _:=looks_findIn X F.ga
 have L2:Looks (model prog w) h (typeLookup (.ref C) "__getattr__") _:=looks_findIn X F.gr
 have b3:=PySem.F.excAttr_ValueError.ga.bind (.ref e)
 have b2:(Value.builtin "BaseException.__getattribute__"==Value.builtin "object.__getattribute__")=false:=by decide +kernel
 have b1:(onTheHeap (Value.ref C)&&Value.builtin "BaseException.__getattribute__"==Value.builtin "object.__getattribute__")=false:=by rw [b2];rfl
 repeat (any_goals (first | assumption | (with_reducible refine wpAny_loadPart_at h1 ?_;rw [h2]) | (with_reducible refine Looks.at L1 ?_) | (with_reducible refine Looks.at L2 ?_) | wp_step))
 refine ZsA X F p ?_
 repeat (any_goals (first | assumption | wp_step))
theorem ZrR {s:Shared} {Q:Option Value→Shared→Prop} (X:K.In s.heap) (F:ZaR K C) (p:XAt e C s.heap) (hq:Q (some (.ref C)) { s with toks:=s.toks+1 }):wpAny (model prog w) A (getAttr? (.ref e) "__class__") Q E s:=by
 obtain ⟨h,g,d,t,os⟩:=s
 unfold getAttr? getAttrBy?
 repeat (any_goals (first | assumption | with_reducible apply ZuG X F p | wp_step))
theorem Zti (F:ZaR K C):KitX K (.ref e) (.ref C) (XAt e C) where
 ty:=fun M h X p=>by
  obtain ⟨o,vs,h1,h2,h3⟩:=p
  intro A Q E s k q
  unfold typeOf
  exact wpAny_bind (wpAny_loadPart (k _ _ h1) (wpAny_pure (by rw [h2];exact q)))
 it:=fun M h X _=>by
  obtain ⟨cd,hc⟩:=F.is
  unfold clsIn at hc
  split at hc
  ·rename_i ho
   intro A Q E s k q
   unfold isType loadHead
   exact wpAny_bind (wpAny_loadPart (k _ _ (X _ _ ho)) (wpAny_pure q))
  ·cases hc
 ne:=fun h tp dd its n sl X htp=>by
  obtain ⟨cd,hc⟩:=F.is
  refine Bool.eq_false_iff.mpr fun q=>?_
  obtain rfl:C=tp:=Value.ref.inj (beq_iff_eq.mp q)
  unfold clsIn at hc
  split at hc
  ·rename_i ho
   have z:=(X _ _ ho).symm.trans htp
   cases z
  ·cases hc
 ca:=fun X p k=>ZrR X F p k
end
end L2
set_option Elab.async false
set_option linter.all false
set_option maxRecDepth 100000
namespace L2
open PySem PySem.Spec PyProof.Rows PySem.W
structure Air (B:Heap) (l:List Env) (e:Addr) (C fl:Value) (h:Heap):Prop where
 stay:B.StaysIn h
 new:B.get? e=none
 fun_:h.FunFrames B l
 rcd:∃ oe vs,h.get? e=some oe∧oe.cls=C∧oe.data=.fields vs∧vs[2]?=some .none∧(vs[1]?=some .none∨∃ T oT ts,vs[1]?=some (.ref T)∧B.get? T=none∧T≠e∧h.get? T=some oT∧oT.data=.fields ts∧ts[3]?=some fl)
section
variable {M:Model} {A:Around} {E:Value→Shared→Prop} {s:Shared} {B:Heap} {l outer:List Env} {env:Env} {e L:Addr} {C fl:Value} {Q:Unit→Shared→Prop}
theorem Air.outs {h:Heap} (a:Air B (env::outer) e C fl h):Air B outer e C fl h:=⟨a.stay,a.new,a.fun_.2.2,a.rcd⟩
theorem Zie {h:Heap} {b x:Addr} {o ox:Obj} {ws:Array Value} (hb:h.get? b=some o) (nf:∀ vs,o.data≠.fields vs) (hx:h.get? x=some ox) (dx:ox.data=.fields ws):b≠x:=fun q=>by
 subst q;rw [hb] at hx;cases hx;exact nf ws dx
theorem ZiX {head:Value} {hn:Bool} {oe:Obj} {vs:Array Value} (hfr:A.frames=some (env::outer)) (hf:env.frame=some L) (st:B.StaysIn s.heap) (nw:B.get? e=none) (ff:s.heap.FunFrames B (env::outer))
  (h1:s.heap.get? e=some oe) (h2:oe.cls=C) (h3:oe.data=.fields vs) (h4:vs[2]?=some .none) (hz:1<vs.size) (q:∀ h',Air B (env::outer) e C (rawInt L) h'→s.heap.UpToSlots h'→Q () { s with heap:=h' }) :
  wpAny M A (do let a ← frameOf env;let pl ← entryPlaceOf L hn;let b ← EntryCells.newEntry head a .none (rawInt L) .none pl;setField (.ref e) 1 b) Q E s:=by
 have ef:e∉(env::outer).filterMap (·.frame):=fun hm=>by
  obtain ⟨_,o,ho,z⟩:=ff.mem hm
  rw [h1] at ho;cases ho;exact z vs h3
 refine wpAny_bind (wpAny_frameOf_fun hfr ff hf fun g1 sg=>wpAny_bind (wpAny_entryPlaceOf fun pq hpq=>?_))
 unfold EntryCells.newEntry newFields;refine wpAny_bind (wpAny_newObj_type ?_ (hpq.sizeOk5 _ _ _ _ _))
 have e1:g1.get? e=some oe:=(sg.2.1 e ef).trans h1
 have s1:B.StaysIn g1:=fun b o z=>(sg.2.1 b fun hm=>by rw [(ff.mem hm).1] at z;cases z).trans (st b o z)
 generalize ho:({ cls:=.type "traceback",dict:=none,data:=.fields ([head,.ref L,.none,rawInt L,.none]++(if pq.isEmpty then List.replicate 6 Value.none else pq)).toArray }:Obj)=tb
 have tbd:∃ ts,tb.data=.fields ts∧ts[3]?=some (rawInt L):=by subst ho;exact ⟨_,rfl,by simp⟩
 have tbf:tb.isFreed=false:=by subst ho;rfl
 obtain ⟨ts,td,t3⟩:=tbd
 have e2:=Heap.get?_push_of_some (h:=g1) tb e1
 refine wpAny_setField e2 h3 hz (q _ ?_ ?_)
 all_goals
  have d3:=Obj.data_mapFields h3 (·.setIfInBounds 1 (Value.ref g1.objs.size))
  have e3:=Heap.get?_update_self (Obj.mapFields (·.setIfInBounds 1 (Value.ref g1.objs.size))) e2 (Obj.isFreed_of_fields d3)
  have ne:g1.objs.size≠e:=Nat.ne_of_gt (Heap.lt_size e1)
  have kp:∀ b o,b≠e→g1.get? b=some o→((g1.push tb).update e (Obj.mapFields (·.setIfInBounds 1 (Value.ref g1.objs.size)))).get? b=some o:=fun b o z zb=>by
   rw [Heap.get?_update_other _ _ (Ne.symm z)];exact Heap.get?_push_of_some _ zb
 ·refine ⟨fun b o z=>kp b o (fun y=>by rw [y,nw] at z;cases z) (s1 b o z),nw,ff.of_keeps fun b o zb nf=>?_,_,_,e3,(Obj.cls_mapFields _ _).trans h2,d3,by rw [Array.getElem?_setIfInBounds_ne (by decide)];exact h4,.inr ⟨g1.objs.size,tb,ts,by simp [hz],s1.fresh,ne,?_,td,t3⟩⟩
  ·obtain ⟨sl,hs⟩:=sg.2.2 b o zb
   exact ⟨_,kp b _ (Zie zb nf h1 h3) hs,rfl⟩
  ·rw [Heap.get?_update_other _ _ (Ne.symm ne)];exact Heap.get?_push_size g1 tbf
 ·intro b o zb nf
  obtain ⟨sl,hs⟩:=sg.2.2 b o zb
  exact ⟨sl,kp b _ (Zie zb nf h1 h3) hs⟩
theorem Zko {T:Addr} {oT oe:Obj} {ts:Array Value} {v:Value} (st:B.StaysIn s.heap) (ff:s.heap.FunFrames B l) (h1:s.heap.get? e=some oe) (nT:B.get? T=none) (ne:T≠e) (hT:s.heap.get? T=some oT) (dT:oT.data=.fields ts) (hz:3<ts.size)
  (q:∀ h',B.StaysIn h'→h'.FunFrames B l→h'.get? e=some oe→(∃ o2 t2,h'.get? T=some o2∧o2.data=.fields t2∧t2[3]?=some v)→s.heap.UpToSlots h'→Q () { s with heap:=h' }):wpAny M A (setField (.ref T) 3 v) Q E s:=by
 refine wpAny_setField hT dT hz ?_
 have oth:∀ b,b≠T→(s.heap.update T (Obj.mapFields (·.setIfInBounds 3 v))).get? b=s.heap.get? b:=fun b z=>Heap.get?_update_other _ _ (Ne.symm z)
 refine q _ (fun b o z=>(oth b fun y=>by rw [y,nT] at z;cases z).trans (st b o z)) (ff.of_keeps fun b o zb nf=>⟨o,(oth b (Zie zb nf hT dT)).trans zb,rfl⟩) ((oth e (Ne.symm ne)).trans h1)
  ⟨_,_,Heap.get?_update_self _ hT (Obj.isFreed_of_fields (Obj.data_mapFields dT _)),Obj.data_mapFields dT _,by simp [hz]⟩ fun b o zb nf=>⟨o.slots,(oth b (Zie zb nf hT dT)).trans zb⟩
theorem ZkY (hfr:A.frames=some (env::outer)) (hf:env.frame=some L) (a:Air B (env::outer) e C .none s.heap) (q:∀ h',Air B (env::outer) e C (rawInt L) h'→s.heap.UpToSlots h'→Q () { s with heap:=h' }) :
  wpAny M A (noteFrame (.ref e) env) Q E s:=by
 obtain ⟨st,nw,ff,oe,vs,h1,h2,h3,h4,r⟩:=a
 unfold noteFrame;simp only [hf]
 rcases r with r | ⟨T,oT,ts,r,nT,ne,hT,dT,t3⟩
 ·refine wpAny_bind (wpAny_field h1 h3 r ?_)
  rw [if_neg (by decide)]
  exact ZiX hfr hf st nw ff h1 h2 h3 h4 (Array.getElem?_eq_some_iff.mp r).1 q
 ·refine wpAny_bind (wpAny_field h1 h3 r ?_)
  rw [if_pos (show (Value.ref T != Value.none)=true by simp)]
  refine wpAny_bind (wpAny_field hT dT t3 ?_)
  rw [if_neg (show ¬ (Value.none==rawInt L)=true by simp [rawInt])]
  refine wpAny_bind (Zko st ff h1 nT ne hT dT (Array.getElem?_eq_some_iff.mp t3).1 fun h' st' ff' h1' _ u=>?_)
  exact ZiX (s:={ s with heap:=h' }) hfr hf st' nw ff' h1' h2 h3 h4 (Array.getElem?_eq_some_iff.mp r).1 fun h2 a u2=>q h2 a (u.trans u2)
theorem ZhM (a:Air B l e C fl s.heap) (q:∀ h',Air B l e C .none h'→s.heap.UpToSlots h'→Q () { s with heap:=h' }):wpAny M A (setFlight (.ref e) none) Q E s:=by
 obtain ⟨st,nw,ff,oe,vs,h1,h2,h3,h4,r⟩:=a
 unfold setFlight
 rcases r with r | ⟨T,oT,ts,r,nT,ne,hT,dT,t3⟩
 ·refine wpAny_bind (wpAny_field h1 h3 r ?_)
  rw [if_neg (by decide)]
  exact wpAny_pure (q s.heap ⟨st,nw,ff,oe,vs,h1,h2,h3,h4,.inl r⟩ (.refl _))
 ·refine wpAny_bind (wpAny_field h1 h3 r ?_)
  rw [if_pos (show (Value.ref T != Value.none)=true by simp)]
  exact Zko st ff h1 nT ne hT dT (Array.getElem?_eq_some_iff.mp t3).1 fun h' st' ff' h1' ⟨o2,t2,z1,z2,z3⟩ u=>q h' ⟨st',nw,ff',oe,vs,h1',h2,h3,h4,.inr ⟨T,o2,t2,r,nT,ne,z1,z2,z3⟩⟩ u
theorem ZmV (hfr:A.frames=some (env::outer)) (hf:env.frame=some L) (a:Air B (env::outer) e C .none s.heap) (q:∀ h',Air B outer e C .none h'→s.heap.UpToSlots h'→Q () { s with heap:=h' }):wpAny M A (leaving env (.ref e)) Q E s:=by
 unfold leaving
 exact wpAny_bind (ZkY hfr hf a fun h1 a1 u1=>ZhM (s:={ s with heap:=h1 }) a1 fun h2 a2 u2=>q h2 a2.outs (u1.trans u2))
theorem _root_.L2.ObjOk.ob {P:Program} {w:World} {H:Hp} {h:Heap} {x:Addr} {o:HO} (z:ObjOk P w H h x o):∃ ob,h.get? x=some ob:=by
 cases o with
 | lst xs=>obtain ⟨_,_,_,_,q⟩:=z;exact ⟨_,q⟩
 | tup xs=>obtain ⟨_,_,_,ob,q,_⟩:=z;exact ⟨_,q⟩
 | dK kvs=>obtain ⟨_,_,_,_,ob,_,_,q,_⟩:=z;exact ⟨_,q⟩
 | dT kvs=>obtain ⟨_,_,_,_,ob,_,_,q,_⟩:=z;exact ⟨_,q⟩
 | dct ks vs=>obtain ⟨_,_,_,ob,_,_,q,_⟩:=z;exact ⟨_,q⟩
 | set S n=>obtain ⟨ob,_,_,_,q,_⟩:=z;exact ⟨_,q⟩
 | ins D dx fs=>obtain ⟨_,_,_,q,_⟩:=z;exact ⟨_,q⟩
 | own y=>exact z
 | xd fs=>obtain ⟨_,⟨_,_,_,q,_⟩,_⟩:=z;exact ⟨_,q⟩
 | rng lo hi=>obtain ⟨_,_,_,q⟩:=z;exact ⟨_,q⟩
 | frz ob u=>exact ⟨_,z.1⟩
 | tbl ps=>exact ⟨_,z⟩
 | met f y=>exact ⟨_,z⟩
 | ext φ=>exact z.2.1
def Fly (P:Program) (w:World) (l:List Env) (H H':Hp) (s:Heap) (e C:Addr) (h:Heap):Prop :=
 Same H H'∧Un (frs l) [] H H' s h∧∃ B,HOk P w H' B∧(∀ b o,s.get? b=some o→H b=none→b∉frs l→B.get? b=some o)∧Air B l e (.ref C) .none h
def CXv (P:Program) (w:World):CXT:=fun outer H s E e s'=>∃ a C H',e=.ref a∧s'.os=s.os∧AllBare s'.gens∧Fly P w outer H H' s.heap a C s'.heap∧E (.ref C) none H'
def Thr (Y:Cx) (pins:List (Addr×Obj)) (σ:St) (H:Hp) (C:Addr) (e:Value) (s':Shared):Prop :=
 ∃ a H2 H' s2,e=.ref a∧Inv Y pins σ H2 s2∧Same H H2∧s'.os=s2.os∧AllBare s'.gens∧Fly Y.prog Y.w Y.stack H2 H' s2.heap a C s'.heap
theorem Thr.from {Y:Cx} {pins:List (Addr×Obj)} {σ:St} {H H1:Hp} {C:Addr} {v:Value} {s':Shared} (sm:Same H H1) (t:Thr Y pins σ H1 C v s'):Thr Y pins σ H C v s':=by
 obtain ⟨a,H2,H',s2,e1,I,sm2,r⟩:=t
 exact ⟨a,H2,H',s2,e1,I,sm.trans sm2,r⟩
theorem Zm4 {fs:List Addr} {l:List Env} {H H2 H':Hp} {s s2 h h':Heap} {P:Program} {w:World} {C:Value} (u1:Un fs [] H H2 s s2) (u2:Un (frs l) [] H2 H' s2 h) (hk:HOk P w H' B) (k:∀ b o,s2.get? b=some o→H2 b=none→b∉frs l→B.get? b=some o)
  (hs:∀ b o,s.get? b=some o→H b=none→b∈frs l→b∈fs) (sm:Same H2 H') (a:Air B l e C fl h) (st:B.StaysIn h') (up:h.UpToSlots h'):Un fs [] H H' s h':=by
 have nx:∀ b:Addr,b∉([]:List Addr):=fun b=>by simp
 have fr:∀ b o,s2.get? b=some o→H2 b=none→b∈frs l→∃ sl,h'.get? b=some { o with slots:=sl }:=fun b o z n hb=>by
  obtain ⟨sl,z1⟩:=u2.any z n (nx b)
  obtain ⟨_,o',z2,nf⟩:=a.fun_.mem hb
  rw [z1] at z2;cases z2
  obtain ⟨sl',z3⟩:=up b _ z1 nf
  exact ⟨sl',z3⟩
 refine ⟨fun b o z n hb _=>?_,fun b o z n hb _=>?_,fun b o z n _=>?_,fun b o z _=>?_,fun b xs z=>u2.tups b xs (u1.tups b xs z),fun b o u z=>u2.frzs b o u (u1.frzs b o u z),fun b ps z=>?_⟩
 ·exact st b o (k b o (u1.keep b o z n hb (nx b)) (u1.free b o z n (nx b)) fun hl=>hb (hs b o z n hl))
 ·obtain ⟨sl,z1⟩:=u1.slot b o z n hb (nx b)
  by_cases hl:b∈frs l
  ·obtain ⟨sl',z2⟩:=fr b _ z1 (u1.free b o z n (nx b)) hl
   exact ⟨sl',z2⟩
  ·exact ⟨sl,st b _ (k b _ z1 (u1.free b o z n (nx b)) hl)⟩
 ·obtain ⟨o',z1⟩:=u1.there b o z (nx b)
  exact u2.free b o' z1 (u1.free b o z n (nx b)) (nx b)
 ·obtain ⟨o1,z1⟩:=u1.there b o z (nx b)
  cases hb:H2 b with
  | none =>
   by_cases hl:b∈frs l
   ·obtain ⟨sl',z2⟩:=fr b o1 z1 hb hl
    exact ⟨_,z2⟩
   ·exact ⟨o1,st b _ (k b _ z1 hb hl)⟩
  | some u =>
   obtain ⟨o2,z2⟩:=(hk b u (sm b u hb)).ob
   exact ⟨o2,st b _ z2⟩
 ·obtain ⟨m1,z1⟩:=u1.tbls b ps z
  obtain ⟨m2,z2⟩:=u2.tbls b _ z1
  exact ⟨m1++m2,by rw [z2,Array.append_assoc]⟩
theorem Zoz {P:Program} {w:World} {H:Hp} {h:Heap} {fs:List Addr} (hk:HOk P w H h) (nf:∀ b∈fs,H b=none):HOk P w H (hideAll h fs):=fun x o z =>
 (hk x o z).stay (fun b u hb q=>hideAll_get _ q fun hm=>by
  have:=nf b hm
  rcases hb with y | y
  ·rw [y,z] at this;cases this
  ·rw [y] at this;cases this) (fun _ q=>q) fun _ _ q=>q
theorem Zos {Y:Cx} {pins:List (Addr×Obj)} {σ:St} {H:Hp} {s:Shared} {D x:Addr} {vs:List Value} {h':Heap} (I:Inv Y pins σ H s) (m:Heap.MadeExcOf s.heap h' x (.ref D) vs):Thr Y pins σ H D (.ref x) { s with heap:=h' }:=by
 have ff:=I.stack
 have hin:∀ env∈Y.stack,∀ b,env.frame=some b→b∈Y.stack.filterMap (·.frame):=fun env he b hb=>List.mem_filterMap.mpr ⟨env,he,hb⟩
 have fb:(hideAll s.heap (frs Y.stack)).get? x=none:=by
  cases q:(hideAll s.heap (frs Y.stack)).get? x with
  | none=>rfl
  | some o=>have:=of_hideAll _ q;rw [m.new] at this;cases this
 have ff2:=funFrames_hide ff hin
 obtain ⟨tp,t1,t2,t3⟩:=m.there
 refine ⟨x,H,H,s,rfl,I,Same.refl H,rfl,I.bare,Same.refl H,Un.kept m.keeps,hideAll s.heap (frs Y.stack),Zoz I.hok I.stkFree,fun b o z n hb=>hideAll_get _ z hb,⟨fun b o z=>m.keeps b o (of_hideAll _ z),fb,?_,_,_,t1,rfl,rfl,rfl,.inl rfl⟩⟩
 exact ff2.of_keeps fun b o z _=>⟨o,m.keeps b o z,rfl⟩
theorem ZmU {Y:Cx} {pins:List (Addr×Obj)} {σ:St} {H:Hp} {s':Shared} {D:Addr} {v:Value} {E':XK} (ys:Y.stack=Y.env::Y.outer) (yf:Y.env.frame=some Y.env.locals) (ye:Y.ex=[]) (sm0:Same Y.H₀ H) (t:Thr Y pins σ H D v s') (hE:∀ H',Same Y.H₀ H'→E' (.ref D) none H') :
  wpAny M Y.A (leaving Y.env v) (fun _ s''=>CXv Y.prog Y.w Y.outer Y.H₀ Y.s₀ E' v s'') E s':=by
 obtain ⟨x,H2,H',s2,rfl,I,sm,os,ba,sm2,u,B,hk,kb,air⟩:=t
 have frm:=I.ok.frames
 rw [ys] at air u kb frm
 refine ZmV frm yf air fun h' a2 up=>⟨x,D,H',rfl,os.trans I.os,ba,⟨(sm0.trans sm).trans sm2,?_,B,hk,fun b o z n hb=>?_,a2⟩,hE H' ((sm0.trans sm).trans sm2)⟩
 ·have b0:=I.base
  rw [ye] at b0
  refine Zm4 (l:=Y.env::Y.outer) b0 u hk kb (fun b o z n hb=>?_) sm2 air a2.stay up
  rcases List.mem_cons.mp (show b∈Y.env.locals::frs Y.outer by unfold frs at hb ⊢;rw [List.filterMap_cons,yf] at hb;exact hb) with y | y
  ·exact absurd (y ▸ Heap.lt_size z) (Nat.not_lt.mpr I.ok.above)
  ·exact y
 ·have b0:=I.base
  rw [ye] at b0
  refine kb b o (b0.keep b o z n hb (by simp)) (b0.free b o z n (by simp)) fun hm=>?_
  rcases List.mem_cons.mp (show b∈Y.env.locals::frs Y.outer by unfold frs at hm ⊢;rw [List.filterMap_cons,yf] at hm;exact hm) with y | y
  ·exact absurd (y ▸ Heap.lt_size z) (Nat.not_lt.mpr I.ok.above)
  ·exact hb y
end
end L2
set_option Elab.async false
set_option linter.all false
set_option maxRecDepth 100000
namespace L2
open PySem PySem.Spec PyProof.Rows PySem.W
abbrev Cx.hand (Y:Cx) (x:Addr):Cx:={ Y with A:=Y.A.mark (some (.ref x)),calm:=false }
section
variable {Y:Cx} {pins:List (Addr×Obj)} {σ:St} {H H2 H':Hp} {s s2 s':Shared} {x D G:Addr} {fl f0:Value} {B h h':Heap}
theorem Inv.hand (I:Inv Y pins σ H s) (x:Addr):Inv (Y.hand x) pins σ H s :=
 ⟨⟨I.ok.mod,I.ok.kind,I.ok.glob,I.ok.blt,I.ok.above,I.ok.inj,I.ok.has,I.ok.cab,(fun z=>nomatch z),I.ok.frames,I.ok.stk,I.ok.exf,I.ok.bs,I.ok.bsz,I.ok.noex,I.ok.exfs,I.ok.funs,I.ok.frf⟩,I.os,I.bare,I.base,I.loc,I.cell,I.free,I.freeC,I.pin,I.hok,I.len⟩
theorem Inv.back (ok:Y.Ok) (I:Inv (Y.hand x) pins σ H s):Inv Y pins σ H s:=⟨ok,I.os,I.bare,I.base,I.loc,I.cell,I.free,I.freeC,I.pin,I.hok,I.len⟩
theorem ZlR (I:Inv Y pins σ H2 s2) (os:s'.os=s2.os) (ba:AllBare s'.gens) (sm:Same H2 H') (u:Un (frs Y.stack) [] H2 H' s2.heap h) (hk:HOk Y.prog Y.w H' B) (kb:∀ b o,s2.heap.get? b=some o→H2 b=none→b∉frs Y.stack→B.get? b=some o)
  (a0:Air B Y.stack x (.ref D) f0 h) (a:Air B Y.stack x (.ref D) fl h') (up:h.UpToSlots h'):H2 x=none∧Same H2 (upd H' x (.ext (XAt x D)))∧Inv Y pins σ (upd H' x (.ext (XAt x D))) { s' with heap:=h' }:=by
 have hx:H' x=none:=by
  cases q:H' x with
  | none=>rfl
  | some o=>obtain ⟨ob,z⟩:=(hk x o q).ob;rw [a.new] at z;cases z
 have sx:s2.heap.get? x=none:=by
  cases q:s2.heap.get? x with
  | none=>rfl
  | some o =>
   cases q2:H2 x with
   | some o2=>rw [sm x o2 q2] at hx;cases hx
   | none =>
    by_cases hf:x∈frs Y.stack
    ·obtain ⟨_,o3,z3,nf⟩:=a0.fun_.mem hf
     obtain ⟨oe,vs,z1,_,z2,_⟩:=a0.rcd
     rw [z1] at z3;cases z3;exact absurd z2 (nf vs)
    ·have:=kb x o q q2 hf;rw [a.new] at this;cases this
 have u':=Zm4 (Un.refl (fs:=frs Y.stack)) u hk kb (fun _ _ _ _ z=>z) sm a0 a.stay up
 have ub:∀ b o,H' b=some o→(upd H' x (.ext (XAt x D))) b=some o:=fun b o q=>by rw [ZE (Z5 q hx)];exact q
 refine ⟨sm.free hx,fun b o q=>ub b o (sm b o q),I.call' (s':={ s' with heap:=h' }) (ch:=[]) os ⟨u'.keep,u'.slot,fun b o z n hb=>?_,u'.there,fun b xs z=>ub b _ (u'.tups b xs z),fun b o v z=>ub b _ (u'.frzs b o v z),fun b ps z=>?_⟩ (fun b v q=>?_) ba (fun b z=>absurd z (by simp))⟩
 ·rw [ZE (fun y=>by rw [y,sx] at z;cases z)];exact u'.free b o z n hb
 ·obtain ⟨m,q⟩:=u'.tbls b ps z;exact ⟨m,ub b _ q⟩
 ·by_cases e:b=x
  ·subst e
   rw [Zak] at q;cases q
   obtain ⟨oe,vs,z1,z2,z3,z4,_⟩:=a.rcd
   exact ⟨⟨oe,vs,z1,z2,z3,z4⟩,⟨oe,z1⟩,fun h1 h2 ⟨o,ws,y1,y2⟩ k=>⟨o,ws,k o y1,y2⟩⟩
  ·rw [ZE e] at q
   exact (hk b v q).stay (fun c o _ z=>a.stay c o z) (fun c z=>ub c _ z) fun c xs z=>ub c _ z
theorem Inv.gone {m':Str→Option Value} {tk:Nat} (I:Inv Y pins σ H s) (hn:h'.Ns Y.env.locals m') (sb:Heap.SameBut Y.env.locals s.heap h'):Inv Y pins (List.replicate Y.N.length none) H { s with heap:=h',toks:=tk }:=by
 have lt:∀ b o,Y.s₀.heap.get? b=some o→b≠Y.env.locals:=fun b o z=>Nat.ne_of_lt (Nat.lt_of_lt_of_le (Heap.lt_size z) I.ok.above)
 refine ⟨I.ok,I.os,I.bare,⟨fun b o z n hb hx=>(sb.2 b (lt b o z)).trans (I.base.keep b o z n hb hx),fun b o z n hb hx=>?_,I.base.free,fun b o z hx=>?_,I.base.tups,I.base.frzs,I.base.tbls⟩,⟨m',hn,fun i y v e1 e2 _=>?_⟩,fun y c z=>?_,I.free,I.freeC,fun p hp=>?_,fun b v q=>?_,by simp⟩
 ·obtain ⟨sl,q⟩:=I.base.slot b o z n hb hx;exact ⟨sl,(sb.2 b (lt b o z)).trans q⟩
 ·obtain ⟨o',q⟩:=I.base.there b o z hx;exact ⟨o',(sb.2 b (lt b o z)).trans q⟩
 ·rw [List.getElem?_replicate] at e2;split at e2<;>cases e2
 ·obtain ⟨w,q⟩:=I.cell y c z;exact ⟨w,q.sameBut sb (I.cne y c z)⟩
 ·obtain ⟨z,n,ne,nf,dd⟩:=I.pin p hp;exact ⟨(sb.2 p.1 ne).trans z,n,ne,nf,dd⟩
 ·refine (I.hok b v q).stay (fun c o hc z=>(sb.2 c fun y=>?_).trans z) (fun _ z=>z) fun _ _ z=>z
  have nl:=I.free
  rcases hc with hc | hc
  ·rw [hc] at y;rw [y,nl] at q;cases q
  ·rw [y,nl] at hc;cases hc
theorem ZnH {i:Nat} {cx n:Str} {np pos:Pos} {b0:Stmt} {suite:List Stmt} {rest:List ExceptHandler} {v:Value} {Q:Flow→Shared→Prop} {E:Value→Shared→Prop} {Q':VK} (ys:Y.stack=Y.env::Y.outer) (yf:Y.env.frame=some Y.env.locals) (t:Thr Y pins σ H D v s')
  (hm:Y.mg cx=some (.ref G)) (hg:Gl Y cx) (hx:exmOne Y.K (.ref D) (.ref G)=some true) (hN:Y.N.Nodup) (hi:Y.N[i]?=some n) (hl:Y.env.scope.names.lookup n=some .local)
  (k:∀ x H3 s3,H x=none→Same H H3→Inv (Y.hand x) pins (σ.set i (some (.ref x))) H3 s3→H3 x=some (.ext (XAt x D)) →
   wpAny (model Y.prog Y.w) (Y.A.mark (some (.ref x))) (execs (b0::suite) Y.env) (fun f s4=>∃ u vv σ' H',f=.ret u∧Inv (Y.hand x) pins σ' H' s4∧RelV vv u∧Q' vv H') (fun _ _=>False) s3)
  (fin:∀ u vv σ' H' s5,Inv Y pins σ' H' s5→RelV vv u→Q' vv H'→Q (.ret u) s5) (hd:(cx==("__debug__":Str))=false:=by decide) :
  wpAny (model Y.prog Y.w) Y.A (noteFrame v Y.env) (fun _ s2=>wpAny (model Y.prog Y.w) Y.A (setFlight v none) (fun _ s3=>wpAny (model Y.prog Y.w) Y.A (handleBy v Y.env (.ExceptHandler (some (.Name cx np)) (some n) (b0::suite) pos::rest)) Q E s3) E s2) E s':=by
 obtain ⟨x,H2,H',s2,rfl,I,sm0,os,ba,sm,u,B,hk,kb,air⟩:=t
 have frm:=I.ok.frames
 have air1:=air
 rw [ys] at frm air1
 refine ZkY frm yf air1 fun h4 a4 up4=>ZhM (s:={ s' with heap:=h4 }) a4 fun h5 a5 up5=>?_
 rw [← ys] at a5
 have up:=up4.trans up5
 obtain ⟨_,sm5,I5⟩:=ZlR I os ba sm u hk kb air a5 up
 obtain ⟨oe,vs,e1,e2,e3,_⟩:=id a5.rcd
 have LT:Looks (model Y.prog Y.w) h5 (typeOf (.ref x)) (.ref D):=fun A' Q' E' s' kk q=>by
  unfold typeOf;exact wpAny_bind (wpAny_loadPart (kk _ _ e1) (wpAny_pure (by rw [e2];exact q)))
 refine wpAny_handleBy_cons (codeAny_handlers_test ?_) (by intro q;cases q)
 refine Zff (X:=Y.hand x) (I5.hand x) hg hm ?_ hd
 refine (exm_one (K:=Y.K) I5.kIn LT hx).here ?_
 refine codeAny_handlers_suite_as (ZhM (s:={ s' with heap:=h5 }) a5 fun h6 a6 up6=>?_)
 obtain ⟨hx6,sm6,I6⟩:=ZlR (s':=s') I os ba sm u hk kb air a6 (up.trans up6)
 refine ZhE (X:=Y.hand x) (I6.hand x) hN hi (.inl hl) (v:=.ref x) rfl (fun s7 I7=>?_) (.inr hl)
 refine wpAny_mono (k x _ s7 (sm0.free hx6) (sm0.trans sm6) I7 Zak) (fun f s8 hf=>?_) fun _ _ z=>z.elim
 obtain ⟨uu,vv,σ',H8,rfl,I8,rv,q⟩:=hf
 obtain ⟨m8,n8,_⟩:=id I8.loc
 refine wpAny_nameGoes hl n8 (by rw [I.ok.kind];rfl) fun h9 m9 n9 sb9=>?_
 exact fin uu vv _ H8 _ ((I8.back I.ok).gone n9 sb9) rv q
end
end L2
set_option Elab.async false
set_option linter.all false
set_option maxRecDepth 100000
namespace L2
open PySem PySem.Spec PyProof.Rows PySem.W
def ThrC (Y:Cx) (pins:List (Addr×Obj)) (σ:St) (H:Hp) (c:Str) (e:Value) (s':Shared):Prop:=∃ D,nsIn Y.K mainGlobals c=some (some (.ref D))∧Thr Y pins σ H D e s'
def NoX (Y:Cx):Prop:=∀ e s,¬ Y.xe e s
theorem ThrC.from {Y:Cx} {pins:List (Addr×Obj)} {σ:St} {H H1:Hp} {c:Str} {v:Value} {s':Shared} (sm:Same H H1) (t:ThrC Y pins σ H1 c v s'):ThrC Y pins σ H c v s':=by
 obtain ⟨D,e,t⟩:=t
 exact ⟨D,e,t.from sm⟩
structure XE (Y:Cx) (K:Frag) (M:Fb) (H0:Hp) (e:Expr) (h:VE→Option Str):Prop where
 h:∀ pins s σ H ρ c,Inv Y pins σ H s→Rel K M H0 ρ σ H→h ρ=some c→wpAny (model Y.prog Y.w) Y.A (eval e Y.env) (fun _ _=>False) (ThrC Y pins σ H c) s
structure XT (Y:Cx) (K:Frag) (M:Fb) (H0:Hp) (st:Stmt) (h:VE→Option Str):Prop where
 h:∀ pins s σ H ρ c,Inv Y pins σ H s→Rel K M H0 ρ σ H→h ρ=some c→wpAny (model Y.prog Y.w) Y.A (exec st Y.env) (fun _ _=>False) (ThrC Y pins σ H c) s
structure XS (Y:Cx) (K:Frag) (M:Fb) (H0:Hp) (st:Stmt) (h:VE→Option Str):Prop where
 h:∀ pins s σ H ρ c,Inv Y pins σ H s→Rel K M H0 ρ σ H→h ρ=some c→wpAny (model Y.prog Y.w) Y.A (exec st Y.env) (fun _ _=>False) (fun e s'=>∃ σ' H1,Same H0 H1∧ThrC Y pins σ' H1 c e s') s
structure XB (Y:Cx) (K:Frag) (M:Fb) (H0:Hp) (b:List Stmt) (h:VE→Option Str):Prop where
 h:∀ pins s σ H ρ c,Inv Y pins σ H s→Rel K M H0 ρ σ H→h ρ=some c→wpAny (model Y.prog Y.w) Y.A (execs b Y.env) (fun _ _=>False) (fun e s'=>∃ σ' H1,Same H0 H1∧ThrC Y pins σ' H1 c e s') s
section
variable {Y:Cx} {K:Frag} {M:Fb} {H0:Hp} {e:Expr} {es:List Expr} {st:Stmt} {rest a b:List Stmt} {h h1 h2:VE→Option Str} {g:VE→Res} {pos p np cpos:Pos} {fa:VE→Option (List Sl)} {x:Str}
theorem XT.s (z:XT Y K M H0 st h):XS Y K M H0 st h:=⟨fun pins s σ H ρ c I R q=>wpAny_mono (z.h pins s σ H ρ c I R q) (fun _ _ z=>z) fun _ _ z=>⟨σ,H,R.same,z⟩⟩
theorem Zr7 {pos':Pos} (z:XE Y K M H0 e h) (hs:swapsWith e (some (.Name x pos')) pos.line Y.env=pure false:=by rfl):XT Y K M H0 (.Assign [.Name x pos'] e pos) h :=
 ⟨fun pins s σ H ρ c I R q=>wpAny_Assign_Name (wpAny_mono (z.h pins s σ H ρ c I R q) (fun _ _ z=>z.elim) fun _ _ z=>z) hs⟩
theorem Zgp (z:XS Y K M H0 st h):XB Y K M H0 (st::rest) h:=⟨fun pins s σ H ρ c I R q=>wpAny_execs_cons (wpAny_mono (z.h pins s σ H ρ c I R q) (fun _ _ z=>z.elim) fun _ _ z=>z)⟩
@[simp] def nxO (r:Res) (h:VE→Option Str):Option Str:=match r with
  | .next ρ=>h ρ
  | _=>none
@[simp] def orX (o:Option Str) (r:Option Str):Option Str:=match o with
  | some c=>some c
  | none=>r
theorem ZpA (nx:NoX Y) (z1:JS Y st (tS K M H0 g)) (z2:XB Y K M H0 rest h):XB Y K M H0 (st::rest) (fun ρ=>nxO (g ρ) h):=⟨fun pins s σ H ρ c I R q=>by
 cases hg:g ρ with
 | next ρ' =>
  rw [hg] at q
  refine wpAny_execs_cons (wpAny_mono (z1.h pins s σ H { nx:=fun σ' H'=>Rel K M H0 ρ' σ' H',rt:=fun _ _=>False } I ⟨ρ,R,?_⟩) (fun f s1 z=>?_) fun e s' z=>(nx e s' z).elim)
  ·rw [hg];exact fun σ' H' R' _=>R'
  ·cases f with
   | next=>obtain ⟨σ',H',I',R'⟩:=z;exact z2.h pins s1 σ' H' ρ' c I' R' q
   | ret v=>obtain ⟨_,_,_,_,_,z⟩:=z;exact z.elim
   | brk=>obtain ⟨_,_,_,z⟩:=z;exact z.elim
   | cont=>obtain ⟨_,_,_,z⟩:=z;exact z.elim
 | fail=>rw [hg] at q;cases q
 | brk ρ'=>rw [hg] at q;cases q
 | cont ρ'=>rw [hg] at q;cases q
 | ret r=>rw [hg] at q;cases q⟩
theorem ZlM (nx:NoX Y) (z0:XS Y K M H0 st h1) (z1:JS Y st (tS K M H0 g)) (z2:XB Y K M H0 rest h):XB Y K M H0 (st::rest) (fun ρ=>orX (h1 ρ) (nxO (g ρ) h)):=⟨fun pins s σ H ρ c I R q=>by
 cases hh:h1 ρ with
 | some c'=>rw [hh] at q;cases q;exact (Zgp z0).h pins s σ H ρ c I R hh
 | none=>rw [hh] at q;exact (ZpA nx z1 z2).h pins s σ H ρ c I R q⟩
@[simp] def ZgX (t:Option Bool) (a b:Option Str):Option Str:=match t with
  | some true=>a
  | some false=>b
  | none=>none
theorem Zl5 {c:Expr} {t:VE→Option Bool} (nx:NoX Y) (hc:JT Y c (tB' K M H0 t)) (za:XB Y K M H0 a h1) (zb:XB Y K M H0 b h2):XS Y K M H0 (.If c a b pos) (fun ρ=>ZgX (t ρ) (h1 ρ) (h2 ρ)):=⟨fun pins s σ H ρ n I R q=>by
 cases ht:t ρ with
 | none=>rw [ht] at q;cases q
 | some k =>
  rw [ht] at q
  refine wpAny_If (wpAny_mono (hc.h pins s σ H (fun k' H'=>k'=k∧Same H H') I ⟨ρ,k,R,ht,fun H' sm=>⟨rfl,sm⟩⟩) (fun d s1 ⟨H1,I1,e1,sm⟩=>?_) fun e s' z=>(nx e s' z).elim)
  subst e1
  cases d with
  | true=>exact za.h pins s1 σ H1 ρ n I1 (R.st sm) q
  | false=>exact zb.h pins s1 σ H1 ρ n I1 (R.st sm) q⟩
def spX (K:Frag) (F:List Sl→Option Str):Sp:=fun vs H Q E=>∃ N ss c,(∀ a,N a→H a≠none)∧ArgsOk K N H ss vs∧F ss=some c∧∀ D H',nsIn K mainGlobals c=some (some (.ref D))→Same H H'→E (.ref D) none H'
def fnX (np n:Nat) (h:VE→Option Str):List Sl→Option Str:=fun ss=>if ss.length=np then h (ss++List.replicate (n-np) .no) else none
theorem Zpg {F:List Sl→Option Str} {k:Nat} {fn:Addr} {fd:FuncData} {ps:List Str} (nx:NoX Y) (hK:Y.K=K) (G:FnOk Y.prog Y.w Y.K Y.mg Y.base (CXv Y.prog Y.w) k fn fd ps (spX K F)) (hr:Room k Y.A) (hg:Gl Y x) (hm:Y.mg x=some (.ref fn)) (hk:keepIn Y.K (.ref fn)=true) (hb:Binds Y.K fd ps [])
  (ha:JA Y (e::es) (tA' K M H0 fa)) (hdb:(x==("__debug__":Str))=false:=by decide) (he:starEach (e::es) Y.env=(false,eval e Y.env)::starEach es Y.env:=by exact Zaa (fun _ _ z=>nomatch z)) (hpl:(backTo pos (starEach es Y.env)).any (·.1)=false:=by rfl) :
  XE Y K M H0 (.Call (.Name x p) (e::es) [] pos) (fun ρ=>(fa ρ).bind F):=⟨fun pins s σ H ρ c I R q=>by
 cases hf:fa ρ with
 | none=>rw [hf] at q;cases q
 | some ss =>
  rw [hf] at q
  refine wpAny_Call_Name_kw (Zff I hg hm ?_ hdb)
  refine callWith_K (h₀:=Y.base) I.ok.mod.kin hk (wpAny_mono (ha.h pos pins s σ H (fun vs H1=>Same H H1∧ArgsOk K (Nf M ρ σ) H1 ss vs) I ⟨ρ,ss,R,hf,fun vs H1 sm h1=>⟨sm,h1⟩⟩) (fun us s1 ⟨vs,H1,I1,r,sm,h1⟩=>⟨I1.kIn,?_⟩) fun e s' z=>(nx e s' z).elim) he hpl
  have sp:spX K F vs H1 (fun _ _=>False) (fun v _ H'=>∃ D,v=.ref D∧nsIn K mainGlobals c=some (some (.ref D))∧Same H1 H'):=⟨Nf M ρ σ,ss,c,(R.st sm).nh,h1,q,fun D H' e1 e2=>⟨D,rfl,e1,e2⟩⟩
  have hl:(us++[]).length=ps.length:=by rw [List.append_nil,← r.length];exact G.len _ _ _ _ sp
  have bd:=hb s1 us I1.kIn hl
  rw [List.append_nil] at bd
  refine wpAny_call (codeAny_mono (G.run Y.A Y.stack s1 H1 ⟨us,[]⟩ us vs _ _ hr I1.env0 bd r sp) fun r s' hq=>?_)
  cases r with
  | error v =>
   obtain ⟨a,C,H',e1,os,ba,fl,D,e2,e3,e4⟩:=hq
   cases e2
   exact ⟨C,by rw [hK];exact e3,a,H1,H',s1,e1,I1,sm,os,ba,fl⟩
  | ok f =>
   cases f with
   | ret u=>obtain ⟨_,_,_,_,_,_,_,z⟩:=hq;exact z.elim
   | next=>exact hq.elim
   | brk=>exact hq.elim
   | cont=>exact hq.elim⟩
structure XMk (K:Frag) (D:Addr):Prop where
 ex:∃ nm q N bs bm hdct sn sub ab col dd k0 k1 k2 k3 k5,K.lookup D=some (excClassObj nm q D N bs bm hdct sn sub ab col dd k0 k1 k2 k3 k5 "ValueError.__new__")∧tailIn K [.type "ValueError",.type "Exception",.type "BaseException",.type "object"] bm=true∧nsOkIn K N=true∧nsIn K N "__init__"=some none
@[simp] def ZgO (o:Option (List Sl)) (x:Str):Option Str:=match o with
  | some [_]=>some x
  | _=>none
theorem ZhK {D:Addr} (nx:NoX Y) (hK:Y.K=K) (hc:Y.calm=true) (mk:XMk K D) (hn:nsIn K mainGlobals x=some (some (.ref D))) (hg:Gl Y x) (hm:Y.mg x=some (.ref D)) (ha:JA Y (e::es) (tA' K M H0 fa))
  (hdb:(x==("__debug__":Str))=false:=by decide) (he:starEach (e::es) Y.env=(false,eval e Y.env)::starEach es Y.env:=by exact Zaa (fun _ _ z=>nomatch z)) (hpl:(backTo cpos (starEach es Y.env)).any (·.1)=false:=by rfl) :
  XT Y K M H0 (.Raise (some (.Call (.Name x np) (e::es) [] cpos)) none pos) (fun ρ=>ZgO (fa ρ) x):=⟨fun pins s σ H ρ c I R q=>by
 subst hK
 cases hf:fa ρ with
 | none=>rw [hf] at q;cases q
 | some ss =>
  rw [hf] at q
  obtain ⟨s0,rfl⟩:∃ s0,ss=[s0]:=by
   cases ss with
   | nil=>cases q
   | cons s0 r=>cases r with
    | nil=>exact ⟨s0,rfl⟩
    | cons _ _=>cases q
  cases q
  obtain ⟨nm,qn,N,bs,bm,hdct,sn,sub,ab,col,dd,k0,k1,k2,k3,k5,l1,l2,l3,l4⟩:=mk.ex
  have F:=PySem.F.excBase_ValueError
  refine wpAny_Raise_call_subU (mN:=Y.base.nsMap N) (nm:=nm) (q:=qn) (N:=N) (bs:=bs) (hdct:=hdct) (sn:=sn) (sub:=sub) (ab:=ab) (col:=col) (dd:=dd) (k0:=k0) (k1:=k1) (k2:=k2) (k3:=k3) (k5:=k5) F F.hasB F ((tail_of_in I.kIn l2).hasType F.hasBase) (I.ok.hd hc) (by rw [he];exact hpl) (nsMap_none_of_in I.ok.mod.kin l3 l4) (Zff I hg hm ⟨rfl,?_⟩ hdb)
  rw [he]
  refine Calls.evalArgs_plain (wpAny_mono (he ▸ ha.h cpos pins s σ H (fun vs H1=>Same H H1∧ArgsOk Y.K (Nf M ρ σ) H1 [s0] vs) I ⟨ρ,[s0],R,hf,fun vs H1 sm h1=>⟨sm,h1⟩⟩) (fun us s1 ⟨vs,H1,I1,r,sm,h1⟩=>?_) fun e s' z=>(nx e s' z).elim)
  have ul:us.length=1:=by rw [← r.length,← h1.length];rfl
  refine ⟨rfl,?_,I1.kIn _ _ l1,?_,tail_of_in I1.kIn l2,fun h' v m=>⟨D,hn,(Zos I1 m).from sm⟩⟩
  ·show us.length≤sizeLine
   rw [ul];exact Nat.le_of_lt (Zno (by decide))
  ·exact (Heap.Ns.of_isNs (isNs_of_in I.ok.mod.kin l3)).keeps I1.bk⟩
theorem ZsM {P:Program} {w:World} {mg:Str→Option Value} {base:Heap} {x qual:Str} {st:Stmt} {f:Addr} {fd:FuncData} {N ps:List Str} {k:Nat} {h:VE→Option Str} (F:Fun K x qual st f fd) (S:ZI N ps (Zj st)) (hnp:ps.length≤N.length)
  (hb:∀ (cdv:Value) (A:Around) (outer:List Env) (s:Shared) (H:Hp) (E:XK) (M:Fb) (H0:Hp),Room k (A.deeper (envOfC qual (Zj st) s.heap.objs.size f cdv)) →
   XB (ZeK CX0 P w K mg base N qual (Zj st) f cdv A outer s H E).nox K M H0 (ZG st) h):FnOk P w K mg base (CXv P w) (k+1) f fd ps (spX K (fnX ps.length N.length h)):=by
 obtain ⟨oc,od,kV,doc,pm,an,cdv,ct,osl,rfl,lk,hcd⟩:=F.ex
 have len:∀ vs H Q E,spX K (fnX ps.length N.length h) vs H Q E→vs.length=ps.length:=fun vs H Q E z=>by
  obtain ⟨N',ss,c,nh,ha,hF,q⟩:=z
  unfold fnX at hF
  split at hF
  ·next hl=>rw [← ha.length];exact hl
  ·cases hF
 refine Zo9 lk hcd S len fun A outer s H vs Q E hr z=>?_
 obtain ⟨N',ss,c,nh,ha,hF,q⟩:=z
 unfold fnX at hF
 split at hF
 ·next hl =>
  have hs:ZcX N vs=vs.map some++List.replicate (N.length-ps.length) none:=by unfold ZcX;rw [← ha.length,hl]
  refine ⟨fun D σ H1=>D={ nx:=fun _ H'=>Q .non H',rt:=Q }∧H1=H∧Rel K N' H (ss++List.replicate (N.length-ps.length) .no) σ H,fun pins s' σ H1 D I hz=>?_,rfl,rfl,by rw [hs];exact Zja nh ha _⟩
  obtain ⟨_,rfl,R⟩:=hz
  refine wpAny_mono ((hb cdv A outer s H1 E N' H1 hr).h pins s' σ H1 _ c (I.wish _) R hF) (fun _ _ z=>z.elim) fun v s'' z=>?_
  obtain ⟨σ',H2,sm,D',e1,t⟩:=z
  exact ZmU (Y:=(ZeK CX0 P w K mg base N qual (Zj st) f cdv A outer s H1 E).nox) rfl rfl rfl sm t fun H' e2=>q D' H' e1 e2
 ·cases hF
theorem Rel.more {ρ:VE} {σ:St} {H:Hp} {y C:Addr} (R:Rel K M H0 ρ σ H) (hy:H y=some (.ext (XAt y C))):Rel K M (upd H0 y (.ext (XAt y C))) ρ σ H where
 len:=R.len
 same:=fun b o z=>by
  by_cases e:b=y
  ·rw [e,Zak] at z;rw [e,hy,z]
  ·rw [ZE e] at z;exact R.same b o z
 mh:=R.mh
 slot:=fun j sl z=>by
  have q:=R.slot j sl z
  cases sl with
  | no=>trivial
  | val d=>exact q
  | lent xs fl=>exact q
  | exc c=>exact q
  | own xs fl =>
   obtain ⟨b,vs,e1,h1,h2,h3,h4⟩:=q
   refine ⟨b,vs,e1,?_,h2,h3,h4⟩
   rw [ZE (fun e=>by rw [e,hy] at h3;cases fl<;>cases h3)];exact h1
 inj:=R.inj
@[simp] def ZrF:Res→Res
  | .ret r=>.ret r
  | _=>.fail
@[simp] def Zkv (cs:List Str) (i:Nat) (o:Option Str) (r:Res) (g:VE→Res) (ρ:VE):Res:=match o with
  | none=>r
  | some c=>if cs.contains c=true then ZrF (g (ρ.set i (.exc c))) else .fail
theorem ZsK {gs:VE→Res} {hx:VE→Option Str} {G:Addr} {cx n:Str} {b0:Stmt} {suite:List Stmt} {hp:Pos} (i:Nat) (cs:List Str) (nx:NoX Y) (hK:Y.K=K) (ys:Y.stack=Y.env::Y.outer) (yf:Y.env.frame=some Y.env.locals) (zx:XT Y K M H0 st hx) (zb:JS Y st (tS K M H0 g))
  (hm:Y.mg cx=some (.ref G)) (hg:Gl Y cx) (hc:∀ c D,cs.contains c=true→nsIn K mainGlobals c=some (some (.ref D))→exmOne K (.ref D) (.ref G)=some true) (hN:Y.N.Nodup) (hi:Y.N[i]?=some n) (hl:Y.env.scope.names.lookup n=some .local)
  (zs:∀ (x:Addr) (H1:Hp),(∃ C,H1 x=some (.ext (XAt x C)))→JB (Y.hand x) (b0::suite) (tS K M H1 gs)) (hd:(cx==("__debug__":Str))=false:=by decide) :
  JS Y (.Try [st] [.ExceptHandler (some (.Name cx np)) (some n) (b0::suite) hp] [] [] pos) (tS K M H0 fun ρ=>Zkv cs i (hx ρ) (g ρ) gs ρ):=⟨fun pins s σ H D I ⟨ρ,R,q⟩=>by
 subst hK
 try dsimp only at q
 cases ho:hx ρ with
 | none =>
  rw [ho] at q
  refine wpAny_Try_except (wpAny_execs_cons (wpAny_mono (zb.h pins s σ H D I ⟨ρ,R,q⟩) (fun f s1 z=>?_) fun e s' z=>(nx e s' z).elim))
  cases f with
  | next=>exact wpAny_execs_nil (wpAny_execs_nil z)
  | ret v=>exact z
  | brk=>exact z
  | cont=>exact z
 | some c =>
  rw [ho] at q
  simp only [Zkv] at q
  split at q
  ·next hcc =>
   refine wpAny_Try_except (wpAny_execs_cons (wpAny_mono (zx.h pins s σ H ρ c I R ho) (fun f s1 z=>z.elim) fun v s1 z=>?_))
   obtain ⟨D',e1,t⟩:=z
   cases hg':gs (ρ.set i (.exc c)) with
   | ret r =>
    rw [hg'] at q
    refine ZnH (Q':=D.rt) ys yf t hm hg (hc c D' hcc e1) hN hi hl (fun x H3 s3 hx0 sm I3 hx3=>?_) (fun u vv σ' H' s5 I5 rv qq=>⟨vv,σ',H',I5,rv,qq⟩) hd
    have S:Step M (Nf M ρ σ) (Nf M (ρ.set i (.exc c)) (σ.set i (some (.ref x)))) H H3:=⟨fun a o e _=>sm a o e,fun b hb=>by
     rcases Zfi R.len hb with q | ⟨xs,_,e,_⟩
     ·exact .inl q
     ·cases e⟩
    have R3:Rel Y.K M H0 (ρ.set i (.exc c)) (σ.set i (some (.ref x))) H3:=R.put S (R.same.trans sm) (fun j a vs xs fl _ _ _ e=>sm _ _ e) (fun _=>⟨x,D',rfl,e1,hx3⟩) (fun xs fl a j ys fl' e=>nomatch e)
    have n0:=R.same.free hx0
    refine wpAny_mono ((zs x _ ⟨D',Zak⟩).h pins s3 _ H3 { nx:=fun _ _=>False,rt:=D.rt } I3 ⟨_,R3.more hx3,?_⟩) (fun f s4 z=>?_) fun e s' z=>(nx e s' z).elim
    ·rw [hg']
     refine fun v H' s1 rv=>q v H' (fun b o z=>s1 b o (by rw [ZE (Z5 z n0)];exact z)) ?_
     cases r with
     | val d=>exact rv
     | own xs fl =>
      obtain ⟨b,vs,e1,z1,z2⟩:=rv
      refine ⟨b,vs,e1,?_,z2⟩
      by_cases e:b=x
      ·rw [e];exact n0
      ·rw [ZE e] at z1;exact z1
    ·cases f with
     | ret u=>obtain ⟨vv,σ',H',I',rv,qq⟩:=z;exact ⟨u,vv,σ',H',rfl,I',rv,qq⟩
     | next=>obtain ⟨_,_,_,z⟩:=z;exact z.elim
     | brk=>obtain ⟨_,_,_,z⟩:=z;exact z.elim
     | cont=>obtain ⟨_,_,_,z⟩:=z;exact z.elim
   | next _=>rw [hg'] at q;exact q.elim
   | fail=>rw [hg'] at q;exact q.elim
   | brk _=>rw [hg'] at q;exact q.elim
   | cont _=>rw [hg'] at q;exact q.elim
  ·exact q.elim⟩
end
end L2
set_option Elab.async false
set_option linter.all false
set_option maxRecDepth 100000
namespace L2
open PySem PySem.Spec PyProof.Rows PySem.W
theorem Zk2:entryFor table "proto.unchain"=some Builtin.«proto.unchain»:=entryFor_of_tree (by kernel_rfl)
section
variable {prog:Program} {w:World} {A:Around} {E:Value→Shared→Prop} {s:Shared} {x C:Addr}
theorem ZnN {e:Addr} {Q:Value→Shared→Prop} (p:XAt x C s.heap) (q:Q .none s):wpAny (model prog w) A (runValue (.builtin "proto.unchain" ⟨[.ref e,.ref x,.ref x,.bool false],[]⟩)) Q E s:=by
 obtain ⟨o,vs,h1,h2,h3,h4⟩:=p
 refine wpAny_runValue ?_
 refine codeAny_builtin Zk2 ?_
 unfold Builtin.«proto.unchain»
 dsimp only
 refine wpAny_bind (wpAny_field h1 h3 h4 ?_)
 rw [if_pos (by decide)]
 exact wpAny_pure q
theorem Zof {α:Type} {a:Addr} {o:Obj} {vs:Array Value} {Q:α→Shared→Prop} (hh:A.handled=some (.ref x)) (p:XAt x C s.heap) (ne:x≠a) (ho:s.heap.get? a=some o) (hd:o.data=.fields vs) (hz:2<vs.size)
  (q:E (.ref a) { s with heap:=s.heap.update a (Obj.mapFields (·.setIfInBounds 2 (.ref x))) }):wpAny (model prog w) A (raiseNew (.ref a):Sem α) Q E s:=by
 unfold raiseNew
 refine wpAny_bind (wpAny_handled ?_)
 rw [hh]
 dsimp only
 rw [if_pos (by simp [ne])]
 refine wpAny_bind (wpAny_holding (ZnN p ?_))
 refine wpAny_bind ?_
 unfold updateField
 refine wpAny_bind (wpAny_load ho ?_)
 rw [hd]
 dsimp only
 rw [if_pos hz]
 exact wpAny_update ho (wpAny_throw q)
theorem Zlg {it l:Addr} {i:Nat} {items:Array Value} {Q:Option Value→Shared→Prop} (hh:A.handled=some (.ref x)) (p:XAt x C s.heap) (px:x≠it) (hit:s.heap.IsListIter it l i) (hl:s.heap.IsList l items) (hx:items[i]?=none)
  (hq:∀ h',Heap.ExtBut it s.heap h'→Q none { s with heap:=h' }):wpAny (model prog w) A (pyNext (.ref it)) Q E s:=by
 obtain ⟨oi,i1,i2,i3⟩:=id hit
 obtain ⟨ol,l1,_,nl,l3⟩:=hl
 unfold pyNext
 refine wpAny_bind (wpAny_attempt (wpAny_callSpecial?_slot (name:=Str.ofString "__next__") hit.typeIs slot_listiter_next (wpAny_call_entry slot_listiter_next hit.typeIs entry_listiter_next ?_ (args_listiter_next _))))
 show wpAny _ _ (field (.ref it) 0 >>= _) _ _ s;refine wpAny_bind (wpAny_field i1 i3 (x:=.ref l) rfl ?_)
 show wpAny _ _ (if (Value.ref l==Value.none)=true then _ else _) _ _ s;rw [if_neg (show ¬ ((Value.ref l==Value.none)=true) from Bool.false_ne_true)]
 show wpAny _ _ (field (.ref it) 1 >>= _) _ _ s;refine wpAny_bind (wpAny_field i1 i3 (x:=.int i 0) rfl ?_)
 show wpAny _ _ (seqItems? (.ref l) >>= _) _ _ s;refine wpAny_bind (wpAny_seqItems l1 l3 ?_)
 simp only [Int.toNat_natCast,hx]
 refine wpAny_bind (wpAny_rule (wpAny_bind (wpAny_setField i1 i3 (by simp) ?_)))
 obtain ⟨ox,vx,x1,x2,x3,x4⟩:=p
 show wpAny _ _ (newExc (.type "StopIteration") [] >>= _) _ _ _
 refine wpAny_bind ?_
 simp only [newExc,newTuple]
 refine wpAny_bind (wpAny_newObj_type ?_ (by size_fits))
 refine wpAny_bind (m:=firstArgMember _ _) (wpAny_of_eq (a:=Value.none) (by first | rfl | (simp only [firstArgMember];rfl)) ?_)
 refine wpAny_newObj_type ?_ (by size_fits)
 have k1:((s.heap.update it (Obj.mapFields (·.setIfInBounds 0 .none))).push { cls:=.type "tuple",data:=.seq #[] }).get? x=some ox:=Heap.get?_push_of_some _ ((Heap.get?_update_other _ _ (Ne.symm px)).trans x1)
 have nx:x≠((s.heap.update it (Obj.mapFields (·.setIfInBounds 0 .none))).push { cls:=.type "tuple",data:=.seq #[] }).objs.size:=Nat.ne_of_lt (Heap.lt_size k1)
 refine Zof (x:=x) (C:=C) hh ⟨ox,vx,Heap.get?_push_of_some _ k1,x2,x3,x4⟩ nx (Heap.get?_push_size _ rfl) rfl (by simp only [Array.size_append,List.size_toArray,List.length_cons];omega) ?_
 refine wpAny_bind (wpAny_isInstance (T:="StopIteration") (b:=true) ⟨_,Heap.get?_update_self _ (Heap.get?_push_size _ rfl) rfl,rfl⟩ isSubtype_stop ?_)
 refine wpAny_pure (hq _ fun b o hb z=>?_)
 have z1:=Heap.get?_push_of_some { cls:=.type "tuple",data:=.seq #[] } ((Heap.get?_update_other s.heap (Obj.mapFields (·.setIfInBounds 0 .none)) (Ne.symm hb)).trans z)
 exact (Heap.get?_update_other _ _ (Ne.symm (Nat.ne_of_lt (Heap.lt_size z1)))).trans (Heap.get?_push_of_some _ z1)
theorem XAt.at {h h':Heap} (p:XAt x C h) (k:∀ o,h.get? x=some o→h'.get? x=some o):XAt x C h':=let ⟨o,vs,h1,r⟩:=p;⟨o,vs,k o h1,r⟩
theorem ZnY (hh:A.handled=some (.ref x)) (I ax:Addr) (ne:ax≠I) (nx:x≠I) (items:Array Value) :
  Walks prog w A I [I,ax,x] [I] items.size (fun i v=>items[i]?=some v) (fun i h=>h.IsListIter I ax i∧h.IsList ax items∧XAt x C h) where
 sub:=fun b hb=>by simp at hb;simp [hb]
 frame:=fun _ _ _ st hk=>⟨st.1.at fun o z=>hk I (by simp) o z,st.2.1.at fun o z=>hk ax (by simp) o z,st.2.2.at fun o z=>hk x (by simp) o z⟩
 item:=fun i s Q E hi st hq=>wpAny_pyNext_list_item st.1 st.2.1 (x:=items[i]) (by simp [hi]) fun h' hit sb =>
  hq _ h' s.toks (by simp [hi]) ⟨hit,st.2.1.extBut sb.extBut ne,st.2.2.at fun o z=>sb.extBut _ _ nx z⟩ fun b o hb z=>sb.extBut b o (fun y=>hb (by simp [y])) z
 done:=fun s Q E st hq=>Zlg hh st.2.2 nx st.1 st.2.1 (by simp) fun h' eb=>hq h' s.toks fun b o hb z=>eb b o (fun y=>hb (by simp [y])) z
 self:=fun _ _ _ _ st hq=>wpAny_pyIter_listiter st.1 hq
end
section
variable {Y:Cx} {K:Frag} {M:Fb} {H0:Hp} {x:Addr}
theorem Zmj (hh:Y.A.handled=some (.ref x)):CallR Y (.builtin "any") (fun xs H Q=>(∃ C,H x=some (.ext (XAt x C)))∧∃ (a:Addr) (bs:List Bool),xs=[.ref a]∧SqL Y.K H a (bs.map V.bl)∧Q (.bl (bs.any id)) H):=by
 intro pins s σ H xs us Q I r h
 obtain ⟨⟨C,hx⟩,a,bs,rfl,hq,q⟩:=h
 obtain ⟨u,rfl,ru⟩:=Zd6 r
 cases ru
 obtain ⟨its,rv,pl,hz⟩:=I.list hq
 have hb:=Zhp rv
 have hl:=pl.isList
 have p:XAt x C s.heap:=(show ObjOk Y.prog Y.w H s.heap x (.ext (XAt x C)) from I.hok x _ hx).1
 have hlt:a<s.heap.objs.size:=by obtain ⟨_,z,_⟩:=hl;exact Heap.lt_size z
 have hxt:x<s.heap.objs.size:=by obtain ⟨_,_,z,_⟩:=p;exact Heap.lt_size z
 refine call_any_walk (wpAny_pyIter_list hl ?_)
 refine ⟨s.heap.objs.size,[s.heap.objs.size,a,x],[s.heap.objs.size],its.toArray.size,_,_,fun i=>(bs[i]?).getD false,rfl,ZnY (A:=Y.A.in1) (C:=C) hh _ a (Nat.ne_of_lt hlt) (Nat.ne_of_lt hxt) its.toArray,
  ⟨⟨_,Heap.get?_push_size _ rfl,rfl,rfl⟩,hl.push _,p.at fun o z=>Heap.get?_push_of_some _ z⟩,fun i v s' Q' E' hP hQ=>?_,fun h' tk hk=>⟨.bl _,H,I.kept (LSm.kept_iter hk),rfl,?_⟩⟩
 ·obtain ⟨b,z,rfl⟩:=hb.get i v (by simpa using hP)
  simp only [z,Option.getD_some] at hQ
  exact wpAny_truthy_bool hQ
 ·have z:((List.range its.toArray.size).any fun i=>(bs[i]?).getD false)=bs.any id:=by
   rw [List.size_toArray,hb.length];exact LSm.range_any bs
  rw [z];exact q
theorem Zoo {e:Expr} {es:List Expr} {fa:VE→Option (List Sl)} {p pos:Pos} {n:Str} (hh:Y.A.handled=some (.ref x)) (hK:Y.K=K) (h0:∃ C,H0 x=some (.ext (XAt x C))) (hg:Gl Y n) (hm:Y.mg n=none) (hv:bootBuiltins n=some (.builtin "any")) (ha:JA Y (e::es) (tA' K M H0 fa))
  (hn:n≠"__name__":=by decide) (hdb:(n==("__debug__":Str))=false:=by decide) (he:starEach (e::es) Y.env=(false,eval e Y.env)::starEach es Y.env:=by exact Zaa (fun _ _ z=>nomatch z)) (hpl:(backTo pos (starEach es Y.env)).any (·.1)=false:=by rfl) :
  JE Y (.Call (.Name n p) (e::es) [] pos) (tD K M H0 (Zq Zkr fa)):=⟨(ZhC (Zmj hh) hg hm hv ha.h hn hdb he hpl).mono fun σ H Q h=>by
 subst hK
 obtain ⟨ρ,d,R,z,q⟩:=h
 have t:=Zl1 (K:=Y.K) (M:=M) (H0:=H0) (fa:=fa) ZqG (σ:=σ) (H:=H) (Q:=Q) ⟨ρ,d,R,z,q⟩
 obtain ⟨ρ',ss,R',hf,k⟩:=t
 exact ⟨ρ',ss,R',hf,fun vs H1 sm h1=>⟨let ⟨C,hx⟩:=h0;⟨C,sm _ _ (R'.same _ _ hx)⟩,k vs H1 sm h1⟩⟩⟩
def ZuI (K:Frag):List V→Hp→VK→Prop:=fun xs H Q=>∃ a C cv c b,xs=[.ref a,cv]∧(∀ u,RelV cv u→u=c)∧H a=some (.ext (XAt a C))∧ZaR K C∧kitOne K (.ref C) c=some b∧Q (.bl b) H
theorem ZoA:CallR Y (.builtin "isinstance") (ZuI Y.K):=by
 intro pins s σ H xs us Q I r h
 obtain ⟨a,C,cv,c,b,rfl,hc,hx,F,e,q⟩:=h
 obtain ⟨u,v,rfl,ru,rv⟩:=ZjH r
 cases ru
 cases hc v rv
 exact kia_one (Zti F) I.kIn (show ObjOk Y.prog Y.w H s.heap a (.ext (XAt a C)) from I.hok a _ hx).1 e (fun z=>nomatch z) fun tk=>⟨.bl b,H,I.tok _,rfl,q⟩
@[simp] def isX (i:Nat) (cs:List Str) (f:Str→Bool) (ρ:VE):Option D:=match ρ[i]? with
  | some (.exc c)=>if cs.contains c=true then some (.bl (f c)) else none
  | _=>none
theorem Zde {te:Expr} {cv:V} {cu:Value} {n m:Str} {np p pos:Pos} (i:Nat) (cs:List Str) (f:Str→Bool) (hK:Y.K=K) (hN:Y.N[i]?=some n) (hvs:Vis Y.env.scope n) (ht:PE Y te (tC cv)) (hu:∀ u,RelV cv u→u=cu)
  (hc:∀ c C,cs.contains c=true→nsIn K mainGlobals c=some (some (.ref C))→ZaR K C∧kitOne K (.ref C) cu=some (f c)) (hg:Gl Y m) (hm:Y.mg m=none) (hv:bootBuiltins m=some (.builtin "isinstance"))
  (hn:m≠"__name__":=by decide) (hdb:(m==("__debug__":Str))=false:=by decide) (hd:(n==("__debug__":Str))=false:=by decide) (hcd:(n==("__classdict__":Str))=false:=by decide)
  (he:starEach [.Name n np,te] Y.env=(false,eval (.Name n np) Y.env)::starEach [te] Y.env:=by exact Zaa (fun _ _ z=>nomatch z)) (he2:starEach [te] Y.env=(false,eval te Y.env)::starEach [] Y.env:=by exact Zaa (fun _ _ z=>nomatch z)) (hpl:(backTo pos (starEach [te] Y.env)).any (·.1)=false:=by rfl) :
  JE Y (.Call (.Name m p) [.Name n np,te] [] pos) (tD K M H0 (isX i cs f)):=⟨(ZhC ZoA hg hm hv (Zdb (ZcP hN hvs hd hcd) (Zdb ht pa_nil he2) he) hn hdb he hpl).mono fun σ H Q h=>by
 subst hK
 obtain ⟨ρ,d,R,z,q⟩:=h
 unfold isX at z
 split at z
 ·next c hs =>
  split at z
  ·next hcc =>
   cases z
   obtain ⟨a,C,e1,e2,e3⟩:=R.slot i _ hs
   obtain ⟨F,kk⟩:=hc c C hcc e2
   exact ⟨.ref a,join_some e1,a,C,cv,cu,f c,rfl,hu,e3,F,kk,q _ H (Same.refl H) (by simp only [Den])⟩
  ·cases z
 ·cases z⟩
end
end L2
set_option Elab.async false
set_option linter.all false
set_option maxRecDepth 100000
namespace L2
open PySem PySem.Spec PyProof.Rows PySem.W
theorem ZeR {X:Cx}:NoX X.nox:=fun _ _ z=>z
abbrev bmV:List Value:=[.type "ValueError",.type "Exception",.type "BaseException",.type "object"]
def Z1 (t c:Str):Bool:=c==t||t=="CubeError"||t=="ValueError"
section
variable {K:Frag} {C D G:Addr} {b:Bool} {cd:ClassData}
theorem Zto {nm q:Str} {N:Addr} {bs bm:List Value} {hdct:Bool} {sn:List Str} {sub:List Value} {ab:Bool} {col:Option Bool} {dd:Option Addr} {k0 k1 k2 k3 k5:Option Value}
  (l:K.lookup D=some (excClassObj nm q D N bs bm hdct sn sub ab col dd k0 k1 k2 k3 k5 "ValueError.__new__")) (e:excIn K D bmV "ValueError.__new__"=true):XMk K D:=by
 unfold excIn at e
 rw [l] at e
 simp only [Bool.and_eq_true,beq_iff_eq,Bool.not_eq_true'] at e
 exact ⟨nm,q,N,bs,bm,hdct,sn,sub,ab,col,dd,k0,k1,k2,k3,k5,l,e.1.1.2,e.1.2,e.2⟩
theorem Zo6 {t:Value} (z:clsIn K G=some cd) (y:typeIn K (.ref G)=some (.type "type")) (s:subIn K t (.ref G)=some b):kitCls K t (.ref G)=some b:=by
 unfold kitCls
 dsimp only
 rw [if_pos (by rw [z,y];rfl)];exact s
theorem Zez (ne:(Value.ref C==Value.ref G)=false) (z:clsIn K G=some cd) (y:typeIn K (.ref G)=some (.type "type")) (s:subIn K (.ref C) (.ref G)=some b):kitOne K (.ref C) (.ref G)=some b:=by
 unfold kitOne
 rw [if_neg (fun q=>by rw [ne] at q;cases q)];exact Zo6 z y s
theorem Zol:kitOne K (.ref C) (.ref C)=some true:=by
 unfold kitOne
 rw [if_pos (beq_self_eq_true _)]
theorem ZtK (s:subIn K (.ref C) (.type "ValueError")=some b):kitOne K (.ref C) (.type "ValueError")=some b:=by
 unfold kitOne
 rw [if_neg (fun q=>by cases (show (Value.ref C=Value.type "ValueError") from beq_iff_eq.mp q))]
 unfold kitCls
 dsimp only
 rw [if_pos (by decide +kernel)];exact s
theorem ZsN (x:subIn K (.ref G) (.type "BaseException")=some true) (z:clsIn K G=some cd) (y:typeIn K (.ref G)=some (.type "type")) (s:subIn K (.ref C) (.ref G)=some true):exmOne K (.ref C) (.ref G)=some true:=by
 unfold exmOne
 rw [if_pos (by rw [x];rfl)];exact Zo6 z y s
end
section
variable {Y:Cx} {K:Frag} {M:Fb} {H0:Hp} {b:List Stmt} {h h':VE→Option Str}
theorem Zqr (z:XB Y K M H0 b h) (e:h=h'):XB Y K M H0 b h':=e ▸ z
theorem Zit:XB Y K M H0 b (fun _=>none):=⟨fun _ _ _ _ _ _ _ _ q=>nomatch q⟩
end
end L2
set_option Elab.async false
set_option linter.all false
set_option maxRecDepth 100000
set_option maxHeartbeats 4000000
namespace L2
open PySem PySem.Spec PyProof.Rows
section
variable {X:Cx} {K:PySem.W.Frag} {M:Fb} {H0:Hp} {pos:Pos} {st:Stmt}
@[simp] def ZjW (i:Nat) (ρ:VE):Res:=match rdO ρ i with
  | some _=>.next (ρ.set i (.own []))
  | _=>.fail
theorem ZmA {i:Nat} {x:Str} {vpos apos cpos:Pos} (hN:X.N[i]?=some x:=by rfl) (hv:Vis X.env.scope x:=by first | exact Or.inl rfl | exact Or.inr (Or.inl rfl) | exact Or.inr (Or.inr rfl)) (hd:(x==("__debug__":Str))=false:=by decide) (hcd:(x==("__classdict__":Str))=false:=by decide)
  (hs:swapsWith (.Call (.Attribute (.Name x vpos) "clear" apos) [] [] cpos) none pos.line X.env=pure false:=by rfl)
  (hbase:attributeBase (.Name x vpos) "clear" X.env (eval (.Name x vpos) X.env)=eval (.Name x vpos) X.env:=by rfl) (hline:(apos.endLine==cpos.line)=true:=by rfl) :
  JS X (.Expr (.Call (.Attribute (.Name x vpos) "clear" apos) [] [] cpos) pos) (tS K M H0 fun ρ=>ZjW i ρ) :=
 ⟨(Zlz (Zrd PySem.F.plainAttrs_list PySem.F.slot_list_clear PySem.F.type_list_clear ZoI (ZcP hN hv hd hcd) hbase hline) hs).mono fun D' σ H ⟨ρ,R,q⟩=>by
   try dsimp only at q
   cases hr:rdO ρ i with
   | none=>simp only [hr,ZjW] at q;exact False.elim q
   | some xs =>
    simp only [hr,ZjW] at q
    have hi:=ZfH hr
    obtain ⟨a,vs,e1,z1,z2,z3,z4⟩:=R.slot i _ hi
    have ha:=join_some e1
    obtain ⟨R2,S2⟩:=R.chg (ys:=[]) (ws:=[]) hi ha (by simp only [DenL])
    exact ⟨.ref a,ha,.inl ⟨rfl,vs,.inl (.inl z3)⟩,a,vs,rfl,rfl,z3,q _ _ R2 S2⟩⟩
@[simp] def ZgC (c:Bool) (a b:Res):Res:=if c=true then a else b
theorem ZhS {g1 g2:VE→Res} (c:VE→Bool) (h1:JS X st (tS K M H0 g1)) (h2:JS X st (tS K M H0 g2)):JS X st (tS K M H0 fun ρ=>ZgC (c ρ) (g1 ρ) (g2 ρ)):=⟨fun pins s σ H D I ⟨ρ,R,q⟩=>by
 dsimp only [ZgC] at q
 split at q
 ·exact h1.h pins s σ H D I ⟨ρ,R,q⟩
 ·exact h2.h pins s σ H D I ⟨ρ,R,q⟩⟩
theorem Zqv:OpR X (compareOp .IsNot) (fun x y H Q=>∃ i j,x=.bl i∧y=.bl j∧Q (.bl (!decide (i=j))) H):=by
 intro pins s σ H x y v u Q I rx ry h
 obtain ⟨i,j,rfl,rfl,q⟩:=h
 cases rx
 cases ry
 cases i<;>cases j<;>exact wpAny_of_eq (by rfl) ⟨.bl (!decide (_=_)),H,I,rfl,q⟩
def Zg8:D→D→Option D
 | .bl i,.bl j=>some (.bl (!decide (i=j)))
 | _,_=>none
@[simp] theorem ZuM (i j:Bool):Zg8 (.bl i) (.bl j)=some (.bl (!decide (i=j))):=rfl
theorem Zp8:R2D K (fun x y H Q=>∃ i j,x=.bl i∧y=.bl j∧Q (.bl (!decide (i=j))) H) Zg8:=by
 intro N H x y d1 d2 d Q nh h1 h2 e q
 unfold Zg8 at e
 split at e
 ·cases e;exact ⟨_,_,h1.bl,h2.bl,q _ H (Same.refl H) ZbA⟩
 ·cases e
theorem Zmt {a b:Expr} {f g:VE→Option D} (ha:JE X a (tP K M H0 f)) (hb:JE X b (tP K M H0 g)):JT X (.Compare a [.IsNot] [b] pos) (tB' K M H0 fun ρ=>asB (Ze Zg8 f g ρ)):=⟨Zfh Zqv Zp8 ha.h hb.h (Zcy _ (by decide) (by decide))⟩
@[simp] def Zmn (i:Nat) (ρ:VE):Bool:=match ρ[i]? with
  | some (.own _ false)=>true
  | _=>false
end
end L2
set_option Elab.async false
set_option linter.all false
set_option maxRecDepth 100000
namespace L2
open PySem PySem.Spec PyProof.Rows
def ZmB (i j:Int):Prop:=0<j∧j<2^100
instance (i j:Int):Decidable (ZmB i j):=by unfold ZmB;exact inferInstance
section
variable {X:Cx} {K:PySem.W.Frag} {M:Fb} {H0:Hp} {a b:Expr} {f g:VE→Option D} {pos:Pos}
@[simp] def Zvz:D→D→Option D:=i2 fun i j=>if ZmB i j then some (.int (i / j)) else none
end
end L2
set_option Elab.async false
set_option linter.all false
set_option maxRecDepth 100000
namespace L2
open PySem PySem.Spec PyProof.Rows
section
variable {X:Cx}
variable {K:PySem.W.Frag} {M:Fb} {H0:Hp} {ek ev:Expr} {fk fv:VE→Option D} {pos:Pos}
end
end L2
set_option Elab.async false
set_option linter.all false
set_option maxRecDepth 100000
set_option maxHeartbeats 4000000
namespace L2
open PySem PySem.Spec PyProof.Rows
section
variable {prog:Program} {w:World} {A:Around} {E:Value→Shared→Prop} {s:Shared}
variable {z tin tout ia ib ic:Addr} {fa fb fc:List Addr} {n m l k:Nat} {isA isB isC:Nat→Value→Prop} {sa sb sc:Nat→Heap→Prop} {a b c:Value}
end
end L2
set_option Elab.async false
set_option linter.all false
set_option maxRecDepth 100000
set_option maxHeartbeats 4000000
namespace L2
open PySem PySem.Spec PyProof.Rows
section
variable {prog:Program} {w:World} {A:Around} {E:Value→Shared→Prop} {s:Shared}
end
@[simp] def ZvB (f g k:VE→Option D):VE→Option (List D):=fun ρ=>match (f ρ).bind Zb8,(g ρ).bind Zb8,(k ρ).bind Zb8 with
  | some xs,some ys,some zs=>some (List.zipWith (fun x y=>D.tup [x,y.1,y.2]) xs (ys.zip zs))
  | _,_,_=>none
section
variable {X:Cx} {M:Fb} {H0:Hp} {f g k:VE→Option D} {a b c:Expr} {elts:List Expr} {p pos tpos:Pos}
end
end L2
set_option Elab.async false
set_option linter.all false
set_option maxRecDepth 100000
set_option maxHeartbeats 4000000
namespace L2
open PySem PySem.Spec PyProof.Rows PySem.W
def RawD (h:Heap) (d:Addr) (es:Array DictEntry) (ep:Nat):Prop:=∃ o,h.get? d=some o∧o.ExactDict∧o.data=.dict es ep
section
variable {prog:Program} {w:World} {A:Around} {E:Value→Shared→Prop} {s:Shared} {d it:Addr} {es:Array DictEntry} {ep i:Nat}
theorem RawD.type (x:RawD s.heap d es ep):s.TypeIs (.ref d) "dict":=by
 obtain ⟨o,e1,e2,_⟩:=x
 exact ⟨o,e1,e2.1⟩
theorem RawD.at {h h':Heap} (x:RawD h d es ep) (k:∀ o,h.get? d=some o→h'.get? d=some o):RawD h' d es ep:=by
 obtain ⟨o,e1,e2⟩:=x
 exact ⟨o,k o e1,e2⟩
end
end L2
set_option Elab.async false
set_option linter.all false
set_option maxRecDepth 100000
set_option maxHeartbeats 4000000
namespace L2
open PySem PySem.Spec PyProof.Rows PySem.W
section
variable {X:Cx}
end
def Zr4:List D→Option (List D)
 | [.lst xs true]=>(unf xs).map fun kvs=>kvs.map fun p=>kD p.1
 | _=>none
@[simp] theorem Zt2 (kvs:KDs):Zr4 [.lst (Zx kvs) true]=some (kvs.map fun p=>kD p.1):=by simp [Zr4]
section
variable {K:PySem.W.Frag} {N:Fb} {H:Hp}
end
end L2
set_option Elab.async false
set_option linter.all false
set_option maxRecDepth 100000
namespace L2
open PySem PySem.Spec PyProof.Rows
@[simp] theorem ZuV (a b:Int):eqD (.int a) (.int b)=decide (a=b):=by simp only [eqD];by_cases h:a=b<;>simp [h]
@[simp] theorem Zvg (a b:Str):eqD (.str a) (.str b)=decide (a=b):=by simp only [eqD];by_cases h:a=b<;>simp [h]
@[simp] theorem Zvh (a b:Bool):eqD (.bl a) (.bl b)=decide (a=b):=by simp only [eqD];by_cases h:a=b<;>simp [h]
@[simp] theorem Zu8:eqD .non .non=true:=by simp only [eqD]
@[simp] theorem Zvq (a:Bool) (b:Int):eqD (.bl a) (.int b)=decide ((if a then 1 else 0)=b):=by simp only [eqD];by_cases h:(if a then 1 else 0)=b<;>simp [h]
@[simp] theorem Zvx (a:Int) (b:Bool):eqD (.int a) (.bl b)=decide (a=(if b then 1 else 0)):=by simp only [eqD];by_cases h:a=(if b then 1 else 0)<;>simp [h]
@[simp] theorem Zu7 (a:Int) (b:Str):eqD (.int a) (.str b)=false:=by simp only [eqD]
@[simp] theorem ZuY (a:Str) (b:Int):eqD (.str a) (.int b)=false:=by simp only [eqD]
@[simp] theorem Zva (a:Bool) (b:Str):eqD (.bl a) (.str b)=false:=by simp only [eqD]
@[simp] theorem Zvn (a:Str) (b:Bool):eqD (.str a) (.bl b)=false:=by simp only [eqD]
@[simp] theorem Zu3 (b:Int):eqD .non (.int b)=false:=by simp only [eqD]
@[simp] theorem Zvo (b:Str):eqD .non (.str b)=false:=by simp only [eqD]
@[simp] theorem Zvi (b:Bool):eqD .non (.bl b)=false:=by simp only [eqD]
@[simp] theorem Zu4 (b:Int):eqD (.int b) .non=false:=by simp only [eqD]
@[simp] theorem Zvw (b:Str):eqD (.str b) .non=false:=by simp only [eqD]
@[simp] theorem Zu1 (b:Bool):eqD (.bl b) .non=false:=by simp only [eqD]
@[simp] theorem Zvu (a b:List D):eqD (.tup a) (.tup b)=Zah a b:=by simp only [eqD]
@[simp] theorem Zu2 (a b:List D):eqD (.lst a) (.lst b)=Zah a b:=by simp only [eqD]
@[simp] theorem ZuX (a b:List D):eqD (.tup a) (.lst b)=false:=by simp only [eqD]
@[simp] theorem Zvm (a b:List D):eqD (.lst a) (.tup b)=false:=by simp only [eqD]
@[simp] theorem Zvd (a:List D) (b:Int):eqD (.tup a) (.int b)=false:=by simp only [eqD]
@[simp] theorem Zu5 (a:List D) (b:Str):eqD (.tup a) (.str b)=false:=by simp only [eqD]
@[simp] theorem Zu9 (a:List D):eqD (.tup a) .non=false:=by simp only [eqD]
@[simp] theorem ZuU (a:List D) (b:Bool):eqD (.tup a) (.bl b)=false:=by simp only [eqD]
@[simp] theorem Zvv (a:List D) (b:Int):eqD (.int b) (.tup a)=false:=by simp only [eqD]
@[simp] theorem Zvs (a:List D) (b:Str):eqD (.str b) (.tup a)=false:=by simp only [eqD]
@[simp] theorem Zu6 (a:List D):eqD .non (.tup a)=false:=by simp only [eqD]
@[simp] theorem Zvr (a:List D) (b:Bool):eqD (.bl b) (.tup a)=false:=by simp only [eqD]
@[simp] theorem ZuW (a:List D) (b:Int):eqD (.lst a) (.int b)=false:=by simp only [eqD]
@[simp] theorem Zvl (a:List D) (b:Str):eqD (.lst a) (.str b)=false:=by simp only [eqD]
@[simp] theorem Zve (a:List D):eqD (.lst a) .non=false:=by simp only [eqD]
@[simp] theorem ZuZ (a:List D) (b:Bool):eqD (.lst a) (.bl b)=false:=by simp only [eqD]
@[simp] theorem Zvk (a:List D) (b:Int):eqD (.int b) (.lst a)=false:=by simp only [eqD]
@[simp] theorem Zvc (a:List D) (b:Str):eqD (.str b) (.lst a)=false:=by simp only [eqD]
@[simp] theorem Zvb (a:List D):eqD .non (.lst a)=false:=by simp only [eqD]
@[simp] theorem ZuK (a:List D) (b:Bool):eqD (.bl b) (.lst a)=false:=by simp only [eqD]
@[simp] theorem Zuk:Zah [] []=true:=by simp only [Zah]
@[simp] theorem Zt4 (a b:D) (as bs:List D):Zah (a::as) (b::bs)=(eqD a b&&Zah as bs):=by simp only [Zah]
@[simp] theorem ZuL (b:D) (bs:List D):Zah [] (b::bs)=false:=by simp only [Zah]
@[simp] theorem ZuP (b:D) (bs:List D):Zah (b::bs) []=false:=by simp only [Zah]
@[simp] theorem ZnI:∀ (a b:List Int),Zah (a.map D.int) (b.map D.int)=decide (a=b)
  | [],[]=>by simp
  | [],_::_=>by simp
  | _::_,[]=>by simp
  | x::a,y::b=>by simp [ZnI a b]
@[simp] theorem Zuu (n:Nat) (a:List Int):(a.map D.int).all (okD n)=true:=by
  rw [List.all_eq_true]
  intro x hx
  obtain ⟨i,_,rfl⟩:=List.mem_map.mp hx
  cases n<;>rfl
@[simp] theorem ZuO (t n:String):ZiL t n=(t==n||(t=="bool"&&n=="int")):=rfl
@[simp] theorem Ztu:ZbG=["NoneType","bool","int","str","tuple","list"]:=rfl
@[simp] theorem Zg7:Zae=12:=rfl
@[simp] theorem Zuh:tysOf.tysL []=some []:=rfl
@[simp] theorem Zt1 (n:String) (r:List D):tysOf.tysL (.ty n::r)=(tysOf.tysL r).map (n::·):=rfl
@[simp] theorem ZuS (ns:List Int):ZgE (ns.map D.int)=some ns:=ZiZ ns
@[simp] theorem Zqs:∀ (ns:List Bool),Zeu (ns.map D.bl)=some ns
  | []=>rfl
  | n::ns=>by simp only [List.map_cons,Zeu,Zqs ns];rfl
theorem ZaU {α:Type} {b:D→VE→Option VE} {e:VE→Option D} {ρ:VE} (G F:α→D):∀ (xs:List α),(∀ x∈xs,∃ ρ1,b (G x) ρ=some ρ1∧e ρ1=some (F x))→ZaG b (fun _=>some true) e ρ (xs.map G)=some (xs.map F)
 | [],_=>rfl
 | x::xs,h=>by
  obtain ⟨ρ1,h1,h2⟩:=h x List.mem_cons_self
  simp only [List.map_cons,ZaG,h1,h2,Zb,Option.bind,ZaU G F xs fun y hy=>h y (List.mem_cons_of_mem _ hy)]
@[simp] theorem Zaf {α:Type} (l:List α) (h:l.length≤1000000):ZC (some l)=some l:=by
  have:l.length≤sizeLine:=Nat.le_trans h (by decide)
  simp [this]
theorem Zfy {α β:Type} (f:α→β) (xs:List α) (lo hi:Option Int):cutD (xs.map f) lo hi=(cutD xs lo hi).map f:=by
 unfold cutD
 rw [List.length_map,List.map_take,List.map_drop]
theorem Zr8 {α:Type} (xs:List α) (k:Int) (h:0≤k):cutD xs none (some k)=xs.take k.toNat:=by
 have e:HT.sIx xs.length 0 none=0:=rfl
 have e2:HT.sIx xs.length xs.length (some k)=min k.toNat xs.length:=by simp only [HT.sIx];split<;>omega
 unfold cutD
 rw [e,e2,List.drop_zero,Nat.sub_zero]
 rcases Nat.le_total k.toNat xs.length with h1 | h1
 ·rw [Nat.min_eq_left h1]
 ·rw [Nat.min_eq_right h1,List.take_length,List.take_of_length_le h1]
theorem ZhJ {α:Type} (xs:List α) (k:Int) (h:0≤k):cutD xs (some k) none=xs.drop k.toNat:=by
 have e:HT.sIx xs.length xs.length none=xs.length:=rfl
 have e2:HT.sIx xs.length 0 (some k)=min k.toNat xs.length:=by simp only [HT.sIx];split<;>omega
 unfold cutD
 rw [e,e2]
 rcases Nat.le_total k.toNat xs.length with h1 | h1
 ·rw [Nat.min_eq_left h1,List.take_of_length_le (by rw [List.length_drop];exact Nat.le_refl _)]
 ·rw [Nat.min_eq_right h1,List.drop_length,List.drop_of_length_le h1,List.take_nil]
@[simp] theorem Zui (ns:List Int):Zo3 [.lst (ns.map D.int)]=if ns.length<64 then some ((Zq0 ns).map D.int) else none:=by simp [Zo3]
theorem Zot (j:Int) (h0:0≤j) (h:j<1000000000):Zc7 [.int j]=some ((List.range j.toNat).map fun (k:Nat)=>D.int (k:Int)):=by
 have e:Zct 0 j.toNat=(List.range j.toNat).map fun (k:Nat)=>D.int (k:Int):=by simp [Zct]
 simp only [Zc7]
 rw [ZgI ⟨by omega,by omega⟩,e]
theorem Zdr (n:Nat) (h:n<1000000000):Zc7 [.int (n:Int)]=some ((List.range n).map fun (k:Nat)=>D.int (k:Int)):=by
 rw [Zot _ (by omega) (by omega),Int.toNat_natCast]
theorem Zoc (i j:Int) (h0:0≤i) (h1:i<1000000000) (h:j<1000000000) (h2 : -1000000000<j):ZhU [.int i,.int j]=some ((List.range (j-i).toNat).map fun (k:Nat)=>D.int (i+(k:Int))):=by
 simp only [ZhU]
 rw [ZgI ⟨by omega,by omega,by omega,by omega⟩]
 rfl
theorem ZoG (xs ys:List D) (h:xs.length+ys.length≤1000000):ZD (.lst xs) (.lst ys)=some (.lst (xs++ys)):=by
 simp only [ZD]
 rw [if_pos (Nat.le_trans h (by decide))]
theorem Zke (xs ys:List D) (h:xs.length+ys.length≤1000000):ZD (.tup xs) (.tup ys)=some (.tup (xs++ys)):=by
 simp only [ZD]
 rw [if_pos (Nat.le_trans h (by decide))]
theorem Zen (x y:Str) (h:x.length+y.length≤1000000):ZD (.str x) (.str y)=some (.str (x++y)):=by
 simp only [ZD]
 rw [if_pos (Nat.le_trans h (by decide))]
theorem Zeb (neg:Bool) (c:Nat) (z:Str):inD neg (.str ⟨#[c]⟩) (.str z)=some (.bl (if neg then !decide (c∈z.cps.toList) else decide (c∈z.cps.toList))):=by
 have h:=StrLaws.found_one z c
 simp only [inD]
 rw [h]
theorem Zrn {n:Nat} {i:Int} (h0:0≤i) (h1:i<n):ixN n i=some i.toNat:=by unfold ixN;rw [if_pos h0,if_pos h1]
theorem Zh1 {α:Type} {xs:List α} {i:Int} (h0:0≤i) (h1:i<xs.length):∃ x,atI xs i=some x∧x∈xs:=by
 have h:i.toNat<xs.length:=by omega
 refine ⟨xs[i.toNat],?_,List.getElem_mem _⟩
 unfold atI
 rw [Zrn h0 h1]
 exact List.getElem?_eq_getElem h
theorem Zps {z:Str} {i:Int} (hz:z.length≤1000000) (h0:0≤i) (h1:i<z.length):∃ c,ixD (.str z) (.int i)=some (.str ⟨#[c]⟩)∧c∈z.cps.toList:=by
 have hl:z.cps.toList.length=z.length:=by simp [Str.length]
 obtain ⟨c,e,hc⟩:=Zh1 (xs:=z.cps.toList) h0 (by rw [hl];exact h1)
 refine ⟨c,?_,hc⟩
 simp only [ixD]
 rw [if_pos (Nat.le_trans hz (by decide)),e]
 rfl
@[simp] theorem Z6 (d:D):rvD (.val d)=d:=rfl
@[simp] theorem ZjD (xs:List D) (b:Bool):rvD (.own xs b)=.lst xs b:=rfl
end L2
set_option Elab.async false
set_option linter.all false
set_option maxRecDepth 100000
set_option maxHeartbeats 4000000
namespace K13
open PySem PySem.Spec PyProof.Rows L2
def CS:List Str:=["NoValue"]
noncomputable def Zdj:VE→Res:=(fun ρ=>Zh (Zs (blO (Zai (asB ((Zq isD (fun ρ=>Zb (rdA ρ 0) (Zb (Zi (some (.ty "int"))) (some [])))) ρ)) (asB (blO (ZN (asB ((Zq isD (fun ρ=>Zb (rdA ρ 0) (Zb (Zi (some (.ty "bool"))) (some [])))) ρ)))))))) (fun ρ=>.next ρ))
noncomputable def F_is_whole:List Sl→Option Rv:=fnP 1 1 Zdj
noncomputable def ZdG:VE→Option D:=(fun ρ=>blO (orB (asB ((Ze (inD false) (fun ρ=>rdP ρ 0) (fun _=>some (.str "abcdefghijklmnopqrstuvwxyz"))) ρ)) (asB ((Ze (inD false) (fun ρ=>rdP ρ 0) (fun _=>some (.str "0123456789"))) ρ))))
noncomputable def ZbL:VE→Res:=(fun ρ=>Zh (Zw (ZN (ZQ ((Zq isD (fun ρ=>Zb (rdA ρ 0) (Zb (Zi (some (.ty "str"))) (some [])))) ρ))) (Zh (Zs (some (.bl false))) (fun ρ=>.next ρ)) (.next ρ)) (fun ρ=>Zh (Zw (orB (asB ((Ze ltO (Zq ZR (fun ρ=>Zb (rdA ρ 0) (some []))) (fun _=>some (.int (1)))) ρ)) (asB ((Ze gtD (Zq ZR (fun ρ=>Zb (rdA ρ 0) (some []))) (fun _=>some (.int (12)))) ρ))) (Zh (Zs (some (.bl false))) (fun ρ=>.next ρ)) (.next ρ)) (fun ρ=>Zh (Zs (blO (Zai (asB ((Ze (inD false) (Ze ixD (fun ρ=>rdP ρ 0) (fun _=>some (.int (0)))) (fun _=>some (.str "abcdefghijklmnopqrstuvwxyz"))) ρ)) (asB ((Zq ZhB (fun ρ=>Zb (Zi (ZB ((Zaj 1 [] (fun ρ=>(rdQ ρ 0).bind ZP) (Zv 0) (fun _=>some true) ZdG) ρ))) (some []))) ρ))))) (fun ρ=>.next ρ))))
noncomputable def F_is_word:List Sl→Option Rv:=fnP 1 1 ZbL
noncomputable def Zd3:VE→Res:=(fun ρ=>Zh (Zs ((Zq ZR (fun ρ=>Zb (Zi ((Ze ixD (fun ρ=>rdP ρ 0) (fun _=>some (.int (0)))) ρ)) (some []))) ρ)) (fun ρ=>.next ρ))
noncomputable def F_whole_of:List Sl→Option Rv:=fnP 1 1 Zd3
noncomputable def ZeF:VE→Res:=(fun ρ=>Zh (Zs (ZiB (asB ((Ze ltO (fun ρ=>rdP ρ 1) (Zq ZR (fun ρ=>Zb (rdA ρ 0) (some [])))) ρ)) ((Ze ixD (fun ρ=>rdP ρ 0) (fun ρ=>rdP ρ 1)) ρ) (some .non))) (fun ρ=>.next ρ))
noncomputable def F_line_at:List Sl→Option Rv:=fnP 2 2 ZeF
noncomputable def ZcW:VE→Res:=(fun ρ=>Zh (Zw (asB ((Ze ltO (fun ρ=>rdP ρ 1) (Zq ZR (fun ρ=>Zb (rdA ρ 0) (some [])))) ρ)) (Zh (Zs ((Ze ixD (fun ρ=>rdP ρ 0) (fun ρ=>rdP ρ 1)) ρ)) (fun ρ=>.next ρ)) (.next ρ)) (fun ρ=>Zh (Zs (some (.int (0)))) (fun ρ=>.next ρ)))
noncomputable def F_law_cell_at:List Sl→Option Rv:=fnP 2 2 ZcW
noncomputable def ZcI:VE→Res:=(fun ρ=>Zh (Zt 2 ((Ze Z3 (Ze ZD (Ze ZD (Ze ZdS (fun ρ=>rdP ρ 2) (fun _=>some (.int (48271)))) (Ze ZdS (fun _=>some (.int (2))) (fun ρ=>rdP ρ 4))) (fun _=>some (.int (11)))) (fun _=>some (.int (2147483647)))) ρ) ρ) (fun ρ=>Zh (ZbN 3 ((Ze ZaB (fun ρ=>rdP ρ 2) (fun _=>some (.int (64)))) ρ) ρ) (fun ρ=>.next ρ)))
noncomputable def Ze9:VE→Res:=(fun ρ=>Zt 2 ((Ze Z3 (Ze ZD (fun ρ=>rdP ρ 0) (Ze ZdS (fun _=>some (.int (7919))) (fun ρ=>rdP ρ 1))) (fun _=>some (.int (2147483629)))) ρ) ρ)
noncomputable def Zfb:VE→Res:=(fun ρ=>ZaQ 3 (ZC ((some []).bind Zr)) ρ)
noncomputable def Ze1:VE→Res:=(Zbu (fun ρ=>((Zb (Zi (some (.int (25)))) (some [])).bind Zr).bind Zc7) (Zv 4) ZcI)
noncomputable def ZeW:VE→Res:=(fun ρ=>Zs ((sl3 (fun ρ=>rdP ρ 3) (fun ρ=>asI (some (.int (1)))) (fun _=>some none) slD) ρ))
noncomputable def ZiP:VE→Res:=fun ρ=>.next ρ
noncomputable def Ze8:VE→Res:=fun ρ=>Zh (ZeW ρ) ZiP
noncomputable def ZeX:VE→Res:=fun ρ=>Zh (Ze1 ρ) Ze8
noncomputable def Ze6:VE→Res:=fun ρ=>Zh (Zfb ρ) ZeX
noncomputable def Zfc:VE→Res:=fun ρ=>Zh (Ze9 ρ) Ze6
noncomputable def Zej:VE→Res:=Zfc
noncomputable def F_law_stream:List Sl→Option Rv:=fnP 2 5 Zej
noncomputable def Zey:VE→Res:=(fun ρ=>Zh (Zt 3 ((Ze ZD (fun ρ=>rdP ρ 3) (Ze ixD (fun ρ=>rdP ρ 2) (Ze Z3 (Ze ZaB (fun ρ=>rdP ρ 0) (Ze ZD (fun ρ=>rdP ρ 4) (fun _=>some (.int (3))))) (fun _=>some (.int (36)))))) ρ) ρ) (fun ρ=>.next ρ))
noncomputable def Zgr:VE→Res:=(fun ρ=>Zt 2 (some (.str "abcdefghijklmnopqrstuvwxyz0123456789")) ρ)
noncomputable def ZgD:VE→Res:=(fun ρ=>Zt 3 ((Ze ixD (fun ρ=>rdP ρ 2) (Ze Z3 (fun ρ=>rdP ρ 0) (fun _=>some (.int (26))))) ρ) ρ)
noncomputable def Zgt:VE→Res:=(Zbu (fun ρ=>((Zb (Zi (rdV ρ 1)) (some [])).bind Zr).bind Zc7) (Zv 4) Zey)
noncomputable def ZgB:VE→Res:=(fun ρ=>Zs (rdV ρ 3))
noncomputable def ZjY:VE→Res:=fun ρ=>.next ρ
noncomputable def ZgF:VE→Res:=fun ρ=>Zh (ZgB ρ) ZjY
noncomputable def Zgk:VE→Res:=fun ρ=>Zh (Zgt ρ) ZgF
noncomputable def ZgW:VE→Res:=fun ρ=>Zh (ZgD ρ) Zgk
noncomputable def ZgK:VE→Res:=fun ρ=>Zh (Zgr ρ) ZgW
noncomputable def ZfN:VE→Res:=ZgK
noncomputable def F_law_word:List Sl→Option Rv:=fnP 2 5 ZfN
noncomputable def ZbO:VE→Option D:=(Ze (inD false) (fun ρ=>rdP ρ 0) (fun ρ=>rdP ρ 1))
noncomputable def Zar:VE→Res:=(fun ρ=>Zw (ZQ ((Zq isD (fun ρ=>Zb (rdA ρ 0) (Zb (Zi (some (.ty "bool"))) (some [])))) ρ)) (Zh (Zs (some (.bl false))) (fun ρ=>.next ρ)) (.next ρ))
noncomputable def Zal:VE→Res:=(fun ρ=>Zw (ZQ ((Zq isD (fun ρ=>Zb (rdA ρ 0) (Zb (Zi (some (.ty "int"))) (some [])))) ρ)) (Zh (Zs (some (.bl true))) (fun ρ=>.next ρ)) (.next ρ))
noncomputable def Zaq:VE→Res:=(fun ρ=>Zw (orB (ZN (ZQ ((Zq isD (fun ρ=>Zb (rdA ρ 0) (Zb (Zi (some (.ty "str"))) (some [])))) ρ))) (ZN (asB ((ZaP leD leD (fun _=>some (.int (1))) (Zq ZR (fun ρ=>Zb (rdA ρ 0) (some []))) (fun _=>some (.int (12)))) ρ)))) (Zh (Zs (some (.bl false))) (fun ρ=>.next ρ)) (.next ρ))
noncomputable def Zc0:VE→Res:=(fun ρ=>Zt 1 (some (.str "0123456789abcdefghijklmnopqrstuvwxyz")) ρ)
noncomputable def Zc5:VE→Res:=(fun ρ=>Zs (blO (Zai (asB ((Ze (inD false) (Ze ixD (fun ρ=>rdP ρ 0) (fun _=>some (.int (0)))) (sl3 (fun ρ=>rdP ρ 1) (fun ρ=>asI (some (.int (10)))) (fun _=>some none) slD)) ρ)) (asB ((Zq ZhB (fun ρ=>Zb (Zi (ZB ((Zaj 1 [1] (fun ρ=>(rdQ ρ 0).bind ZP) (Zv 0) (fun _=>some true) ZbO) ρ))) (some []))) ρ)))))
noncomputable def ZhQ:VE→Res:=fun ρ=>.next ρ
noncomputable def Zc3:VE→Res:=fun ρ=>Zh (Zc5 ρ) ZhQ
noncomputable def Zc1:VE→Res:=fun ρ=>Zh (Zc0 ρ) Zc3
noncomputable def Zao:VE→Res:=fun ρ=>Zh (Zaq ρ) Zc1
noncomputable def Zan:VE→Res:=fun ρ=>Zh (Zal ρ) Zao
noncomputable def Zam:VE→Res:=fun ρ=>Zh (Zar ρ) Zan
noncomputable def Zat:VE→Res:=Zam
noncomputable def F_law_is_value:List Sl→Option Rv:=fnP 1 2 Zat
noncomputable def ZeG:VE→Res:=(fun ρ=>Zh (Zt 2 (ZB (ZC ((Zb (Zi (some .non)) (Zb (Zi (some (.bl true))) (Zb (Zi (some (.bl false))) (Zb (Zi (some (.str ""))) (Zb (Zi ((Ze Z3 (fun ρ=>rdP ρ 0) (Ze ZjO (fun _=>some (.int (10))) (fun _=>some (.int (30))))) ρ)) (Zb (Zi (some (.str "nobody"))) (Zb (Zi ((ZC ((Zb (Zi (rdV ρ 1)) (some [])).bind Zr)).map D.tup)) (Zb (Zi (ZB (ZC ((Zb (Zi (rdV ρ 1)) (some [])).bind Zr)))) (Zb (Zi (Zfn (some (.int (1))))) (Zb (Zi (some (.str "0"))) (some []))))))))))).bind Zr))) ρ) (fun ρ=>Zh (Zs ((Ze ixD (fun ρ=>rdP ρ 2) (Ze Z3 (fun ρ=>rdP ρ 0) (fun _=>some (.int (10))))) ρ)) (fun ρ=>.next ρ)))
noncomputable def F_law_odd:List Sl→Option Rv:=fnP 2 3 ZeG
noncomputable def ZfC:VE→Res:=(fun ρ=>Zh (Zs (blO (orB (asB ((Zm F_is_whole (fun ρ=>Zb (rdA ρ 0) (some []))) ρ)) (asB ((Zm F_is_word (fun ρ=>Zb (rdA ρ 0) (some []))) ρ))))) (fun ρ=>.next ρ))
noncomputable def F_is_value:List Sl→Option Rv:=fnP 1 1 ZfC
noncomputable def Zee:VE→Res:=(fun ρ=>Zh (Zw (Zc2 (rdP ρ 0)) (Zh (Zs ((ZC ((Zb (Zi (some (.int (0)))) (Zb (Zi (some (.int (0)))) (some []))).bind Zr)).map D.tup)) (fun ρ=>.next ρ)) (.next ρ)) (fun ρ=>Zh (Zw (ZQ ((Zm F_is_whole (fun ρ=>Zb (rdA ρ 0) (some []))) ρ)) (Zh (Zs ((ZC ((Zb (Zi (some (.int (1)))) (Zb (Zi (rdV ρ 0)) (some []))).bind Zr)).map D.tup)) (fun ρ=>.next ρ)) (.next ρ)) (fun ρ=>Zh (Zs ((ZC ((Zb (Zi (some (.int (2)))) (Zb (Zi (rdV ρ 0)) (some []))).bind Zr)).map D.tup)) (fun ρ=>.next ρ))))
noncomputable def F_value_rank:List Sl→Option Rv:=fnP 1 1 Zee
noncomputable def Z8:VE→Res:=(fun ρ=>Zh (Zs (blO (Zai (asB ((Zm F_is_whole (fun ρ=>Zb (rdA ρ 1) (some []))) ρ)) (asB ((ZaP leD leD (fun _=>some (.int (0))) (fun ρ=>rdP ρ 1) (Ze ZdX (Zm F_whole_of (fun ρ=>Zb (rdA ρ 0) (some []))) (fun _=>some (.int (2))))) ρ))))) (fun ρ=>.next ρ))
noncomputable def F_has_parents:List Sl→Option Rv:=fnP 2 2 Z8
noncomputable def ZbT:VE→Res:=(fun ρ=>Zt 3 ((Ze Z3 (Ze ZaB (fun ρ=>rdP ρ 1) (fun _=>some (.int (4)))) (Ze ZjO (fun _=>some (.int (10))) (fun _=>some (.int (30))))) ρ) ρ)
noncomputable def ZbV:VE→Res:=(fun ρ=>Zw (asB ((Ze eqO (fun ρ=>rdP ρ 0) (fun _=>some (.int (0)))) ρ)) (Zh (Zs ((Ze ZD (fun ρ=>rdP ρ 3) (fun ρ=>rdP ρ 2)) ρ)) (fun ρ=>.next ρ)) (.next ρ))
noncomputable def ZcT:VE→Res:=(fun ρ=>Zw (asB ((Ze eqO (fun ρ=>rdP ρ 0) (fun _=>some (.int (1)))) ρ)) (Zh (Zs ((Ze ZdX (Ze ZdX (fun _=>some (.int (0))) (fun ρ=>rdP ρ 3)) (fun ρ=>rdP ρ 2)) ρ)) (fun ρ=>.next ρ)) (.next ρ))
noncomputable def ZdW:VE→Res:=(fun ρ=>Zt 4 ((Zm F_law_word (fun ρ=>Zb (Zi ((Ze ZaB (fun ρ=>rdP ρ 1) (fun _=>some (.int (4)))) ρ)) (Zb (Zi ((Ze Z3 (fun ρ=>rdP ρ 1) (fun _=>some (.int (8)))) ρ)) (some [])))) ρ) ρ)
noncomputable def ZdU:VE→Res:=(fun ρ=>Zw (asB ((Ze eqO (fun ρ=>rdP ρ 0) (fun _=>some (.int (2)))) ρ)) (Zh (Zs ((Ze ZD (fun ρ=>rdP ρ 4) (mtO Zgj (Zq Zik (fun ρ=>Zb (rdA ρ 2) (some []))) (fun ρ=>Zb (Zi ((Ze ZD (fun _=>some (.int (1))) (Ze Z3 (Ze ZaB (fun ρ=>rdP ρ 1) (fun _=>some (.int (8)))) (fun _=>some (.int (4))))) ρ)) (some [])))) ρ)) (fun ρ=>.next ρ)) (.next ρ))
noncomputable def Zf9:VE→Res:=(fun ρ=>Zt 5 (some (.str "abcdefghijklmnopqrstuvwxyz")) ρ)
noncomputable def Zf4:VE→Res:=(fun ρ=>Zt 6 ((Ze Z3 (Ze ZaB (fun ρ=>rdP ρ 1) (fun _=>some (.int (8)))) (Ze ZD (Zq ZR (fun ρ=>Zb (rdA ρ 4) (some []))) (fun _=>some (.int (1))))) ρ) ρ)
noncomputable def Zf5:VE→Res:=(fun ρ=>Zt 7 ((Ze ZD (Ze ixD (fun ρ=>rdP ρ 5) (Ze ZaB (fun ρ=>rdP ρ 2) (fun _=>some (.int (26))))) (Ze ixD (fun ρ=>rdP ρ 5) (Ze Z3 (Ze ZD (fun ρ=>rdP ρ 2) (Ze ZaB (fun ρ=>rdP ρ 1) (fun _=>some (.int (8))))) (fun _=>some (.int (26)))))) ρ) ρ)
noncomputable def ZfX:VE→Res:=(fun ρ=>Zs ((Ze ZD (Ze ZD (sl3 (fun ρ=>rdP ρ 4) (fun _=>some none) (fun ρ=>asI (rdP ρ 6)) slD) (fun ρ=>rdP ρ 7)) (sl3 (fun ρ=>rdP ρ 4) (fun ρ=>asI (rdP ρ 6)) (fun _=>some none) slD)) ρ))
noncomputable def Zju:VE→Res:=fun ρ=>.next ρ
noncomputable def Zf1:VE→Res:=fun ρ=>Zh (ZfX ρ) Zju
noncomputable def Zge:VE→Res:=fun ρ=>Zh (Zf5 ρ) Zf1
noncomputable def ZfY:VE→Res:=fun ρ=>Zh (Zf4 ρ) Zge
noncomputable def ZfR:VE→Res:=fun ρ=>Zh (Zf9 ρ) ZfY
noncomputable def ZdN:VE→Res:=fun ρ=>Zh (ZdU ρ) ZfR
noncomputable def ZdV:VE→Res:=fun ρ=>Zh (ZdW ρ) ZdN
noncomputable def ZcV:VE→Res:=fun ρ=>Zh (ZcT ρ) ZdV
noncomputable def Zb1:VE→Res:=fun ρ=>Zh (ZbV ρ) ZcV
noncomputable def ZbS:VE→Res:=fun ρ=>Zh (ZbT ρ) Zb1
noncomputable def Zb3:VE→Res:=ZbS
noncomputable def F_law_value:List Sl→Option Rv:=fnP 3 8 Zb3
noncomputable def Zdi:VE→Option D:=(Zm F_law_is_value (fun ρ=>Zb (rdA ρ 0) (some [])))
noncomputable def ZaM:VE→Res:=(fun ρ=>Zh (Zs (blO (Zai (asB ((Zq isD (fun ρ=>Zb (rdA ρ 0) (Zb (Zi (some (.ty "tuple"))) (some [])))) ρ)) (Zai (asB ((ZaP leD leD (fun _=>some (.int (1))) (Zq ZR (fun ρ=>Zb (rdA ρ 0) (some []))) (fun _=>some (.int (4)))) ρ)) (asB ((Zq ZhB (fun ρ=>Zb (Zi (ZB ((Zaj 1 [] (fun ρ=>(rdQ ρ 0).bind ZP) (Zv 0) (fun _=>some true) Zdi) ρ))) (some []))) ρ)))))) (fun ρ=>.next ρ))
noncomputable def F_law_is_line:List Sl→Option Rv:=fnP 1 1 ZaM
noncomputable def ZcQ:VE→Option D:=(Ze ixD (fun ρ=>rdP ρ 0) (fun ρ=>rdP ρ 1))
noncomputable def ZcO:VE→Res:=(fun ρ=>Zh (Zs (blO (Zai (asB ((Zm F_law_is_value (fun ρ=>Zb (rdA ρ 2) (some []))) ρ)) (asB ((Ze (inD false) (fun ρ=>rdP ρ 2) (fun ρ=>ZB ((Zaj 1 [1] (fun ρ=>(rdQ ρ 0).bind ZP) (Zv 0) (fun _=>some true) ZcQ) ρ))) ρ))))) (fun ρ=>.next ρ))
noncomputable def F_law_there:List Sl→Option Rv:=fnP 3 3 ZcO
noncomputable def Zf7:VE→Res:=(fun ρ=>Zt 2 ((Ze ixD (fun ρ=>ZB (ZC ((Zb (Zi (some (.int (0)))) (Zb (Zi (some (.int (0)))) (Zb (Zi (some (.int (1)))) (Zb (Zi (some (.int (1)))) (Zb (Zi (some (.int (2)))) (Zb (Zi (some (.int (3)))) (Zb (Zi (some (.int (4)))) (Zb (Zi (Zfn (some (.int (1))))) (some []))))))))).bind Zr))) (Ze Z3 (fun ρ=>rdP ρ 0) (fun _=>some (.int (8))))) ρ) ρ)
noncomputable def ZfT:VE→Res:=(fun ρ=>Zt 3 ((Ze ixD (fun ρ=>rdP ρ 1) (Ze Z3 (Ze ZaB (fun ρ=>rdP ρ 0) (fun _=>some (.int (8)))) (Zq ZR (fun ρ=>Zb (rdA ρ 1) (some []))))) ρ) ρ)
noncomputable def ZfP:VE→Res:=(fun ρ=>Zt 4 ((Ze ixD (fun ρ=>rdP ρ 1) (Ze Z3 (Ze ZaB (fun ρ=>rdP ρ 0) (fun _=>some (.int (400)))) (Zq ZR (fun ρ=>Zb (rdA ρ 1) (some []))))) ρ) ρ)
noncomputable def ZfQ:VE→Res:=(fun ρ=>Zt 5 ((Ze ixD (fun ρ=>rdP ρ 3) (Zq ZhX (fun ρ=>Zb (Zi ((Zq Zh3 (fun ρ=>Zb (rdA ρ 2) (Zb (Zi (some (.int (0)))) (some [])))) ρ)) (Zb (Zi ((Ze ZdX (Zq ZR (fun ρ=>Zb (rdA ρ 3) (some []))) (fun _=>some (.int (1)))) ρ)) (some []))))) ρ) ρ)
noncomputable def Zf2:VE→Res:=(fun ρ=>Zt 6 ((Ze ixD (fun ρ=>rdP ρ 4) (Zq ZhX (fun ρ=>Zb (Zi ((Zq Zh3 (fun ρ=>Zb (Zi ((Ze ZD (fun ρ=>rdP ρ 2) (fun _=>some (.int (1)))) ρ)) (Zb (Zi (some (.int (0)))) (some [])))) ρ)) (Zb (Zi ((Ze ZdX (Zq ZR (fun ρ=>Zb (rdA ρ 3) (some []))) (fun _=>some (.int (1)))) ρ)) (some []))))) ρ) ρ)
noncomputable def ZfO:VE→Res:=(fun ρ=>Zt 7 ((Ze Z3 (Ze ZaB (fun ρ=>rdP ρ 0) (fun _=>some (.int (20000)))) (fun _=>some (.int (12)))) ρ) ρ)
noncomputable def Za4:VE→Res:=(fun ρ=>Zw (asB ((Ze eqO (fun ρ=>rdP ρ 7) (fun _=>some (.int (1)))) ρ)) (Zh (Zt 2 ((Zm F_law_odd (fun ρ=>Zb (Zi ((Ze ZaB (fun ρ=>rdP ρ 0) (fun _=>some (.int (240000)))) ρ)) (Zb (rdA ρ 2) (some [])))) ρ) ρ) (fun ρ=>.next ρ)) (.next ρ))
noncomputable def Zba:VE→Res:=(fun ρ=>Zw (asB ((Ze eqO (fun ρ=>rdP ρ 7) (fun _=>some (.int (2)))) ρ)) (Zh (Zt 5 ((Zm F_law_odd (fun ρ=>Zb (Zi ((Ze ZaB (fun ρ=>rdP ρ 0) (fun _=>some (.int (240000)))) ρ)) (Zb (rdA ρ 5) (some [])))) ρ) ρ) (fun ρ=>.next ρ)) (.next ρ))
noncomputable def Zbb:VE→Res:=(fun ρ=>Zw (asB ((Ze eqO (fun ρ=>rdP ρ 7) (fun _=>some (.int (3)))) ρ)) (Zh (Zt 6 ((Zm F_law_odd (fun ρ=>Zb (Zi ((Ze ZaB (fun ρ=>rdP ρ 0) (fun _=>some (.int (240000)))) ρ)) (Zb (rdA ρ 6) (some [])))) ρ) ρ) (fun ρ=>.next ρ)) (.next ρ))
noncomputable def Zbd:VE→Res:=(fun ρ=>Zw (asB ((Ze eqO (fun ρ=>rdP ρ 7) (fun _=>some (.int (4)))) ρ)) (Zh (Zt 6 (rdV ρ 5) ρ) (fun ρ=>.next ρ)) (.next ρ))
noncomputable def ZaX:VE→Res:=(fun ρ=>Zs ((ZC ((Zb (Zi (rdV ρ 2)) (Zb (Zi (rdV ρ 5)) (Zb (Zi (rdV ρ 6)) (some [])))).bind Zr)).map D.tup))
noncomputable def Ziy:VE→Res:=fun ρ=>.next ρ
noncomputable def ZaV:VE→Res:=fun ρ=>Zh (ZaX ρ) Ziy
noncomputable def Za8:VE→Res:=fun ρ=>Zh (Zbd ρ) ZaV
noncomputable def Zbe:VE→Res:=fun ρ=>Zh (Zbb ρ) Za8
noncomputable def Za5:VE→Res:=fun ρ=>Zh (Zba ρ) Zbe
noncomputable def ZaN:VE→Res:=fun ρ=>Zh (Za4 ρ) Za5
noncomputable def Zf3:VE→Res:=fun ρ=>Zh (ZfO ρ) ZaN
noncomputable def ZfZ:VE→Res:=fun ρ=>Zh (Zf2 ρ) Zf3
noncomputable def Zgf:VE→Res:=fun ρ=>Zh (ZfQ ρ) ZfZ
noncomputable def ZfV:VE→Res:=fun ρ=>Zh (ZfP ρ) Zgf
noncomputable def Zga:VE→Res:=fun ρ=>Zh (ZfT ρ) ZfV
noncomputable def ZdL:VE→Res:=fun ρ=>Zh (Zf7 ρ) Zga
noncomputable def Zhu:VE→Res:=ZdL
noncomputable def F_law_drawn:List Sl→Option Rv:=fnP 2 8 Zhu
noncomputable def Zer:VE→Option D:=(Zm F_value_rank (fun ρ=>Zb (rdA ρ 0) (some [])))
noncomputable def Zfo:VE→Res:=(fun ρ=>Zh (Zs ((Zq ZjS (fun ρ=>Zb (Zi (ZB ((Zaj 1 [] (fun ρ=>(rdQ ρ 0).bind ZP) (Zv 0) (fun _=>some true) Zer) ρ))) (some []))) ρ)) (fun ρ=>.next ρ))
noncomputable def F_key_rank:List Sl→Option Rv:=fnP 1 1 Zfo
noncomputable def ZeT:VE→Option D:=(Zm F_is_value (fun ρ=>Zb (rdA ρ 0) (some [])))
noncomputable def Zco:VE→Res:=(fun ρ=>Zh (Zw (ZN (ZQ ((Zq isD (fun ρ=>Zb (rdA ρ 0) (Zb (Zi (some (.ty "tuple"))) (some [])))) ρ))) (Zh (Zs (some (.bl false))) (fun ρ=>.next ρ)) (.next ρ)) (fun ρ=>Zh (Zw (orB (asB ((Ze ltO (Zq ZR (fun ρ=>Zb (rdA ρ 0) (some []))) (fun _=>some (.int (1)))) ρ)) (asB ((Ze gtD (Zq ZR (fun ρ=>Zb (rdA ρ 0) (some []))) (fun _=>some (.int (4)))) ρ))) (Zh (Zs (some (.bl false))) (fun ρ=>.next ρ)) (.next ρ)) (fun ρ=>Zh (Zs ((Zq ZhB (fun ρ=>Zb (Zi (ZB ((Zaj 1 [] (fun ρ=>(rdQ ρ 0).bind ZP) (Zv 0) (fun _=>some true) ZeT) ρ))) (some []))) ρ)) (fun ρ=>.next ρ))))
noncomputable def F_is_line:List Sl→Option Rv:=fnP 1 1 Zco
noncomputable def Zay:VE→Res:=(fun ρ=>Zh (ZbN 4 ((Ze ixD (fun ρ=>ZB (ZC ((Zb (Zi ((Ze ZD (fun _=>some (.int (1))) (Ze Z3 (Ze ixD (fun ρ=>rdP ρ 3) (fun ρ=>rdP ρ 5)) (fun _=>some (.int (6))))) ρ)) (Zb (Zi ((Ze ZD (fun _=>some (.int (2))) (Ze Z3 (Ze ixD (fun ρ=>rdP ρ 3) (fun ρ=>rdP ρ 5)) (fun _=>some (.int (3))))) ρ)) (Zb (Zi (some (.int (47)))) (Zb (Zi (some (.int (3)))) (some []))))).bind Zr))) (Ze Z3 (Ze ZaB (Ze ixD (fun ρ=>rdP ρ 3) (fun ρ=>rdP ρ 5)) (fun _=>some (.int (64)))) (fun _=>some (.int (4))))) ρ) ρ) (fun ρ=>.next ρ))
noncomputable def ZaW:VE→Res:=(fun ρ=>Zh (Zw (asB ((Ze gtD (fun ρ=>rdP ρ 5) (fun _=>some (.int (0)))) ρ)) (Zh (Zt 8 ((Ze Z3 (Ze ZD (Ze ZdS (fun ρ=>rdP ρ 8) (Ze ZD (fun _=>some (.int (1))) (Ze Z3 (Ze ixD (fun ρ=>rdP ρ 3) (Ze ZD (fun _=>some (.int (4))) (fun ρ=>rdP ρ 5))) (fun _=>some (.int (5)))))) (Ze ixD (fun ρ=>rdP ρ 3) (Ze ZD (fun _=>some (.int (8))) (fun ρ=>rdP ρ 5)))) (Ze ixD (fun ρ=>rdP ρ 4) (fun ρ=>rdP ρ 5))) ρ) ρ) (fun ρ=>.next ρ)) (.next ρ)) (fun ρ=>Zh (Zt 10 ((Ze ZD (fun ρ=>rdP ρ 0) (Ze ZdS (Ze ZdS (fun ρ=>rdP ρ 5) (Ze Z3 (Ze ixD (fun ρ=>rdP ρ 3) (fun _=>some (.int (16)))) (fun _=>some (.int (2))))) (fun _=>some (.int (1000003))))) ρ) ρ) (fun ρ=>Zh (ZbN 9 ((Zm F_law_value (fun ρ=>Zb (Zi ((Ze Z3 (Ze ixD (fun ρ=>rdP ρ 3) (Ze ZD (fun _=>some (.int (12))) (fun ρ=>rdP ρ 5))) (fun _=>some (.int (4)))) ρ)) (Zb (rdA ρ 10) (Zb (rdA ρ 8) (some []))))) ρ) ρ) (fun ρ=>.next ρ))))
noncomputable def ZcD:VE→Res:=(fun ρ=>Zh (Zt 8 ((Ze Z3 (Ze ZD (Ze ZdS (fun ρ=>rdP ρ 7) (Ze ZD (fun _=>some (.int (1))) (Ze Z3 (Ze ixD (fun ρ=>rdP ρ 3) (fun _=>some (.int (0)))) (fun _=>some (.int (46)))))) (Ze ixD (fun ρ=>rdP ρ 3) (fun _=>some (.int (4))))) (fun _=>some (.int (47)))) ρ) ρ) (fun ρ=>Zh (ZaQ 9 (ZC ((some []).bind Zr)) ρ) (fun ρ=>Zh ((Zbu (fun ρ=>((Zb (Zi (rdV ρ 2)) (some [])).bind Zr).bind Zc7) (Zv 5) ZaW) ρ) (fun ρ=>Zh (ZbN 6 ((Zq ZjS (fun ρ=>Zb (rdA ρ 9) (some []))) ρ) ρ) (fun ρ=>.next ρ)))))
noncomputable def Zfg:VE→Res:=(fun ρ=>Zt 3 ((Zm F_law_stream (fun ρ=>Zb (rdA ρ 0) (Zb (rdA ρ 2) (some [])))) ρ) ρ)
noncomputable def Ze5:VE→Res:=(fun ρ=>ZaQ 4 (ZC ((Zb (Zi (some (.int (47)))) (some [])).bind Zr)) ρ)
noncomputable def ZeY:VE→Res:=(Zbu (fun ρ=>((Zb (Zi (some (.int (1)))) (Zb (Zi (some (.int (4)))) (some []))).bind Zr).bind ZhU) (Zv 5) Zay)
noncomputable def Zfl:VE→Res:=(fun ρ=>ZaQ 6 (ZC ((some []).bind Zr)) ρ)
noncomputable def Zfm:VE→Res:=(Zbu (fun ρ=>((Zb (Zi (rdV ρ 1)) (some [])).bind Zr).bind Zc7) (Zv 7) ZcD)
noncomputable def Zfa:VE→Res:=(fun ρ=>Zbs (rdO ρ 6))
noncomputable def ZiQ:VE→Res:=fun ρ=>.next ρ
noncomputable def Ze2:VE→Res:=fun ρ=>Zh (Zfa ρ) ZiQ
noncomputable def ZeZ:VE→Res:=fun ρ=>Zh (Zfm ρ) Ze2
noncomputable def Zfe:VE→Res:=fun ρ=>Zh (Zfl ρ) ZeZ
noncomputable def Ze4:VE→Res:=fun ρ=>Zh (ZeY ρ) Zfe
noncomputable def Zfd:VE→Res:=fun ρ=>Zh (Ze5 ρ) Ze4
noncomputable def Zdw:VE→Res:=fun ρ=>Zh (Zfg ρ) Zfd
noncomputable def ZgH:VE→Res:=Zdw
noncomputable def F_law_ladder:List Sl→Option Rv:=fnP 3 11 ZgH
noncomputable def Zb0:VE→Res:=(fun ρ=>Zh (ZcL (neX (sdX 1 (fun ρ=>(ZC ((Zb (Zi (rdV ρ 4)) (Zb (Zi ((Ze ixD (fun ρ=>rdP ρ 3) (fun ρ=>rdP ρ 4)) ρ)) (some []))).bind Zr)).map D.tup) (Ze ixD (fun ρ=>rdP ρ 3) (Ze ZD (fun ρ=>rdP ρ 4) (fun _=>some (.int (1)))))) (Ze ixD (fun ρ=>rdP ρ 3) (Ze ZD (fun ρ=>rdP ρ 4) (fun _=>some (.int (1))))) ρ) (fun ρ=>Zh (Zs (some (.bl false))) (fun ρ=>.next ρ)) (fun ρ=>.next ρ)) (fun ρ=>.next ρ))
noncomputable def ZS:VE→Res:=(fun ρ=>Zh (Zw (orB (ZN (ZQ ((Zm F_law_is_line (fun ρ=>Zb (rdA ρ 3) (some []))) ρ))) (orB (asB ((Ze neO (Zq ZR (fun ρ=>Zb (rdA ρ 3) (some []))) (Zq ZR (fun ρ=>Zb (Zi ((Ze ixD (fun ρ=>rdP ρ 0) (fun _=>some (.int (0)))) ρ)) (some [])))) ρ)) (asB ((Ze (ZeS false) (Ze ixD (fun ρ=>rdP ρ 3) (fun _=>some (.int (0)))) (fun ρ=>rdP ρ 2)) ρ)))) (Zh (Zs (some (.bl false))) (fun ρ=>.next ρ)) (.next ρ)) (fun ρ=>Zh (ZdZ 2 ((Ze ixD (fun ρ=>rdP ρ 3) (fun _=>some (.int (0)))) ρ) (some (.bl true)) ρ) (fun ρ=>Zh ((Zbu (fun ρ=>((Zb (Zi ((Ze ZdX (Zq ZR (fun ρ=>Zb (rdA ρ 3) (some []))) (fun _=>some (.int (1)))) ρ)) (some [])).bind Zr).bind Zc7) (Zv 4) Zb0) ρ) (fun ρ=>.next ρ))))
noncomputable def ZbX:VE→Res:=(fun ρ=>Zd8 1 (some []) ρ)
noncomputable def ZbU:VE→Res:=(fun ρ=>Zd8 2 (some []) ρ)
noncomputable def ZbY:VE→Res:=(Zbu (fun ρ=>(rdQ ρ 0).bind ZP) (Zv 3) ZS)
noncomputable def ZdQ:VE→Res:=(fun ρ=>Zs (some (.bl true)))
noncomputable def Zjn:VE→Res:=fun ρ=>.next ρ
noncomputable def ZdO:VE→Res:=fun ρ=>Zh (ZdQ ρ) Zjn
noncomputable def ZbR:VE→Res:=fun ρ=>Zh (ZbY ρ) ZdO
noncomputable def ZbW:VE→Res:=fun ρ=>Zh (ZbU ρ) ZbR
noncomputable def ZbZ:VE→Res:=fun ρ=>Zh (ZbX ρ) ZbW
noncomputable def Zb6:VE→Res:=ZbZ
noncomputable def F_law_go_on:List Sl→Option Rv:=fnP 1 5 Zb6
noncomputable def ZeL:VE→Option Bool:=(fun ρ=>asB ((Ze eqO (Ze ixD (fun ρ=>rdP ρ 0) (Ze ZD (fun ρ=>rdP ρ 1) (fun _=>some (.int (1))))) (fun ρ=>rdP ρ 2)) ρ))
noncomputable def ZeP:VE→Option D:=(fun ρ=>rdV ρ 0)
noncomputable def ZcN:VE→Res:=(fun ρ=>Zh (Zw (asB ((Ze eqO (Ze ixD (fun ρ=>rdP ρ 6) (fun ρ=>rdP ρ 1)) (fun ρ=>rdP ρ 2)) ρ)) (Zh (ZbN 5 ((Ze ZD (sl3 (fun ρ=>rdP ρ 6) (fun _=>some none) (fun ρ=>asI ((Ze ZD (fun ρ=>rdP ρ 1) (fun _=>some (.int (1)))) ρ)) slD) (fun ρ=>rdP ρ 4)) ρ) ρ) (fun ρ=>.next ρ)) (Zh (ZbN 5 (rdV ρ 6) ρ) (fun ρ=>.next ρ))) (fun ρ=>.next ρ))
noncomputable def Zag:VE→Res:=(fun ρ=>Zw (orB (ZQ ((Zq isD (fun ρ=>Zb (rdA ρ 1) (Zb (Zi (some (.ty "bool"))) (some [])))) ρ)) (orB (ZN (ZQ ((Zq isD (fun ρ=>Zb (rdA ρ 1) (Zb (Zi (some (.ty "int"))) (some [])))) ρ))) (ZN (asB ((ZaP leD ltO (fun _=>some (.int (0))) (fun ρ=>rdP ρ 1) (Ze ZdX (Zq ZR (fun ρ=>Zb (Zi ((Ze ixD (fun ρ=>rdP ρ 0) (fun _=>some (.int (0)))) ρ)) (some []))) (fun _=>some (.int (1))))) ρ))))) (Zh (Zs (some .non)) (fun ρ=>.next ρ)) (.next ρ))
noncomputable def ZdD:VE→Res:=(fun ρ=>Zw (orB (ZN (ZQ ((Zm F_law_there (fun ρ=>Zb (rdA ρ 0) (Zb (rdA ρ 1) (Zb (rdA ρ 2) (some []))))) ρ))) (ZN (ZQ ((Zm F_law_there (fun ρ=>Zb (rdA ρ 0) (Zb (Zi ((Ze ZD (fun ρ=>rdP ρ 1) (fun _=>some (.int (1)))) ρ)) (Zb (rdA ρ 3) (some []))))) ρ)))) (Zh (Zs (some .non)) (fun ρ=>.next ρ)) (.next ρ))
noncomputable def Zhg:VE→Res:=(fun ρ=>Zt 4 ((sl3 (Ze ixD (fun ρ=>ZB ((Zaj 1 [1,3] (fun ρ=>(rdQ ρ 0).bind ZP) (Zv 0) ZeL ZeP) ρ)) (fun _=>some (.int (0)))) (fun ρ=>asI ((Ze ZD (fun ρ=>rdP ρ 1) (fun _=>some (.int (1)))) ρ)) (fun _=>some none) slD) ρ) ρ)
noncomputable def Zho:VE→Res:=(fun ρ=>ZaQ 5 (ZC ((some []).bind Zr)) ρ)
noncomputable def Zhn:VE→Res:=(Zbu (fun ρ=>(rdQ ρ 0).bind ZP) (Zv 6) ZcN)
noncomputable def Zhf:VE→Res:=(fun ρ=>Zbs (rdO ρ 5))
noncomputable def Zk0:VE→Res:=fun ρ=>.next ρ
noncomputable def Zhs:VE→Res:=fun ρ=>Zh (Zhf ρ) Zk0
noncomputable def Zhi:VE→Res:=fun ρ=>Zh (Zhn ρ) Zhs
noncomputable def Zhh:VE→Res:=fun ρ=>Zh (Zho ρ) Zhi
noncomputable def ZeO:VE→Res:=fun ρ=>Zh (Zhg ρ) Zhh
noncomputable def ZdC:VE→Res:=fun ρ=>Zh (ZdD ρ) ZeO
noncomputable def Zb4:VE→Res:=fun ρ=>Zh (Zag ρ) ZdC
noncomputable def Zi6:VE→Res:=Zb4
noncomputable def F_law_due:List Sl→Option Rv:=fnP 4 7 Zi6
noncomputable def Zdn:VE→Option D:=(Zm F_is_line (fun ρ=>Zb (rdA ρ 0) (some [])))
noncomputable def Zbg:VE→Res:=(fun ρ=>Zh (Zt 6 ((sl3 (fun ρ=>rdP ρ 3) (fun ρ=>asI ((Ze ZD (fun ρ=>rdP ρ 4) (fun _=>some (.int (1)))) ρ)) (fun _=>some none) slD) ρ) ρ) (fun ρ=>Zh (ZcL (neX (sdX 1 (fun ρ=>(ZC ((Zb (Zi (rdV ρ 4)) (Zb (Zi (rdV ρ 5)) (some []))).bind Zr)).map D.tup) (fun ρ=>rdV ρ 6)) (fun ρ=>rdP ρ 6) ρ) (fun ρ=>Zh (Zs (some (.bl false))) (fun ρ=>.next ρ)) (fun ρ=>.next ρ)) (fun ρ=>.next ρ)))
noncomputable def Z2:VE→Res:=(fun ρ=>Zh (Zw (orB (asB ((Ze neO (Zq ZR (fun ρ=>Zb (rdA ρ 3) (some []))) (Zq ZR (fun ρ=>Zb (Zi ((Ze ixD (fun ρ=>rdP ρ 0) (fun _=>some (.int (0)))) ρ)) (some [])))) ρ)) (asB ((Ze (ZeS false) (Ze ixD (fun ρ=>rdP ρ 3) (fun _=>some (.int (0)))) (fun ρ=>rdP ρ 2)) ρ))) (Zh (Zs (some (.bl false))) (fun ρ=>.next ρ)) (.next ρ)) (fun ρ=>Zh (ZdZ 2 ((Ze ixD (fun ρ=>rdP ρ 3) (fun _=>some (.int (0)))) ρ) (some (.bl true)) ρ) (fun ρ=>Zh ((Zbu (ZjA (fun ρ=>rdQ ρ 3)) (ZfJ 2 (Zbi (Zv 4) (Zbi (Zv 5) Zgq))) Zbg) ρ) (fun ρ=>.next ρ))))
noncomputable def Zbn:VE→Res:=(fun ρ=>Zw (ZN (ZQ ((Zq ZhB (fun ρ=>Zb (Zi (ZB ((Zaj 1 [] (fun ρ=>(rdQ ρ 0).bind ZP) (Zv 0) (fun _=>some true) Zdn) ρ))) (some []))) ρ))) (Zh (Zs (some (.bl false))) (fun ρ=>.next ρ)) (.next ρ))
noncomputable def Zch:VE→Res:=(fun ρ=>Zd8 1 (some []) ρ)
noncomputable def Zci:VE→Res:=(fun ρ=>Zd8 2 (some []) ρ)
noncomputable def Zcf:VE→Res:=(Zbu (fun ρ=>(rdQ ρ 0).bind ZP) (Zv 3) Z2)
noncomputable def Zdo:VE→Res:=(fun ρ=>Zs (some (.bl true)))
noncomputable def ZhW:VE→Res:=fun ρ=>.next ρ
noncomputable def Zdp:VE→Res:=fun ρ=>Zh (Zdo ρ) ZhW
noncomputable def Zcj:VE→Res:=fun ρ=>Zh (Zcf ρ) Zdp
noncomputable def Zck:VE→Res:=fun ρ=>Zh (Zci ρ) Zcj
noncomputable def Zcg:VE→Res:=fun ρ=>Zh (Zch ρ) Zck
noncomputable def Zbl:VE→Res:=fun ρ=>Zh (Zbn ρ) Zcg
noncomputable def Za6:VE→Res:=Zbl
noncomputable def F_go_together:List Sl→Option Rv:=fnP 1 7 Za6
noncomputable def ZdB:VE→Res:=(fun ρ=>Zh (Zw (ZN (ZQ ((Zq isD (fun ρ=>Zb (rdA ρ 0) (Zb (Zi (some (.ty "list"))) (some [])))) ρ))) (Zh (Zs (some (.bl false))) (fun ρ=>.next ρ)) (.next ρ)) (fun ρ=>Zh (Zw (orB (asB ((Ze ltO (Zq ZR (fun ρ=>Zb (rdA ρ 0) (some []))) (fun _=>some (.int (1)))) ρ)) (asB ((Ze gtD (Zq ZR (fun ρ=>Zb (rdA ρ 0) (some []))) (fun _=>some (.int (40)))) ρ))) (Zh (Zs (some (.bl false))) (fun ρ=>.next ρ)) (.next ρ)) (fun ρ=>Zh (Zs ((Zm F_go_together (fun ρ=>Zb (rdA ρ 0) (some []))) ρ)) (fun ρ=>.next ρ))))
noncomputable def F_is_ladder:List Sl→Option Rv:=fnP 1 1 ZdB
noncomputable def ZaD:VE→Res:=(fun ρ=>Zh (Zw (orB (ZN (ZQ (rdP ρ 1))) (asB ((Ze neO (Ze ixD (fun ρ=>rdP ρ 1) (fun ρ=>Zfn (some (.int (1))))) (fun ρ=>rdP ρ 2)) ρ))) (Zh (ZbN 1 (rdV ρ 2) ρ) (fun ρ=>.next ρ)) (.next ρ)) (fun ρ=>.next ρ))
noncomputable def Zd5:VE→Res:=(fun ρ=>Zh (ZaQ 1 (ZC ((some []).bind Zr)) ρ) (fun ρ=>Zh ((Zbu (fun ρ=>(ZB ((ZgN F_key_rank (fun ρ=>rdP ρ 0)) ρ)).bind ZP) (Zv 2) ZaD) ρ) (fun ρ=>Zh (Zbs (rdO ρ 1)) (fun ρ=>.next ρ))))
noncomputable def F_in_order:List Sl→Option Rv:=fnP 1 3 Zd5
noncomputable def Zcc:VE→Option D:=(fun ρ=>(ZC ((Zb (Zi (rdV ρ 0)) (some [])).bind Zr)).map D.tup)
noncomputable def Zce:VE→Option D:=(Ze ixD (fun ρ=>rdP ρ 0) (fun _=>some (.int (0))))
noncomputable def Zby:VE→Res:=(fun ρ=>Zh (Zbs ((Zaj 1 [] (fun ρ=>((Zm F_in_order (fun ρ=>Zb (Zi (ZB ((Zaj 1 [] (fun ρ=>(rdQ ρ 0).bind ZP) (Zv 0) (fun _=>some true) Zcc) ρ))) (some []))) ρ).bind ZP) (Zv 0) (fun _=>some true) Zce) ρ)) (fun ρ=>.next ρ))
noncomputable def F_values_in_order:List Sl→Option Rv:=fnP 1 1 Zby
noncomputable def ZdA:VE→Option Bool:=(fun ρ=>asB ((Ze eqO (Zm F_line_at (fun ρ=>Zb (rdA ρ 0) (Zb (rdA ρ 1) (some [])))) (fun ρ=>rdP ρ 2)) ρ))
noncomputable def ZdE:VE→Option D:=(Ze ixD (fun ρ=>rdP ρ 0) (fun _=>some (.int (0))))
noncomputable def Zcp:VE→Res:=(fun ρ=>Zh (Zw (Zai (ZN (Zc2 (rdP ρ 2))) (ZN (ZQ ((Zm F_is_value (fun ρ=>Zb (rdA ρ 2) (some []))) ρ)))) (Zh (Zbs (ZC ((some []).bind Zr))) (fun ρ=>.next ρ)) (.next ρ)) (fun ρ=>Zh (Zbs ((Zbx F_values_in_order (fun ρ=>Zb (Zi (ZB ((Zaj 1 [1,2] (fun ρ=>(rdQ ρ 0).bind ZP) (Zv 0) ZdA ZdE) ρ))) (some []))) ρ)) (fun ρ=>.next ρ)))
noncomputable def F_beneath:List Sl→Option Rv:=fnP 3 3 Zcp
noncomputable def ZcR:VE→Res:=(fun ρ=>Zh (Zs ((Ze gtD (Zq ZR (fun ρ=>Zb (Zi ((Zm F_beneath (fun ρ=>Zb (rdA ρ 0) (Zb (rdA ρ 1) (Zb (rdA ρ 2) (some []))))) ρ)) (some []))) (fun _=>some (.int (0)))) ρ)) (fun ρ=>.next ρ))
noncomputable def F_is_value_at:List Sl→Option Rv:=fnP 3 3 ZcR
noncomputable def ZdK:VE→Option Bool:=(fun ρ=>asB ((Ze eqO (Ze ixD (fun ρ=>rdP ρ 0) (Ze ZD (fun ρ=>rdP ρ 1) (fun _=>some (.int (1))))) (fun ρ=>rdP ρ 2)) ρ))
noncomputable def ZdR:VE→Option D:=(sl3 (fun ρ=>rdP ρ 0) (fun ρ=>asI ((Ze ZD (fun ρ=>rdP ρ 1) (fun _=>some (.int (1)))) ρ)) (fun _=>some none) slD)
noncomputable def ZcU:VE→Option D:=(fun ρ=>ZiB (asB ((Ze eqO (Ze ixD (fun ρ=>rdP ρ 0) (fun ρ=>rdP ρ 1)) (fun ρ=>rdP ρ 2)) ρ)) ((Ze ZD (sl3 (fun ρ=>rdP ρ 0) (fun _=>some none) (fun ρ=>asI ((Ze ZD (fun ρ=>rdP ρ 1) (fun _=>some (.int (1)))) ρ)) slD) (fun ρ=>rdP ρ 3)) ρ) (rdV ρ 0))
noncomputable def Zgd:VE→Res:=(fun ρ=>Zw (ZN (ZQ ((Zm F_has_parents (fun ρ=>Zb (rdA ρ 0) (Zb (rdA ρ 1) (some [])))) ρ))) (Zh (.fail) (fun ρ=>.next ρ)) (.next ρ))
noncomputable def Zgb:VE→Res:=(fun ρ=>Zw (ZN (ZQ ((Zm F_is_value_at (fun ρ=>Zb (rdA ρ 0) (Zb (rdA ρ 1) (Zb (rdA ρ 2) (some []))))) ρ))) (Zh (.fail) (fun ρ=>.next ρ)) (.next ρ))
noncomputable def ZfW:VE→Res:=(fun ρ=>Zw (ZN (ZQ ((Zm F_is_value_at (fun ρ=>Zb (rdA ρ 0) (Zb (Zi ((Ze ZD (fun ρ=>rdP ρ 1) (fun _=>some (.int (1)))) ρ)) (Zb (rdA ρ 3) (some []))))) ρ))) (Zh (.fail) (fun ρ=>.next ρ)) (.next ρ))
noncomputable def ZfU:VE→Res:=(fun ρ=>Zt 4 ((Ze ixD (fun ρ=>ZB ((Zaj 1 [1,3] (fun ρ=>(rdQ ρ 0).bind ZP) (Zv 0) ZdK ZdR) ρ)) (fun _=>some (.int (0)))) ρ) ρ)
noncomputable def ZfS:VE→Res:=(fun ρ=>Zbs ((Zaj 1 [1,2,4] (fun ρ=>(rdQ ρ 0).bind ZP) (Zv 0) (fun _=>some true) ZcU) ρ))
noncomputable def Zjo:VE→Res:=fun ρ=>.next ρ
noncomputable def Zf8:VE→Res:=fun ρ=>Zh (ZfS ρ) Zjo
noncomputable def ZdT:VE→Res:=fun ρ=>Zh (ZfU ρ) Zf8
noncomputable def Zf6:VE→Res:=fun ρ=>Zh (ZfW ρ) ZdT
noncomputable def Zf0:VE→Res:=fun ρ=>Zh (Zgb ρ) Zf6
noncomputable def ZdP:VE→Res:=fun ρ=>Zh (Zgd ρ) Zf0
noncomputable def Zhk:VE→Res:=ZdP
noncomputable def F_regrouped:List Sl→Option Rv:=fnP 4 5 Zhk
noncomputable def Zbo:VE→Option Str:=(fun ρ=>orX (ZgX (ZN (ZQ ((Zm F_has_parents (fun ρ=>Zb (rdA ρ 0) (Zb (rdA ρ 1) (some [])))) ρ))) (ZgO (Zb (Zi (some (.str "no level at which values have parents"))) (some [])) "NoValue") (none)) (nxO (Zw (ZN (ZQ ((Zm F_has_parents (fun ρ=>Zb (rdA ρ 0) (Zb (rdA ρ 1) (some [])))) ρ))) (Zh (.fail) (fun ρ=>.next ρ)) (.next ρ)) (fun ρ=>orX (ZgX (ZN (ZQ ((Zm F_is_value_at (fun ρ=>Zb (rdA ρ 0) (Zb (rdA ρ 1) (Zb (rdA ρ 2) (some []))))) ρ))) (ZgO (Zb (Zi (some (.str "no such value at the level"))) (some [])) "NoValue") (none)) (nxO (Zw (ZN (ZQ ((Zm F_is_value_at (fun ρ=>Zb (rdA ρ 0) (Zb (rdA ρ 1) (Zb (rdA ρ 2) (some []))))) ρ))) (Zh (.fail) (fun ρ=>.next ρ)) (.next ρ)) (fun ρ=>ZgX (ZN (ZQ ((Zm F_is_value_at (fun ρ=>Zb (rdA ρ 0) (Zb (Zi ((Ze ZD (fun ρ=>rdP ρ 1) (fun _=>some (.int (1)))) ρ)) (Zb (rdA ρ 3) (some []))))) ρ))) (ZgO (Zb (Zi (some (.str "no such parent at the level above"))) (some [])) "NoValue") (none))))))
noncomputable def Zbq:List Sl→Option Str:=fnX 4 5 Zbo
noncomputable def Zek:VE→Res:=(fun ρ=>Zh (Zt 6 (ZB (ZC ((Zb (Zi ((isX 5 CS (Z1 "NoGrain")) ρ)) (Zb (Zi ((isX 5 CS (Z1 "NoLadder")) ρ)) (Zb (Zi ((isX 5 CS (Z1 "NoPick")) ρ)) (Zb (Zi ((isX 5 CS (Z1 "NoRow")) ρ)) (some []))))).bind Zr))) ρ) (fun ρ=>Zh (Zt 6 ((Ze ZD (fun ρ=>rdP ρ 6) (fun ρ=>ZB (ZC ((Zb (Zi ((isX 5 CS (Z1 "NoSuch")) ρ)) (Zb (Zi ((isX 5 CS (Z1 "NoText")) ρ)) (Zb (Zi ((isX 5 CS (Z1 "TooMuch")) ρ)) (some [])))).bind Zr)))) ρ) ρ) (fun ρ=>Zh (Zw (Zai (ZQ ((isX 5 CS (Z1 "NoValue")) ρ)) (Zai (ZQ ((isX 5 CS (Z1 "ValueError")) ρ)) (ZN (ZQ ((Zq Zkr (fun ρ=>Zb (rdA ρ 6) (some []))) ρ))))) (Zh (Zs (some .non)) (fun ρ=>.next ρ)) (.next ρ)) (fun ρ=>Zh (Zs (some (.str "other"))) (fun ρ=>.next ρ)))))
noncomputable def ZcF:VE→Res:=(fun ρ=>Zh (Zt 4 (some .non) ρ) (fun ρ=>Zh (Zkv CS 5 ((Zb (rdA ρ 0) (Zb (rdA ρ 1) (Zb (rdA ρ 2) (Zb (rdA ρ 3) (some []))))).bind Zbq) (ZgC ((Zbx F_regrouped (fun ρ=>Zb (rdA ρ 0) (Zb (rdA ρ 1) (Zb (rdA ρ 2) (Zb (rdA ρ 3) (some [])))))) ρ).isSome (ZaQ 4 ((Zbx F_regrouped (fun ρ=>Zb (rdA ρ 0) (Zb (rdA ρ 1) (Zb (rdA ρ 2) (Zb (rdA ρ 3) (some [])))))) ρ) ρ) (Zt 4 ((Zm F_regrouped (fun ρ=>Zb (rdA ρ 0) (Zb (rdA ρ 1) (Zb (rdA ρ 2) (Zb (rdA ρ 3) (some [])))))) ρ) ρ)) Zek ρ) (fun ρ=>Zh (ZgC (Zmn 4 ρ) (Zbs (rdO ρ 4)) (Zs (rdV ρ 4))) (fun ρ=>.next ρ))))
noncomputable def F_law_told:List Sl→Option Rv:=fnP 4 7 ZcF
noncomputable def Ze0:VE→Res:=(fun ρ=>Zh (Zt 5 ((Zm F_law_stream (fun ρ=>Zb (Zi ((Zm F_law_cell_at (fun ρ=>Zb (rdA ρ 0) (Zb (Zi ((Ze ZD (fun _=>some (.int (3))) (fun ρ=>rdP ρ 4)) ρ)) (some [])))) ρ)) (Zb (rdA ρ 4) (some [])))) ρ) ρ) (fun ρ=>Zh (ZhI (ZfJ 3 (Zbi (Zv 6) (Zbi (Zv 7) (Zbi (Zv 8) Zgq)))) ((Zm F_law_drawn (fun ρ=>Zb (Zi ((Ze ZD (Ze ixD (fun ρ=>rdP ρ 5) (fun _=>some (.int (0)))) (Ze ZdS (fun _=>some (.int (33554432))) (Ze Z3 (Ze ixD (fun ρ=>rdP ρ 5) (fun _=>some (.int (1)))) (fun _=>some (.int (64)))))) ρ)) (Zb (rdA ρ 3) (some [])))) ρ) ρ) (fun ρ=>Zh (Zt 9 ((Zm F_law_due (fun ρ=>Zb (rdA ρ 3) (Zb (rdA ρ 6) (Zb (rdA ρ 7) (Zb (rdA ρ 8) (some [])))))) ρ) ρ) (fun ρ=>Zh (Zt 10 (ZB ((ZK ZmG (fun ρ=>Zb (rdA ρ 3) (some []))) ρ)) ρ) (fun ρ=>Zh (ZgC ((Zbx F_law_told (fun ρ=>Zb (rdA ρ 10) (Zb (rdA ρ 6) (Zb (rdA ρ 7) (Zb (rdA ρ 8) (some [])))))) ρ).isSome (ZaQ 11 ((Zbx F_law_told (fun ρ=>Zb (rdA ρ 10) (Zb (rdA ρ 6) (Zb (rdA ρ 7) (Zb (rdA ρ 8) (some [])))))) ρ) ρ) (Zt 11 ((Zm F_law_told (fun ρ=>Zb (rdA ρ 10) (Zb (rdA ρ 6) (Zb (rdA ρ 7) (Zb (rdA ρ 8) (some [])))))) ρ) ρ)) (fun ρ=>Zh (Zw (orB (asB ((Ze neO (fun ρ=>rdP ρ 10) (fun ρ=>rdP ρ 3)) ρ)) (Zai (Zc2 (rdP ρ 11)) (ZN (Zc2 (rdP ρ 9))))) (Zh (Zs (some (.bl false))) (fun ρ=>.next ρ)) (.next ρ)) (fun ρ=>Zh (Zw (Zc2 (rdP ρ 9)) (Zh (Zw (ZN (Zc2 (rdP ρ 11))) (Zh (Zs (some (.bl false))) (fun ρ=>.next ρ)) (.next ρ)) (fun ρ=>.next ρ)) (Zh (Zw (orB (ZN (ZQ ((Zq isD (fun ρ=>Zb (rdA ρ 11) (Zb (Zi (some (.ty "list"))) (some [])))) ρ))) (orB (asB ((Ze neO (fun ρ=>rdP ρ 11) (fun ρ=>rdP ρ 9)) ρ)) (orB (ZN (ZQ ((Zm F_law_go_on (fun ρ=>Zb (rdA ρ 11) (some []))) ρ))) (asB ((Ze Zg8 (Zm F_is_ladder (fun ρ=>Zb (rdA ρ 11) (some []))) (fun _=>some (.bl true))) ρ))))) (Zh (Zs (some (.bl false))) (fun ρ=>.next ρ)) (.next ρ)) (fun ρ=>Zh (ZjW 11 ρ) (fun ρ=>Zh (Zw (asB ((Ze neO (fun ρ=>rdP ρ 10) (fun ρ=>rdP ρ 3)) ρ)) (Zh (Zs (some (.bl false))) (fun ρ=>.next ρ)) (.next ρ)) (fun ρ=>Zh (Zt 3 (rdV ρ 9) ρ) (fun ρ=>.next ρ)))))) (fun ρ=>.next ρ))))))))
noncomputable def ZiF:VE→Res:=(fun ρ=>Zt 1 ((Zm F_law_cell_at (fun ρ=>Zb (rdA ρ 0) (Zb (Zi (some (.int (0)))) (some [])))) ρ) ρ)
noncomputable def ZiC:VE→Res:=(fun ρ=>Zt 2 ((Ze ZD (fun _=>some (.int (1))) (Ze Z3 (Ze ZaB (fun ρ=>rdP ρ 1) (fun _=>some (.int (4)))) (fun _=>some (.int (12))))) ρ) ρ)
noncomputable def Zij:VE→Res:=(fun ρ=>Zw (asB ((Ze eqO (Ze Z3 (fun ρ=>rdP ρ 1) (fun _=>some (.int (4)))) (fun _=>some (.int (2)))) ρ)) (Zh (Zt 2 ((Ze ZD (fun _=>some (.int (36))) (Ze Z3 (Ze ZaB (fun ρ=>rdP ρ 1) (fun _=>some (.int (4)))) (fun _=>some (.int (5))))) ρ) ρ) (fun ρ=>.next ρ)) (.next ρ))
noncomputable def Zlq:VE→Res:=(fun ρ=>Zt 3 ((Zm F_law_ladder (fun ρ=>Zb (Zi ((Zm F_law_cell_at (fun ρ=>Zb (rdA ρ 0) (Zb (Zi (some (.int (1)))) (some [])))) ρ)) (Zb (rdA ρ 2) (Zb (Zi ((Ze ixD (fun ρ=>ZB (ZC ((Zb (Zi (some (.int (3)))) (Zb (Zi (some (.int (2)))) (Zb (Zi (some (.int (4)))) (Zb (Zi (some (.int (3)))) (Zb (Zi (some (.int (1)))) (some [])))))).bind Zr))) (Ze Z3 (Zm F_law_cell_at (fun ρ=>Zb (rdA ρ 0) (Zb (Zi (some (.int (2)))) (some [])))) (fun _=>some (.int (5))))) ρ)) (some []))))) ρ) ρ)
noncomputable def ZlU:VE→Res:=(Zbu (fun ρ=>((Zb (Zi (some (.int (4)))) (some [])).bind Zr).bind Zc7) (Zv 4) Ze0)
noncomputable def ZlN:VE→Res:=(fun ρ=>Zs (some (.bl true)))
noncomputable def Zpm:VE→Res:=fun ρ=>.next ρ
noncomputable def ZlQ:VE→Res:=fun ρ=>Zh (ZlN ρ) Zpm
noncomputable def ZlZ:VE→Res:=fun ρ=>Zh (ZlU ρ) ZlQ
noncomputable def Zip:VE→Res:=fun ρ=>Zh (Zlq ρ) ZlZ
noncomputable def ZiO:VE→Res:=fun ρ=>Zh (Zij ρ) Zip
noncomputable def ZiH:VE→Res:=fun ρ=>Zh (ZiC ρ) ZiO
noncomputable def Zg2:VE→Res:=fun ρ=>Zh (ZiF ρ) ZiH
noncomputable def Zpa:VE→Res:=Zg2
noncomputable def F_law:List Sl→Option Rv:=fnP 1 12 Zpa
theorem Zd1 (s:Sl) (ns:List Int) (hs:s=.val (.lst (ns.map D.int))∨s=.lent (ns.map D.int)) (k:Int) (h0:0≤k):F_law_cell_at [s,.val (.int k)]=some (.val (.int (ns.getD k.toNat 0))):=by
 by_cases h:k<ns.length
 ·have hk:k.toNat<ns.length:=by omega
  rcases hs with rfl | rfl<;>simp [F_law_cell_at,fnP,ZcW,h,atI,ixN,h0,hk]
 ·have hk:ns.length≤k.toNat:=by omega
  rcases hs with rfl | rfl<;>simp [F_law_cell_at,fnP,ZcW,h,hk]
def letters:Str:="abcdefghijklmnopqrstuvwxyz"
def figures:Str:="0123456789"
def signs:Str:="abcdefghijklmnopqrstuvwxyz0123456789"
theorem Zji:signs.length=36:=by decide +kernel
theorem ZkX:signs.cps.toList=letters.cps.toList++figures.cps.toList:=by decide +kernel
def ZaE:D→Bool
 | .int _=>true
 | _=>false
def okc (c:Nat):Bool:=decide (c∈letters.cps.toList)||decide (c∈figures.cps.toList)
def Zdf:List Nat→Bool
 | []=>false
 | c::r=>decide (c∈letters.cps.toList)&&(c::r).all okc&&decide ((c::r).length≤12)
def wordD:D→Bool
 | .str z=>Zdf z.cps.toList
 | _=>false
theorem ZnE (c:Nat):okc c=decide (c∈signs.cps.toList):=by
 unfold okc
 rw [ZkX,Bool.eq_iff_iff]
 simp [List.mem_append]
def Sm:D→Prop
 | .str z=>z.length≤100
 | .ty _=>False
 | .lst _ true=>False
 | _=>True
theorem Zht (d:D) (h:Sm d):F_is_whole [.val d]=some (.val (.bl (ZaE d))):=by
 cases d with
 | lst xs b=>cases b with
  | true=>exact h.elim
  | false=>simp [F_is_whole,fnP,Zdj,ZaE]
 | ty n=>exact h.elim
 | _=>simp [F_is_whole,fnP,Zdj,ZaE]
theorem ZrG (c:Nat):ZdG [.val (.str ⟨#[c]⟩)]=some (.bl (okc c)):=by
 simp only [ZdG,Ze,rdP,List.getElem?_cons_zero,Option.bind,Zeb,asB,orB,blO,Option.map]
 cases h:decide (c∈letters.cps.toList)<;>simp [okc,letters,figures] at h ⊢<;>simp [h]
theorem Zpp (L:List Nat):ZaG (Zv 0) (fun _=>some true) ZdG [.no] (L.map fun c=>D.str ⟨#[c]⟩)=some ((L.map okc).map D.bl):=by
 rw [ZaU (fun c=>D.str ⟨#[c]⟩) (fun c=>D.bl (okc c)) L fun c _=>⟨[.val (.str ⟨#[c]⟩)],rfl,ZrG c⟩]
 simp
theorem Zmx (d:D) (h:Sm d):F_is_word [.val d]=some (.val (.bl (wordD d))):=by
 cases d with
 | str z =>
  obtain ⟨⟨L⟩⟩:=z
  have hz:L.length≤100:=h
  have hz':L.length≤sizeLine:=Nat.le_trans hz (by decide)
  have hc:=Zpp L
  cases L with
  | nil=>simp [F_is_word,fnP,ZbL,wordD,Zdf,Str.length]
  | cons c r =>
   simp only [List.length_cons] at hz hz'
   have e1:¬ ((r.length:Int)+1<1):=by omega
   by_cases h12:r.length+1≤12
   ·have e2:¬ ((12:Int)<(r.length:Int)+1):=by omega
    have e3:r.length≤11:=by omega
    by_cases hl:c∈(Str.ofString "abcdefghijklmnopqrstuvwxyz").cps
    ·simp [F_is_word,fnP,ZbL,wordD,Zdf,Str.length,hz',e1,e2,-inD,Zeb,atI,ixN,hc,-List.map_cons,-List.map_map,hl,e3,letters]
    ·simp [F_is_word,fnP,ZbL,wordD,Zdf,Str.length,hz',e1,e2,-inD,Zeb,atI,ixN,hl,e3,letters]
   ·have e2:(12:Int)<(r.length:Int)+1:=by omega
    have e3:¬ r.length≤11:=by omega
    simp [F_is_word,fnP,ZbL,wordD,Zdf,Str.length,hz',e1,e2,e3]
 | ty n=>exact h.elim
 | lst xs b=>cases b with
  | true=>exact h.elim
  | false=>simp [F_is_word,fnP,ZbL,wordD]
 | _=>simp [F_is_word,fnP,ZbL,wordD]
theorem ZeN (d:D) (h:Sm d):F_is_value [.val d]=some (.val (.bl (ZaE d||wordD d))):=by
 have h1:=Zht d h
 have h2:=Zmx d h
 cases hw:ZaE d<;>simp [hw] at h1 ⊢<;>simp [F_is_value,fnP,ZfC,h1,h2]
def Zau (d:D):Bool:=ZaE d||wordD d
theorem Zrk (c:Nat):decide (c∈(Str.ofString "0123456789abcdefghijklmnopqrstuvwxyz").cps.toList)=okc c:=by
 have h:(Str.ofString "0123456789abcdefghijklmnopqrstuvwxyz").cps.toList=figures.cps.toList++letters.cps.toList:=by decide +kernel
 unfold okc
 rw [h,Bool.eq_iff_iff]
 simp [List.mem_append,or_comm]
theorem ZnR (L:List Nat):ZaG (Zv 0) (fun _=>some true) ZbO [.no,.val (.str "0123456789abcdefghijklmnopqrstuvwxyz")] (L.map fun c=>D.str ⟨#[c]⟩)=some ((L.map okc).map D.bl):=by
 rw [ZaU (fun c=>D.str ⟨#[c]⟩) (fun c=>D.bl (okc c)) L fun c _=>⟨[.val (.str ⟨#[c]⟩),.val (.str "0123456789abcdefghijklmnopqrstuvwxyz")],rfl,by
  have:=Zrk c
  simp only [ZbO,Ze,rdP,List.getElem?_cons_zero,List.getElem?_cons_succ,Option.bind,Zeb]
  rw [this];rfl⟩]
 simp
theorem ZiR (d:D) (h:Sm d):F_law_is_value [.val d]=some (.val (.bl (Zau d))):=by
 have hcut:Txt.slice (Str.ofString "0123456789abcdefghijklmnopqrstuvwxyz") (some 10) none=Str.ofString "abcdefghijklmnopqrstuvwxyz":=by decide +kernel
 have h36:(Str.ofString "0123456789abcdefghijklmnopqrstuvwxyz").cps.size≤sizeLine:=by decide +kernel
 cases d with
 | str z =>
  obtain ⟨⟨L⟩⟩:=z
  have hz:L.length≤100:=h
  have hz':L.length≤sizeLine:=Nat.le_trans hz (by decide)
  have hc:=ZnR L
  have hF:Zaj 1 [1] (fun ρ=>((fun ρ=>rdQ ρ 0) ρ).bind ZP) (Zv 0) (fun _=>some true) ZbO [.val (.str ⟨⟨L⟩⟩),.val (.str "0123456789abcdefghijklmnopqrstuvwxyz")]=some ((L.map okc).map D.bl):=by
   show (ZC (some (L.map fun c=>D.str ⟨#[c]⟩))).bind (ZaG _ _ _ [.no,.val (.str "0123456789abcdefghijklmnopqrstuvwxyz")])=_
   rw [Zaf _ (by simp;omega)]
   exact hc
  simp only [rdQ] at hF
  cases L with
  | nil=>simp [F_law_is_value,fnP,Zat,Zam,Zar,Zan,Zal,Zao,Zaq,Zau,ZaE,wordD,Zdf,Str.length]
  | cons c r =>
   simp only [List.length_cons] at hz hz'
   have e1:(1:Int)≤(r.length:Int)+1:=by omega
   by_cases h12:r.length+1≤12
   ·have e2:(r.length:Int)+1≤12:=by omega
    have e3:r.length≤11:=by omega
    by_cases hl:c∈(Str.ofString "abcdefghijklmnopqrstuvwxyz").cps
    ·simp [F_law_is_value,fnP,Zat,Zam,Zar,Zan,Zal,Zao,Zaq,Zc1,Zc0,Zc3,Zc5,Zau,ZaE,wordD,Zdf,Str.length,hz',e1,e2,h36,hcut,-inD,Zeb,atI,ixN,-Zaj,hF,-List.map_cons,-List.map_map,hl,e3,letters]
    ·simp [F_law_is_value,fnP,Zat,Zam,Zar,Zan,Zal,Zao,Zaq,Zc1,Zc0,Zc3,Zc5,Zau,ZaE,wordD,Zdf,Str.length,hz',e1,e2,h36,hcut,-inD,Zeb,atI,ixN,hl,e3,letters]
   ·have e2:¬ ((r.length:Int)+1≤12):=by omega
    have e3:¬ r.length≤11:=by omega
    simp [F_law_is_value,fnP,Zat,Zam,Zar,Zan,Zal,Zao,Zaq,Zau,ZaE,wordD,Zdf,Str.length,hz',e1,e2,e3]
 | ty n=>exact h.elim
 | lst xs b=>cases b with
  | true=>exact h.elim
  | false=>simp [F_law_is_value,fnP,Zat,Zam,Zar,Zan,Zal,Zao,Zaq,Zau,ZaE,wordD]
 | _=>simp [F_law_is_value,fnP,Zat,Zam,Zar,Zan,Zal,Zao,Zaq,Zau,ZaE,wordD]
def SmL:D→Prop
 | .tup xs=>xs.length≤1000∧∀ x∈xs,Sm x
 | d=>Sm d
def ZT:D→Bool
 | .tup xs=>decide (1≤xs.length)&&decide (xs.length≤4)&&xs.all Zau
 | _=>false
theorem Zi8 {e:VE→Option D} (he:∀ d,Sm d→e [.val d]=some (.bl (Zau d))) (xs:List D) (h:∀ x∈xs,Sm x):ZaG (Zv 0) (fun _=>some true) e [.no] xs=some ((xs.map Zau).map D.bl):=by
 have:=ZaU (b:=Zv 0) (e:=e) (ρ:=[.no]) (fun d:D=>d) (fun d=>D.bl (Zau d)) xs fun d hd=>⟨[.val d],rfl,he d (h d hd)⟩
 rw [List.map_id'] at this
 rw [this,List.map_map];rfl
theorem ZlO (xs:List D):(xs.map Zau).all id=xs.all Zau:=by rw [List.all_map];rfl
theorem Zmi (d:D) (h:SmL d):F_is_line [.val d]=some (.val (.bl (ZT d))):=by
 cases d with
 | tup xs =>
  have hc:=Zi8 (e:=ZeT) (fun d hd=>by have:=ZeN d hd;simp only [ZeT,Zm,Zb,rdA,List.getElem?_cons_zero,Option.bind,this,Option.map,rvD];rfl) xs h.2
  have hz:xs.length≤sizeLine:=Nat.le_trans h.1 (by decide)
  have ha:=ZlO xs
  have ha':(xs.map Zau).all (fun x=>x)=xs.all Zau:=ha
  by_cases h1:1≤xs.length
  ·by_cases h4:xs.length≤4
   ·have e1:¬ ((xs.length:Int)<1):=by omega
    have e2:¬ ((4:Int)<(xs.length:Int)):=by omega
    simp [F_is_line,fnP,Zco,ZT,e1,e2,h1,h4,hz,Z9,hc,-List.map_map,ha,ha']
   ·have e1:¬ ((xs.length:Int)<1):=by omega
    have e2:(4:Int)<(xs.length:Int):=by omega
    simp [F_is_line,fnP,Zco,ZT,e1,e2,h1,h4]
  ·have e1:(xs.length:Int)<1:=by omega
   simp [F_is_line,fnP,Zco,ZT,e1,h1]
 | ty n=>exact h.elim
 | lst xs b=>cases b with
  | true=>exact h.elim
  | false=>simp [F_is_line,fnP,Zco,ZT]
 | _=>simp [F_is_line,fnP,Zco,ZT]
theorem Zhw (d:D) (h:SmL d):F_law_is_line [.val d]=some (.val (.bl (ZT d))):=by
 cases d with
 | tup xs =>
  have hc:=Zi8 (e:=Zdi) (fun d hd=>by have:=ZiR d hd;simp only [Zdi,Zm,Zb,rdA,List.getElem?_cons_zero,Option.bind,this,Option.map,rvD]) xs h.2
  have hz:xs.length≤sizeLine:=Nat.le_trans h.1 (by decide)
  have ha:=ZlO xs
  have ha':(xs.map Zau).all (fun x=>x)=xs.all Zau:=ha
  by_cases h1:1≤xs.length
  ·by_cases h4:xs.length≤4
   ·have e1:(1:Int)≤(xs.length:Int):=by omega
    have e2:(xs.length:Int)≤4:=by omega
    simp [F_law_is_line,fnP,ZaM,ZT,e1,e2,h1,h4,hz,Z9,hc,-List.map_map,ha,ha']
   ·have e1:(1:Int)≤(xs.length:Int):=by omega
    have e2:¬ ((xs.length:Int)≤4):=by omega
    simp [F_law_is_line,fnP,ZaM,ZT,e1,e2,h1,h4]
  ·have e1:¬ ((1:Int)≤(xs.length:Int)):=by omega
   simp [F_law_is_line,fnP,ZaM,ZT,e1,h1]
 | ty n=>exact h.elim
 | lst xs b=>cases b with
  | true=>exact h.elim
  | false=>simp [F_law_is_line,fnP,ZaM,ZT]
 | _=>simp [F_law_is_line,fnP,ZaM,ZT]
def lnD (l:List At):D:=.tup (l.map aD)
abbrev EK:=Nat×At
def Zcd {T:Type}:List (EK×T)→EK→Option T
 | [],_=>none
 | e::r,k=>if e.1=k then some e.2 else Zcd r k
def Zap {T:Type} [DecidableEq T]:List (EK×T)→List (EK×T)→Option (List (EK×T))
 | S,[]=>some S
 | S,e::E=>match Zcd S e.1 with
  | some t=>if t=e.2 then Zap S E else none
  | none=>Zap (S++[e]) E
def kE (k:EK):KT:=.tup [.int (k.1:Int),k.2]
def SK {T:Type} (f:T→D) (S:List (EK×T)):KDs:=S.map fun e=>(kE e.1,f e.2)
theorem ZrX {a b:EK} (h:kE a=kE b):a=b:=by
 obtain ⟨i,x⟩:=a
 obtain ⟨j,y⟩:=b
 simp only [kE,KT.tup.injEq,List.cons.injEq,At.int.injEq,and_true] at h
 have:i=j:=by omega
 rw [this,h.2]
theorem Zhx {T:Type} (f:T→D) (k:EK):∀ S:List (EK×T),ZbP (SK f S) (kE k)=(Zcd S k).map f
 | []=>rfl
 | e::r=>by
  have ih:=Zhx f k r
  simp only [SK,List.map_cons] at ih ⊢
  unfold ZbP Zcd
  by_cases h:e.1=k
  ·rw [if_pos h,if_pos (by rw [h])];rfl
  ·rw [if_neg h,if_neg (fun z=>h (ZrX z))];exact ih
theorem Zrv {T:Type} (f:T→D) (S:List (EK×T)):∀ p∈SK f S,Zgs p.1=false:=by
 intro p hp
 obtain ⟨e,_,rfl⟩:=List.mem_map.mp hp
 rfl
theorem Zsu {T:Type} (f:T→D) (S:List (EK×T)) (e:EK×T) (h:Zcd S e.1=none):ZeV (SK f S) (kE e.1) (f e.2)=SK f (S++[e]):=by
 unfold ZeV
 rw [Zhx,h]
 simp [SK]
theorem Znc (a:At):okK (aD a)=some (.at a):=Zj3 (.at a)
theorem Zeo:∀ (a b:At),eqD (aD a) (aD b)=decide (a=b):=by
 intro a b
 cases a<;>cases b<;>simp [aD]
theorem ZgY:∀ (a b:List At),Zah (a.map aD) (b.map aD)=decide (a=b)
 | [],[]=>by simp
 | [],_::_=>by simp
 | _::_,[]=>by simp
 | x::a,y::b=>by
  have ih:=ZgY a b
  rw [Bool.eq_iff_iff]
  simp [Zeo,ih]
theorem Zgx (n:Nat) (a:At):okD n (aD a)=true:=by cases a<;>cases n<;>rfl
theorem Ziq (n:Nat) (l:List At):okD (n+1) (lnD l)=true:=by
 show (l.map aD).all (okD n)=true
 rw [List.all_map,List.all_eq_true]
 exact fun a _=>Zgx n a
theorem ZmY (a b:List At):neO (lnD a) (lnD b)=some (.bl (!decide (a=b))):=by
 have h1:=Ziq 11 a
 have h2:=Ziq 11 b
 have h3:eqD (lnD a) (lnD b)=decide (a=b):=by simp only [lnD,eqD,ZgY]
 simp only [neO,Zg7,h1,h2,h3,Bool.and_self,if_true]
theorem Zsm (a b:At):neO (aD a) (aD b)=some (.bl (!decide (a=b))):=by
 simp only [neO,Zg7,Zgx,Zeo,Bool.and_self,if_true]
theorem ZoR {T:Type} [DecidableEq T] (f:T→D) (hf:∀ a b,neO (f a) (f b)=some (.bl (!decide (a=b)))) (S:List (EK×T)) (hS:S.length<100000) (e:EK×T) (i:Nat) (fk fv g:VE→Option D) (ρ:VE) (hr:rdG ρ i=some (Zx (SK f S))) (hk:fk ρ=some (kD (kE e.1))) (hv:fv ρ=some (f e.2))
  (hg:∀ xs,g (ρ.set i (.own xs true))=some (f e.2)) (hg0:g ρ=some (f e.2)) :
  neX (sdX i fk fv) g ρ=match Zcd S e.1 with
   | some t=>some (!decide (t=e.2),ρ)
   | none=>some (false,ρ.set i (.own (Zx (SK f (S++[e]))) true)):=by
 have hz:(SK f S).length<sizeLine:=Nat.lt_of_lt_of_le (show (SK f S).length<100000 by simpa [SK] using hS) (by decide)
 have hh:Zc6 (kE e.1) (SK f S)=true:=Zob _ (Zrv f S)
 have hv':=Zhx f e.1 S
 unfold neX sdX
 simp only [hr,hk,hv,Zj5,Zj3,hh,hz,decide_true,Bool.and_self,if_true]
 cases hl:Zcd S e.1 with
 | some t =>
  rw [hl] at hv'
  simp only [hv',Option.map_some,hg0,hf,asB]
 | none =>
  rw [hl] at hv'
  simp only [hv',Option.map_none,hg,hf,asB,Option.map_some,decide_true,Bool.not_true,Zsu f S e hl]
def Za3:Nat→List At→List (EK×List At)
 | _,[]=>[]
 | i,a::r=>((i,a),r)::Za3 (i+1) r
def ZbJ:Nat→List At→List (EK×At)
 | i,a::b::r=>((i,a),b)::ZbJ (i+1) (b::r)
 | _,_=>[]
theorem ZiE (s0 s2:Sl) (l:List At) (hl:l.length≤4):∀ (rest pre:List At) (S:List (EK×List At)) (s4 s5 s6:Sl),l=pre++rest→S.length+rest.length<100000 →
  (∃ S' s4' s5' s6',Zap S (Za3 pre.length rest)=some S'∧S'.length≤S.length+rest.length∧ZV (ZfJ 2 (Zbi (Zv 4) (Zbi (Zv 5) Zgq))) Zbg (ZcA pre.length (rest.map aD)) [s0,.own (Zx (SK lnD S)) true,s2,.val (lnD l),s4,s5,s6]=.next [s0,.own (Zx (SK lnD S')) true,s2,.val (lnD l),s4',s5',s6']) ∨
  (Zap S (Za3 pre.length rest)=none∧ZV (ZfJ 2 (Zbi (Zv 4) (Zbi (Zv 5) Zgq))) Zbg (ZcA pre.length (rest.map aD)) [s0,.own (Zx (SK lnD S)) true,s2,.val (lnD l),s4,s5,s6]=.ret (.val (.bl false)))
 | [],pre,S,s4,s5,s6,_,_=>.inl ⟨S,s4,s5,s6,rfl,by simp,rfl⟩
 | a::r,pre,S,s4,s5,s6,hlr,hz=>by
  simp only [List.length_cons] at hz
  have hcut:cutD (l.map aD) (some ((pre.length:Int)+1)) none=r.map aD:=by
   rw [Zfy,ZhJ _ _ (by omega),hlr]
   have:((pre.length:Int)+1).toNat=pre.length+1:=by omega
   rw [this]
   simp
  have hsd:=ZoR lnD ZmY S (by omega) ((pre.length,a),r) 1 (fun ρ=>(ZC (((fun ρ=>Zb (Zi ((fun ρ=>rdV ρ 4) ρ)) ((fun ρ=>Zb (Zi ((fun ρ=>rdV ρ 5) ρ)) ((fun _=>some []) ρ)) ρ)) ρ).bind Zr)).map D.tup) (fun ρ=>rdV ρ 6) (fun ρ=>rdP ρ 6)
   [s0,.own (Zx (SK lnD S)) true,s2,.val (lnD l),.val (.int (pre.length:Int)),.val (aD a),.val (lnD r)] rfl (by
    have two:2≤sizeLine:=by decide
    simp [two,kE,kD,aD]) rfl (fun xs=>rfl) rfl
  have hbody:Zbg [s0,.own (Zx (SK lnD S)) true,s2,.val (lnD l),.val (.int (pre.length:Int)),.val (aD a),s6] =
    ZcL (match Zcd S ((pre.length,a):EK) with
     | some t=>some (!decide (t=r),[s0,.own (Zx (SK lnD S)) true,s2,.val (lnD l),.val (.int (pre.length:Int)),.val (aD a),.val (lnD r)])
     | none=>some (false,[s0,.own (Zx (SK lnD (S++[((pre.length,a),r)]))) true,s2,.val (lnD l),.val (.int (pre.length:Int)),.val (aD a),.val (lnD r)])) (fun _=>.ret (.val (.bl false))) (fun ρ=>.next ρ):=by
   have hset:Zt 6 (sl3 (fun ρ=>rdP ρ 3) (fun ρ=>asI (Ze ZD (fun ρ=>rdP ρ 4) (fun _=>some (.int 1)) ρ)) (fun _=>some none) slD [s0,.own (Zx (SK lnD S)) true,s2,.val (lnD l),.val (.int (pre.length:Int)),.val (aD a),s6]) [s0,.own (Zx (SK lnD S)) true,s2,.val (lnD l),.val (.int (pre.length:Int)),.val (aD a),s6] =
     .next [s0,.own (Zx (SK lnD S)) true,s2,.val (lnD l),.val (.int (pre.length:Int)),.val (aD a),.val (lnD r)]:=by
    simp [lnD,hcut]
   unfold Zbg
   try dsimp only
   rw [hset]
   simp only [Zh]
   rw [hsd]
   cases hlk:Zcd S ((pre.length,a):EK) with
   | none=>simp [ZcL]
   | some t=>cases hd:decide (t=r)<;>simp [ZcL,hd]
  have hen:ZcA pre.length ((a::r).map aD)=.tup [.int (pre.length:Int),aD a]::ZcA (pre.length+1) (r.map aD):=rfl
  have hlen:(pre++[a]).length=pre.length+1:=by simp
  have hb2:ZfJ 2 (Zbi (Zv 4) (Zbi (Zv 5) Zgq)) (.tup [.int (pre.length:Int),aD a]) [s0,.own (Zx (SK lnD S)) true,s2,.val (lnD l),s4,s5,s6]=some [s0,.own (Zx (SK lnD S)) true,s2,.val (lnD l),.val (.int (pre.length:Int)),.val (aD a),s6]:=rfl
  rw [hen]
  cases hlk:Zcd S ((pre.length,a):EK) with
  | some t =>
   rw [hlk] at hbody
   by_cases ht:t=r
   ·have ih:=ZiE s0 s2 l hl r (pre++[a]) S (.val (.int (pre.length:Int))) (.val (aD a)) (.val (lnD r)) (by rw [hlr];simp) (by omega)
    rw [hlen] at ih
    have hrun:Zap S (Za3 pre.length (a::r))=Zap S (Za3 (pre.length+1) r):=by simp [Za3,Zap,hlk,ht]
    simp only [ht,decide_true,Bool.not_true,ZcL] at hbody
    rw [hrun]
    simp only [ZV,hb2,hbody]
    rcases ih with ⟨S',x4,x5,x6,h1,h2,h3⟩ | ⟨h1,h2⟩
    ·exact .inl ⟨S',x4,x5,x6,h1,by simp only [List.length_cons];omega,h3⟩
    ·exact .inr ⟨h1,h2⟩
   ·have hrun:Zap S (Za3 pre.length (a::r))=none:=by simp [Za3,Zap,hlk,ht]
    simp only [ht,decide_false,Bool.not_false,ZcL] at hbody
    exact .inr ⟨hrun,by simp only [ZV,hb2,hbody]⟩
  | none =>
   rw [hlk] at hbody
   have ih:=ZiE s0 s2 l hl r (pre++[a]) (S++[((pre.length,a),r)]) (.val (.int (pre.length:Int))) (.val (aD a)) (.val (lnD r)) (by rw [hlr];simp) (by simp;omega)
   rw [hlen] at ih
   have hrun:Zap S (Za3 pre.length (a::r))=Zap (S++[((pre.length,a),r)]) (Za3 (pre.length+1) r):=by simp [Za3,Zap,hlk]
   simp only [ZcL] at hbody
   rw [hrun]
   simp only [ZV,hb2,hbody]
   rcases ih with ⟨S',x4,x5,x6,h1,h2,h3⟩ | ⟨h1,h2⟩
   ·exact .inl ⟨S',x4,x5,x6,h1,by simp at h2;simp only [List.length_cons];omega,h3⟩
   ·exact .inr ⟨h1,h2⟩
def FK (F:List At):KDs:=F.map fun a=>(.at a,.bl true)
theorem Zh9 (a:At):∀ F:List At,ZbP (FK F) (.at a)=if a∈F then some (.bl true) else none
 | []=>by simp [FK,ZbP]
 | b::F=>by
  have ih:=Zh9 a F
  simp only [FK,List.map_cons] at ih ⊢
  unfold ZbP
  by_cases h:b=a
  ·subst h;simp
  ·have h':¬ (KT.at b=KT.at a):=fun z=>h (KT.at.inj z)
   have h2:¬ a=b:=fun z=>h z.symm
   rw [if_neg h',ih];simp [h2]
theorem Zpc (F:List At):∀ p∈FK F,Zgs p.1=true:=by
 intro p hp
 obtain ⟨e,_,rfl⟩:=List.mem_map.mp hp
 rfl
theorem Zm1 (F:List At) (a:At) (h:a∉F):ZeV (FK F) (.at a) (.bl true)=FK (F++[a]):=by
 unfold ZeV
 rw [Zh9,if_neg h]
 simp [FK]
def goP (n:Nat):List At→List (EK×List At)→List (List At)→Bool
 | _,_,[]=>true
 | F,S,l::ls=>match l with
  | []=>false
  | a::_=>if l.length=n∧a∉F then (match Zap S (Za3 0 l) with
   | some S'=>goP n (F++[a]) S' ls
   | none=>false) else false
def goL (n:Nat):List At→List (EK×At)→List (List At)→Bool
 | _,_,[]=>true
 | F,S,l::ls=>match l with
  | []=>false
  | a::_=>if l.length=n∧a∉F then (match Zap S (ZbJ 0 l) with
   | some S'=>goL n (F++[a]) S' ls
   | none=>false) else false
theorem Zj0 (LL:List D) (l0:List At) (h0:ixD (.lst LL) (.int 0)=some (lnD l0)):∀ (ls:List (List At)) (F:List At) (S:List (EK×List At)) (s3 s4 s5 s6:Sl),(∀ l∈ls,1≤l.length∧l.length≤4)→S.length+4 * ls.length<100000→F.length+ls.length<100000 →
  (∃ ρ,goP l0.length F S ls=true∧ZV (Zv 3) Z2 (ls.map lnD) [.lent LL,.own (Zx (SK lnD S)) true,.own (Zx (FK F)) true,s3,s4,s5,s6]=.next ρ) ∨
  (goP l0.length F S ls=false∧ZV (Zv 3) Z2 (ls.map lnD) [.lent LL,.own (Zx (SK lnD S)) true,.own (Zx (FK F)) true,s3,s4,s5,s6]=.ret (.val (.bl false)))
 | [],F,S,s3,s4,s5,s6,_,_,_=>.inl ⟨_,rfl,rfl⟩
 | []::ls,F,S,s3,s4,s5,s6,h,_,_=>by have:=(h [] List.mem_cons_self).1;simp at this
 | (a::r)::ls,F,S,s3,s4,s5,s6,h,hz1,hz2=>by
  simp only [List.length_cons] at hz1 hz2
  have hl:=h (a::r) List.mem_cons_self
  have hz:F.length<sizeLine:=Nat.lt_of_lt_of_le (show F.length<100000 by omega) (by decide)
  have hh:=ZlP a (Zpc F)
  have hv:=Zh9 a F
  have hi:atI ((a::r).map aD) 0=some (aD a):=by simp [atI,ixN]
  have hFl:(FK F).length=F.length:=by simp [FK]
  have hlen0:ZR [lnD l0]=some (.int (l0.length:Int)):=by simp [lnD]
  have hlen1:ZR [lnD (a::r)]=some (.int ((a::r).length:Int)):=by simp [lnD]
  have hix:ixD (lnD (a::r)) (.int 0)=some (aD a):=by simp only [lnD,ixD];exact hi
  have hok:=Znc a
  have hzs:Zb8 (lnD (a::r))=some ((a::r).map aD):=rfl
  simp only [List.map_cons,ZV,Zv,List.set_cons_succ,List.set_cons_zero]
  by_cases hln:(a::r).length=l0.length
  ·by_cases hF:a∈F
   ·rw [if_pos hF] at hv
    refine .inr ⟨by simp [goP,hF],?_⟩
    have e1:Z2 [.lent LL,.own (Zx (SK lnD S)) true,.own (Zx (FK F)) true,.val (lnD (a::r)),s4,s5,s6]=.ret (.val (.bl false)):=by
     simp [Z2,-ixD,-ZR,h0,hix,hlen0,hlen1,hln,hok,hh,hv]
    rw [e1]
   ·rw [if_neg hF] at hv
    have hput:=Zm1 F a hF
    have hin:=ZiE (.lent LL) (.own (Zx (FK (F++[a]))) true) (a::r) hl.2 (a::r) [] S s4 s5 s6 (by simp) (by simp only [List.length_cons] at hl ⊢;omega)
    simp only [List.length_nil] at hin
    rcases hin with ⟨S',x4,x5,x6,r1,r2,r3⟩ | ⟨r1,r2⟩
    ·have ih:=Zj0 LL l0 h0 ls (F++[a]) S' (.val (lnD (a::r))) x4 x5 x6 (fun m hm=>h m (List.mem_cons_of_mem _ hm)) (by simp only [List.length_cons] at hl r2;omega) (by simp;omega)
     have hgo:goP l0.length F S ((a::r)::ls)=goP l0.length (F++[a]) S' ls:=by simp only [goP,hln,hF,r1,not_false_eq_true,and_self,if_true]
     have e1:Z2 [.lent LL,.own (Zx (SK lnD S)) true,.own (Zx (FK F)) true,.val (lnD (a::r)),s4,s5,s6]=.next [.lent LL,.own (Zx (SK lnD S')) true,.own (Zx (FK (F++[a]))) true,.val (lnD (a::r)),x4,x5,x6]:=by
      simp [Z2,-ixD,-ZR,h0,hix,hlen0,hlen1,hln,hok,hh,hv,ZdZ,hFl,hz,hput,-Zb8,hzs,r3,-List.map_cons]
     rw [e1,hgo]
     exact ih
    ·have hgo:goP l0.length F S ((a::r)::ls)=false:=by simp only [goP,hln,hF,r1,not_false_eq_true,and_self,if_true]
     refine .inr ⟨hgo,?_⟩
     have e1:Z2 [.lent LL,.own (Zx (SK lnD S)) true,.own (Zx (FK F)) true,.val (lnD (a::r)),s4,s5,s6]=.ret (.val (.bl false)):=by
      simp [Z2,-ixD,-ZR,h0,hix,hlen0,hlen1,hln,hok,hh,hv,ZdZ,hFl,hz,hput,-Zb8,hzs,r2,-List.map_cons]
     rw [e1]
  ·have hln':¬ ((r.length:Int)+1=(l0.length:Int)):=by simp only [List.length_cons] at hln;omega
   refine .inr ⟨by simp only [goP,hln,false_and,if_false],?_⟩
   have e1:Z2 [.lent LL,.own (Zx (SK lnD S)) true,.own (Zx (FK F)) true,.val (lnD (a::r)),s4,s5,s6]=.ret (.val (.bl false)):=by
    simp [Z2,-ixD,-ZR,h0,hlen0,hlen1,hln']
   rw [e1]
theorem Zj2 {d:D} (h:Zau d=true):∃ a,d=aD a:=by
 cases d with
 | int i=>exact ⟨.int i,rfl⟩
 | str x=>exact ⟨.str x,rfl⟩
 | _=>simp [Zau,ZaE,wordD] at h
theorem ZlK:∀ {xs:List D},xs.all Zau=true→∃ l:List At,xs=l.map aD
 | [],_=>⟨[],rfl⟩
 | x::xs,h=>by
  simp only [List.all_cons,Bool.and_eq_true] at h
  obtain ⟨a,rfl⟩:=Zj2 h.1
  obtain ⟨l,rfl⟩:=ZlK h.2
  exact ⟨a::l,rfl⟩
theorem line_at {d:D} (h:ZT d=true):∃ l:List At,d=lnD l∧1≤l.length∧l.length≤4:=by
 cases d with
 | tup xs =>
  simp only [ZT,Bool.and_eq_true,decide_eq_true_eq] at h
  obtain ⟨l,rfl⟩:=ZlK h.2
  exact ⟨l,rfl,by simpa using h.1.1,by simpa using h.1.2⟩
 | _=>simp [ZT] at h
theorem ZhV:∀ {xs:List D},xs.all ZT=true→∃ ls:List (List At),xs=ls.map lnD∧∀ l∈ls,1≤l.length∧l.length≤4
 | [],_=>⟨[],rfl,fun _ h=>nomatch h⟩
 | x::xs,h=>by
  simp only [List.all_cons,Bool.and_eq_true] at h
  obtain ⟨l,rfl,h1⟩:=line_at h.1
  obtain ⟨ls,rfl,h2⟩:=ZhV h.2
  refine ⟨l::ls,rfl,fun m hm=>?_⟩
  rcases List.mem_cons.mp hm with rfl | hm
  ·exact h1
  ·exact h2 m hm
def goT (ls:List (List At)):Bool:=match ls with
 | []=>true
 | l::_=>goP l.length [] [] ls
def goU (ls:List (List At)):Bool:=match ls with
 | []=>true
 | l::_=>goL l.length [] [] ls
theorem Zqf {e:VE→Option D} (he:∀ d,SmL d→e [.val d]=some (.bl (ZT d))) (xs:List D) (h:∀ x∈xs,SmL x):ZaG (Zv 0) (fun _=>some true) e [.no] xs=some ((xs.map ZT).map D.bl):=by
 have:=ZaU (b:=Zv 0) (e:=e) (ρ:=[.no]) (fun d:D=>d) (fun d=>D.bl (ZT d)) xs fun d hd=>⟨[.val d],rfl,he d (h d hd)⟩
 rw [List.map_id'] at this
 rw [this,List.map_map];rfl
theorem ZiA (xs:List D) (h:∀ x∈xs,SmL x) (hz:xs.length≤1000):(xs.all ZT=false∧F_go_together [.lent xs]=some (.val (.bl false)))∨(xs.all ZT=true∧∃ ls:List (List At),xs=ls.map lnD∧(∀ l∈ls,1≤l.length∧l.length≤4)∧F_go_together [.lent xs]=some (.val (.bl (goT ls)))):=by
 have hc:=Zqf (e:=Zdn) (fun d hd=>by have:=Zmi d hd;simp only [Zdn,Zm,Zb,rdA,List.getElem?_cons_zero,Option.bind,this,Option.map,rvD]) xs h
 have hzz:xs.length≤sizeLine:=Nat.le_trans hz (by decide)
 have ha:(xs.map ZT).all id=xs.all ZT:=by rw [List.all_map];rfl
 have ha':(xs.map ZT).all (fun x=>x)=xs.all ZT:=ha
 cases hal:xs.all ZT with
 | false =>
  refine .inl ⟨rfl,?_⟩
  rw [hal] at ha ha'
  simp [F_go_together,fnP,Za6,Zbl,Zbn,hzz,Z9,hc,-List.map_map,ha,ha']
 | true =>
  rw [hal] at ha ha'
  obtain ⟨ls,rfl,hls⟩:=ZhV hal
  refine .inr ⟨rfl,ls,rfl,hls,?_⟩
  cases ls with
  | nil=>simp [F_go_together,fnP,Za6,Zbl,Zbn,Zcg,Zch,Zck,Zci,Zcj,Zcf,Zdp,Zdo,ZaG,Zeu,ZV,goT]
  | cons l0 ls =>
   have hz1:(l0::ls).length≤1000:=by rw [List.length_map] at hz;exact hz
   have h0:ixD (.lst ((l0::ls).map lnD)) (.int 0)=some (lnD l0):=by simp [atI,ixN]
   have ho:=Zj0 ((l0::ls).map lnD) l0 h0 (l0::ls) [] [] .no .no .no .no hls (by simp only [List.length_nil];omega) (by simp only [List.length_nil];omega)
   rw [show Zx (SK lnD [])=[] from rfl,show Zx (FK [])=[] from rfl] at ho
   have hgt:goT (l0::ls)=goP l0.length [] [] (l0::ls):=rfl
   rw [hgt]
   generalize (l0::ls).map lnD=G at *
   rcases ho with ⟨ρ,g1,g2⟩ | ⟨g1,g2⟩
   ·rw [g1]
    simp [F_go_together,fnP,Za6,Zbl,Zbn,Zcg,Zch,Zck,Zci,Zcj,Zcf,Zdp,Zdo,hzz,Z9,hc,-List.map_map,ha,ha',g2]
   ·rw [g1]
    simp [F_go_together,fnP,Za6,Zbl,Zbn,Zcg,Zch,Zck,Zci,Zcj,Zcf,hzz,Z9,hc,-List.map_map,ha,ha',g2]
theorem Zkl (s0 s2:Sl) (l:List At) (hl:l.length≤4):∀ (rest pre:List At) (S:List (EK×At)) (s4:Sl),l=pre++rest→S.length+rest.length<100000 →
  (∃ S' s4',Zap S (ZbJ pre.length rest)=some S'∧S'.length≤S.length+rest.length∧ZV (Zv 4) Zb0 ((List.range' pre.length (rest.length-1)).map fun (k:Nat)=>D.int (k:Int)) [s0,.own (Zx (SK aD S)) true,s2,.val (lnD l),s4]=.next [s0,.own (Zx (SK aD S')) true,s2,.val (lnD l),s4']) ∨
  (Zap S (ZbJ pre.length rest)=none∧ZV (Zv 4) Zb0 ((List.range' pre.length (rest.length-1)).map fun (k:Nat)=>D.int (k:Int)) [s0,.own (Zx (SK aD S)) true,s2,.val (lnD l),s4]=.ret (.val (.bl false)))
 | [],pre,S,s4,_,_=>.inl ⟨S,s4,rfl,by simp,rfl⟩
 | [a],pre,S,s4,_,_=>.inl ⟨S,s4,rfl,by simp,rfl⟩
 | a::b::r,pre,S,s4,hlr,hz=>by
  simp only [List.length_cons] at hz
  have h1:atI (l.map aD) (pre.length:Int)=some (aD a):=ZbH (by rw [hlr];simp)
  have h2:atI (l.map aD) ((pre.length:Int)+1)=some (aD b):=by
   rw [show (pre.length:Int)+1=((pre.length+1:Nat):Int) by omega]
   exact ZbH (by rw [hlr];simp)
  have hi1:ixD (lnD l) (.int (pre.length:Int))=some (aD a):=by simp only [lnD,ixD];exact h1
  have hi2:ixD (lnD l) (.int ((pre.length:Int)+1))=some (aD b):=by simp only [lnD,ixD];exact h2
  have hsd:=ZoR aD Zsm S (by omega) ((pre.length,a),b) 1 (fun ρ=>(ZC (((fun ρ=>Zb (Zi ((fun ρ=>rdV ρ 4) ρ)) ((fun ρ=>Zb (Zi ((Ze ixD (fun ρ=>rdP ρ 3) (fun ρ=>rdP ρ 4)) ρ)) ((fun _=>some []) ρ)) ρ)) ρ).bind Zr)).map D.tup) (Ze ixD (fun ρ=>rdP ρ 3) (Ze ZD (fun ρ=>rdP ρ 4) (fun _=>some (.int (1))))) (Ze ixD (fun ρ=>rdP ρ 3) (Ze ZD (fun ρ=>rdP ρ 4) (fun _=>some (.int (1)))))
   [s0,.own (Zx (SK aD S)) true,s2,.val (lnD l),.val (.int (pre.length:Int))] rfl (by
    have two:2≤sizeLine:=by decide
    simp [two,kE,kD,aD,-ixD,hi1]) (by simp [-ixD,hi2]) (fun xs=>by simp [-ixD,hi2]) (by simp [-ixD,hi2])
  have hbody:Zb0 [s0,.own (Zx (SK aD S)) true,s2,.val (lnD l),.val (.int (pre.length:Int))] =
    ZcL (match Zcd S ((pre.length,a):EK) with
     | some t=>some (!decide (t=b),[s0,.own (Zx (SK aD S)) true,s2,.val (lnD l),.val (.int (pre.length:Int))])
     | none=>some (false,[s0,.own (Zx (SK aD (S++[((pre.length,a),b)]))) true,s2,.val (lnD l),.val (.int (pre.length:Int))])) (fun _=>.ret (.val (.bl false))) (fun ρ=>.next ρ):=by
   unfold Zb0
   try dsimp only
   rw [hsd]
   cases hlk:Zcd S ((pre.length,a):EK) with
   | none=>simp [ZcL]
   | some t=>cases hd:decide (t=b)<;>simp [ZcL,hd]
  have hlen:(pre++[a]).length=pre.length+1:=by simp
  have hrg:(List.range' pre.length ((a::b::r).length-1)).map (fun (k:Nat)=>D.int (k:Int))=.int (pre.length:Int)::(List.range' (pre.length+1) ((b::r).length-1)).map fun (k:Nat)=>D.int (k:Int):=by
   simp [List.range'_succ]
  rw [hrg]
  have hb2:Zv 4 (.int (pre.length:Int)) [s0,.own (Zx (SK aD S)) true,s2,.val (lnD l),s4]=some [s0,.own (Zx (SK aD S)) true,s2,.val (lnD l),.val (.int (pre.length:Int))]:=rfl
  cases hlk:Zcd S ((pre.length,a):EK) with
  | some t =>
   rw [hlk] at hbody
   by_cases ht:t=b
   ·have ih:=Zkl s0 s2 l hl (b::r) (pre++[a]) S (.val (.int (pre.length:Int))) (by rw [hlr];simp) (by simp only [List.length_cons];omega)
    rw [hlen] at ih
    have hrun:Zap S (ZbJ pre.length (a::b::r))=Zap S (ZbJ (pre.length+1) (b::r)):=by simp [ZbJ,Zap,hlk,ht]
    simp only [ht,decide_true,Bool.not_true,ZcL] at hbody
    rw [hrun]
    simp only [ZV,hb2,hbody]
    rcases ih with ⟨S',x4,h1,h2,h3⟩ | ⟨h1,h2⟩
    ·exact .inl ⟨S',x4,h1,by simp only [List.length_cons] at h2 ⊢;omega,h3⟩
    ·exact .inr ⟨h1,h2⟩
   ·have hrun:Zap S (ZbJ pre.length (a::b::r))=none:=by simp [ZbJ,Zap,hlk,ht]
    simp only [ht,decide_false,Bool.not_false,ZcL] at hbody
    exact .inr ⟨hrun,by simp only [ZV,hb2,hbody]⟩
  | none =>
   rw [hlk] at hbody
   have ih:=Zkl s0 s2 l hl (b::r) (pre++[a]) (S++[((pre.length,a),b)]) (.val (.int (pre.length:Int))) (by rw [hlr];simp) (by simp;omega)
   rw [hlen] at ih
   have hrun:Zap S (ZbJ pre.length (a::b::r))=Zap (S++[((pre.length,a),b)]) (ZbJ (pre.length+1) (b::r)):=by simp [ZbJ,Zap,hlk]
   simp only [ZcL] at hbody
   rw [hrun]
   simp only [ZV,hb2,hbody]
   rcases ih with ⟨S',x4,h1,h2,h3⟩ | ⟨h1,h2⟩
   ·exact .inl ⟨S',x4,h1,by simp at h2;simp only [List.length_cons];omega,h3⟩
   ·exact .inr ⟨h1,h2⟩
theorem Zlp (LL:List D) (l0:List At) (h0:ixD (.lst LL) (.int 0)=some (lnD l0)):∀ (xs:List D) (F:List At) (S:List (EK×At)) (s3 s4:Sl),(∀ x∈xs,SmL x)→S.length+4 * xs.length<100000→F.length+xs.length<100000 →
  (∃ ρ ls,xs=ls.map lnD∧((∀ l∈ls,1≤l.length∧l.length≤4)∧xs.all ZT=true)∧goL l0.length F S ls=true∧ZV (Zv 3) ZS xs [.lent LL,.own (Zx (SK aD S)) true,.own (Zx (FK F)) true,s3,s4]=.next ρ) ∨
  ((xs.all ZT=false∨∃ ls,xs=ls.map lnD∧((∀ l∈ls,1≤l.length∧l.length≤4)∧xs.all ZT=true)∧goL l0.length F S ls=false)∧ZV (Zv 3) ZS xs [.lent LL,.own (Zx (SK aD S)) true,.own (Zx (FK F)) true,s3,s4]=.ret (.val (.bl false)))
 | [],F,S,s3,s4,_,_,_=>.inl ⟨_,[],rfl,⟨fun _ h=>(nomatch h),rfl⟩,rfl,rfl⟩
 | x::xs,F,S,s3,s4,h,hz1,hz2=>by
  simp only [List.length_cons] at hz1 hz2
  have hL:=Zhw x (h x List.mem_cons_self)
  simp only [ZV,Zv,List.set_cons_succ,List.set_cons_zero]
  cases hlx:ZT x with
  | false =>
   rw [hlx] at hL
   refine .inr ⟨.inl (by simp [hlx]),?_⟩
   have e1:ZS [.lent LL,.own (Zx (SK aD S)) true,.own (Zx (FK F)) true,.val x,s4]=.ret (.val (.bl false)):=by simp [ZS,hL]
   rw [e1]
  | true =>
   rw [hlx] at hL
   obtain ⟨l,rfl,hl1,hl4⟩:=line_at hlx
   cases l with
   | nil=>simp at hl1
   | cons a r =>
    have hz:F.length<sizeLine:=Nat.lt_of_lt_of_le (show F.length<100000 by omega) (by decide)
    have hh:=ZlP a (Zpc F)
    have hv:=Zh9 a F
    have hi:atI ((a::r).map aD) 0=some (aD a):=by simp [atI,ixN]
    have hFl:(FK F).length=F.length:=by simp [FK]
    have hlen0:ZR [lnD l0]=some (.int (l0.length:Int)):=by simp [lnD]
    have hlen1:ZR [lnD (a::r)]=some (.int ((a::r).length:Int)):=by simp [lnD]
    have hix:ixD (lnD (a::r)) (.int 0)=some (aD a):=by simp only [lnD,ixD];exact hi
    have hok:=Znc a
    have rest:∀ ls:List (List At),xs=ls.map lnD→(∀ m∈ls,1≤m.length∧m.length≤4)→∀ m∈(a::r)::ls,1≤m.length∧m.length≤4:=fun ls _ h2 m hm=>by
     rcases List.mem_cons.mp hm with rfl | hm
     ·exact ⟨hl1,hl4⟩
     ·exact h2 m hm
    have none_or:∀ g:Bool,(∀ ls,goL l0.length F S ((a::r)::ls)=false)→((lnD (a::r)::xs).all ZT=false∨∃ ls,lnD (a::r)::xs=ls.map lnD∧((∀ l∈ls,1≤l.length∧l.length≤4)∧(lnD (a::r)::xs).all ZT=true)∧goL l0.length F S ls=false):=fun _ hg=>by
     cases hal:xs.all ZT with
     | false=>exact .inl (by simp [hal])
     | true =>
      obtain ⟨ls,e,h2⟩:=ZhV hal
      exact .inr ⟨(a::r)::ls,by rw [e];rfl,⟨rest ls e h2,by simp [hal,hlx]⟩,hg ls⟩
    by_cases hln:(a::r).length=l0.length
    ·by_cases hF:a∈F
     ·rw [if_pos hF] at hv
      refine .inr ⟨none_or true fun ls=>by simp [goL,hF],?_⟩
      have e1:ZS [.lent LL,.own (Zx (SK aD S)) true,.own (Zx (FK F)) true,.val (lnD (a::r)),s4]=.ret (.val (.bl false)):=by
       simp [ZS,hL,-ixD,-ZR,h0,hix,hlen0,hlen1,hln,hok,hh,hv]
      rw [e1]
     ·rw [if_neg hF] at hv
      have hput:=Zm1 F a hF
      have hin:=Zkl (.lent LL) (.own (Zx (FK (F++[a]))) true) (a::r) hl4 (a::r) [] S s4 (by simp) (by simp only [List.length_cons] at hl4 ⊢;omega)
      have hr1:Zc7 [.int (((a::r).length:Int)-1)]=some ((List.range' 0 ((a::r).length-1)).map fun (k:Nat)=>D.int (k:Int)):=by
       have e1:(((a::r).length:Int)-1)=(((a::r).length-1:Nat):Int):=by simp only [List.length_cons];omega
       rw [e1,Zdr _ (by omega),List.range_eq_range']
      simp only [List.length_nil] at hin
      rcases hin with ⟨S',x4,r1,r2,r3⟩ | ⟨r1,r2⟩
      ·have ih:=Zlp LL l0 h0 xs (F++[a]) S' (.val (lnD (a::r))) x4 (fun m hm=>h m (List.mem_cons_of_mem _ hm)) (by simp only [List.length_cons] at hl4 r2;omega) (by simp;omega)
       have hgo:∀ ls,goL l0.length F S ((a::r)::ls)=goL l0.length (F++[a]) S' ls:=fun ls=>by simp only [goL,hln,hF,r1,not_false_eq_true,and_self,if_true]
       have e1:ZS [.lent LL,.own (Zx (SK aD S)) true,.own (Zx (FK F)) true,.val (lnD (a::r)),s4]=.next [.lent LL,.own (Zx (SK aD S')) true,.own (Zx (FK (F++[a]))) true,.val (lnD (a::r)),x4]:=by
        rw [hln] at hr1 r3
        simp [ZS,hL,-ixD,-ZR,h0,hix,hlen0,hlen1,hln,hok,hh,hv,ZdZ,hFl,hz,hput,hr1,r3]
       rw [e1]
       rcases ih with ⟨ρ,ls,q1,q2,q3,q4⟩ | ⟨q1,q2⟩
       ·exact .inl ⟨ρ,(a::r)::ls,by rw [q1];rfl,⟨rest ls q1 q2.1,by simp [hlx,q2.2]⟩,by rw [hgo];exact q3,q4⟩
       ·refine .inr ⟨?_,q2⟩
        rcases q1 with q1 | ⟨ls,q1,q3,q4⟩
        ·exact .inl (by simp [q1])
        ·exact .inr ⟨(a::r)::ls,by rw [q1];rfl,⟨rest ls q1 q3.1,by simp [hlx,q3.2]⟩,by rw [hgo];exact q4⟩
      ·refine .inr ⟨none_or true fun ls=>by simp only [goL,hln,hF,r1,not_false_eq_true,and_self,if_true],?_⟩
       have e1:ZS [.lent LL,.own (Zx (SK aD S)) true,.own (Zx (FK F)) true,.val (lnD (a::r)),s4]=.ret (.val (.bl false)):=by
        rw [hln] at hr1 r2
        simp [ZS,hL,-ixD,-ZR,h0,hix,hlen0,hlen1,hln,hok,hh,hv,ZdZ,hFl,hz,hput,hr1,r2]
       rw [e1]
    ·have hln':¬ ((r.length:Int)+1=(l0.length:Int)):=by simp only [List.length_cons] at hln;omega
     refine .inr ⟨none_or true fun ls=>by simp only [goL,hln,false_and,if_false],?_⟩
     have e1:ZS [.lent LL,.own (Zx (SK aD S)) true,.own (Zx (FK F)) true,.val (lnD (a::r)),s4]=.ret (.val (.bl false)):=by
      simp [ZS,hL,-ixD,-ZR,h0,hlen0,hlen1,hln']
     rw [e1]
def Func {T:Type} (E:List (EK×T)):Prop:=∀ k t t',(k,t)∈E→(k,t')∈E→t=t'
theorem Zks {T:Type} {k:EK} {t:T}:∀ {S:List (EK×T)},Zcd S k=some t→(k,t)∈S
 | [],h=>by cases h
 | e::r,h=>by
  unfold Zcd at h
  by_cases hk:e.1=k
  ·rw [if_pos hk] at h;cases h;subst hk;exact List.mem_cons_self
  ·rw [if_neg hk] at h;exact List.mem_cons_of_mem _ (Zks h)
theorem ZiY {T:Type} {k:EK}:∀ {S:List (EK×T)},Zcd S k=none→∀ t,(k,t)∉S
 | [],_,t,h=>nomatch h
 | e::r,hn,t,h=>by
  unfold Zcd at hn
  by_cases hk:e.1=k
  ·rw [if_pos hk] at hn;cases hn
  ·rw [if_neg hk] at hn
   rcases List.mem_cons.mp h with h | h
   ·exact hk (by rw [← h])
   ·exact ZiY hn t h
theorem Zgy {T:Type} [DecidableEq T]:∀ (E S:List (EK×T)),Func S→(∃ S',Zap S E=some S'∧(∀ e,e∈S'↔e∈S++E)∧Func (S++E))∨(Zap S E=none∧¬ Func (S++E))
 | [],S,h=>.inl ⟨S,rfl,by simp,by simpa using h⟩
 | e::E,S,h=>by
  unfold Zap
  cases hl:Zcd S e.1 with
  | some t =>
   have hm:=Zks hl
   by_cases ht:t=e.2
   ·have hm':e∈S:=by rw [ht] at hm;exact hm
    have iff1:∀ x,x∈S++e::E↔x∈S++E:=fun x=>by
     simp only [List.mem_append,List.mem_cons]
     constructor
     ·rintro (h | rfl | h)
      ·exact .inl h
      ·exact .inl hm'
      ·exact .inr h
     ·rintro (h | h)
      ·exact .inl h
      ·exact .inr (.inr h)
    have fiff:Func (S++e::E)↔Func (S++E):=⟨fun f k t t' h1 h2=>f k t t' ((iff1 _).mpr h1) ((iff1 _).mpr h2),fun f k t t' h1 h2=>f k t t' ((iff1 _).mp h1) ((iff1 _).mp h2)⟩
    simp only [ht,if_true]
    rcases Zgy E S h with ⟨S',a,b,c⟩ | ⟨a,b⟩
    ·exact .inl ⟨S',a,fun x=>(b x).trans (iff1 x).symm,fiff.mpr c⟩
    ·exact .inr ⟨a,fun f=>b (fiff.mp f)⟩
   ·simp only [ht,if_false]
    refine .inr ⟨trivial,fun f=>ht (f e.1 t e.2 (List.mem_append_left _ hm) (List.mem_append_right _ List.mem_cons_self))⟩
  | none =>
   have hn:=ZiY hl
   have hS:Func (S++[e]):=fun k t t' h1 h2=>by
    simp only [List.mem_append,List.mem_singleton] at h1 h2
    rcases h1 with h1 | h1<;>rcases h2 with h2 | h2
    ·exact h k t t' h1 h2
    ·have:k=e.1:=by rw [← h2]
     subst this;exact absurd h1 (hn t)
    ·have:k=e.1:=by rw [← h1]
     subst this;exact absurd h2 (hn t')
    ·have:=h1.trans h2.symm
     injection this
   have e1:S++e::E=S++[e]++E:=by simp
   rw [e1]
   exact Zgy E (S++[e]) hS
def hd (l:List At):At:=l.headD .non
def goG {T:Type} [DecidableEq T] (ent:List At→List (EK×T)) (n:Nat):List At→List (EK×T)→List (List At)→Bool
 | _,_,[]=>true
 | F,S,l::ls=>match l with
  | []=>false
  | a::_=>if l.length=n∧a∉F then (match Zap S (ent l) with
   | some S'=>goG ent n (F++[a]) S' ls
   | none=>false) else false
theorem Zjz (n:Nat):∀ (ls:List (List At)) (F:List At) (S:List (EK×List At)),goP n F S ls=goG (Za3 0) n F S ls
 | [],_,_=>rfl
 | []::ls,_,_=>rfl
 | (a::r)::ls,F,S=>by
  simp only [goP,goG]
  cases Zap S (Za3 0 (a::r)) with
  | none=>rfl
  | some S'=>simp only [Zjz n ls]
theorem ZoU (n:Nat):∀ (ls:List (List At)) (F:List At) (S:List (EK×At)),goL n F S ls=goG (ZbJ 0) n F S ls
 | [],_,_=>rfl
 | []::ls,_,_=>rfl
 | (a::r)::ls,F,S=>by
  simp only [goL,goG]
  cases Zap S (ZbJ 0 (a::r)) with
  | none=>rfl
  | some S'=>simp only [ZoU n ls]
theorem Func.congr {T:Type} {E E':List (EK×T)} (h:∀ e,e∈E↔e∈E'):Func E↔Func E':=⟨fun f k t t' h1 h2=>f k t t' ((h _).mpr h1) ((h _).mpr h2),fun f k t t' h1 h2=>f k t t' ((h _).mp h1) ((h _).mp h2)⟩
theorem Func.left {T:Type} {E E':List (EK×T)} (h:Func (E++E')):Func E:=fun k t t' h1 h2=>h k t t' (List.mem_append_left _ h1) (List.mem_append_left _ h2)
theorem Zeg {T:Type} [DecidableEq T] (ent:List At→List (EK×T)) (n:Nat):∀ (ls:List (List At)) (F:List At) (S:List (EK×T)),F.Nodup→Func S→(∀ l∈ls,l≠[]) →
  (goG ent n F S ls=true↔(∀ l∈ls,l.length=n)∧(F++ls.map hd).Nodup∧Func (S++ls.flatMap ent))
 | [],F,S,hF,hS,_=>by simp [goG,hF,hS]
 | []::ls,F,S,hF,hS,h=>by exact absurd rfl (h [] List.mem_cons_self)
 | (a::r)::ls,F,S,hF,hS,h=>by
  have h':∀ l∈ls,l≠[]:=fun l hl=>h l (List.mem_cons_of_mem _ hl)
  have happ:S++((a::r)::ls).flatMap ent=S++ent (a::r)++ls.flatMap ent:=by simp
  rw [happ]
  have hnd:F++((a::r)::ls).map hd=F++[a]++ls.map hd:=by simp [hd]
  rw [hnd]
  have hgo:goG ent n F S ((a::r)::ls)=if (a::r).length=n∧a∉F then (match Zap S (ent (a::r)) with
   | some S'=>goG ent n (F++[a]) S' ls
   | none=>false) else false:=rfl
  rw [hgo]
  by_cases hc:(a::r).length=n∧a∉F
  ·have hF':(F++[a]).Nodup:=by
    rw [List.nodup_append]
    exact ⟨hF,by simp,fun x hx y hy=>by simp at hy;subst hy;rintro rfl;exact hc.2 hx⟩
   rw [if_pos hc]
   rcases Zgy (ent (a::r)) S hS with ⟨S',e1,e2,e3⟩ | ⟨e1,e2⟩
   ·have hS':Func S':=(Func.congr e2).mpr e3
    simp only [e1]
    rw [Zeg ent n ls (F++[a]) S' hF' hS' h']
    have cong:Func (S'++ls.flatMap ent)↔Func (S++ent (a::r)++ls.flatMap ent):=Func.congr fun e=>by
     rw [List.mem_append,List.mem_append,e2 e]
    rw [cong]
    constructor
    ·rintro ⟨h1,h2,h3⟩
     exact ⟨fun l hl=>by rcases List.mem_cons.mp hl with rfl | hl;exact hc.1;exact h1 l hl,h2,h3⟩
    ·rintro ⟨h1,h2,h3⟩
     exact ⟨fun l hl=>h1 l (List.mem_cons_of_mem _ hl),h2,h3⟩
   ·simp only [e1]
    constructor
    ·intro z;cases z
    ·rintro ⟨_,_,h3⟩
     exact absurd h3.left e2
  ·rw [if_neg hc]
   constructor
   ·intro z;cases z
   ·rintro ⟨h1,h2,_⟩
    refine absurd ⟨h1 _ List.mem_cons_self,fun hm=>?_⟩ hc
    rw [List.nodup_append] at h2
    have:=h2.1
    rw [List.nodup_append] at this
    exact this.2.2 a hm a (by simp) rfl
theorem ZbQ:∀ (l:List At) (j:Nat) (e:EK×List At),e∈Za3 j l↔∃ m,e.1.1=j+m∧l[m]?=some e.1.2∧e.2=l.drop (m+1)
 | [],j,e=>by simp [Za3]
 | a::r,j,e=>by
  rw [Za3,List.mem_cons,ZbQ r (j+1) e]
  constructor
  ·rintro (rfl | ⟨m,h1,h2,h3⟩)
   ·exact ⟨0,by simp,by simp,by simp⟩
   ·exact ⟨m+1,by omega,by simpa using h2,by simpa using h3⟩
  ·rintro ⟨m,h1,h2,h3⟩
   cases m with
   | zero =>
    left
    obtain ⟨⟨i,x⟩,t⟩:=e
    simp at h1 h2 h3
    rw [h1,h2,h3]
   | succ m=>right;exact ⟨m,by omega,by simpa using h2,by simpa using h3⟩
theorem Zft:∀ (l:List At) (j:Nat) (e:EK×At),e∈ZbJ j l↔∃ m,e.1.1=j+m∧l[m]?=some e.1.2∧l[m+1]?=some e.2
 | [],j,e=>by simp [ZbJ]
 | [a],j,e=>by
  simp only [ZbJ,List.not_mem_nil,false_iff]
  rintro ⟨m,_,_,h⟩
  simp at h
 | a::b::r,j,e=>by
  rw [ZbJ,List.mem_cons,Zft (b::r) (j+1) e]
  constructor
  ·rintro (rfl | ⟨m,h1,h2,h3⟩)
   ·exact ⟨0,by simp,by simp,by simp⟩
   ·exact ⟨m+1,by omega,by simpa using h2,by simpa using h3⟩
  ·rintro ⟨m,h1,h2,h3⟩
   cases m with
   | zero =>
    left
    obtain ⟨⟨i,x⟩,t⟩:=e
    simp at h1 h2 h3
    rw [h1,h2,h3]
   | succ m=>right;exact ⟨m,by omega,by simpa using h2,by simpa using h3⟩
theorem ZfE {T:Type}:Func ([]:List (EK×T)):=fun _ _ _ h=>by cases h
theorem Zi9 (n:Nat) (ls:List (List At)) (hn:∀ l∈ls,l.length=n):Func (ls.flatMap (Za3 0))↔Func (ls.flatMap (ZbJ 0)):=by
 constructor
 ·intro f k t t' h1 h2
  rw [List.mem_flatMap] at h1 h2
  obtain ⟨l,hl,h1⟩:=h1
  obtain ⟨l',hl',h2⟩:=h2
  rw [Zft] at h1 h2
  obtain ⟨m,a1,a2,a3⟩:=h1
  obtain ⟨m',b1,b2,b3⟩:=h2
  dsimp only at a1 a2 a3 b1 b2 b3
  have hm:m=m':=by omega
  subst hm
  have:=f k (l.drop (m+1)) (l'.drop (m+1)) (List.mem_flatMap.mpr ⟨l,hl,(ZbQ _ _ _).mpr ⟨m,a1,a2,rfl⟩⟩) (List.mem_flatMap.mpr ⟨l',hl',(ZbQ _ _ _).mpr ⟨m,b1,b2,rfl⟩⟩)
  have h0:(l.drop (m+1))[0]?=(l'.drop (m+1))[0]?:=by rw [this]
  rw [List.getElem?_drop,List.getElem?_drop] at h0
  simp only [Nat.add_zero] at h0
  rw [a3,b3] at h0
  exact Option.some.inj h0
 ·intro f k t t' h1 h2
  rw [List.mem_flatMap] at h1 h2
  obtain ⟨l,hl,h1⟩:=h1
  obtain ⟨l',hl',h2⟩:=h2
  rw [ZbQ] at h1 h2
  obtain ⟨m,a1,a2,a3⟩:=h1
  obtain ⟨m',b1,b2,b3⟩:=h2
  dsimp only at a1 a2 a3 b1 b2 b3
  have hm:m=m':=by omega
  subst hm
  have key:∀ j,l[m+j]?=l'[m+j]?:=by
   intro j
   induction j with
   | zero=>rw [Nat.add_zero,a2,b2]
   | succ j ih =>
    have hln:=hn l hl
    have hln':=hn l' hl'
    by_cases hlt:m+(j+1)<n
    ·have e1:l[m+j]?=some (l[m+j]'(by omega)):=List.getElem?_eq_getElem (by omega)
     have e2:l[m+(j+1)]?=some (l[m+(j+1)]'(by omega)):=List.getElem?_eq_getElem (by omega)
     have e3:l'[m+(j+1)]?=some (l'[m+(j+1)]'(by omega)):=List.getElem?_eq_getElem (by omega)
     have e4:l'[m+j]?=some (l[m+j]'(by omega)):=by rw [← ih,e1]
     have:=f (m+j,l[m+j]'(by omega)) _ _ (List.mem_flatMap.mpr ⟨l,hl,(Zft _ _ _).mpr ⟨m+j,by simp,e1,e2⟩⟩) (List.mem_flatMap.mpr ⟨l',hl',(Zft _ _ _).mpr ⟨m+j,by simp,e4,e3⟩⟩)
     rw [e2,e3,this]
    ·rw [List.getElem?_eq_none (by omega),List.getElem?_eq_none (by omega)]
  rw [a3,b3]
  apply List.ext_getElem?
  intro j
  rw [List.getElem?_drop,List.getElem?_drop,show m+1+j=m+(1+j) by omega]
  exact key (1+j)
theorem ZpH (ls:List (List At)) (h:∀ l∈ls,1≤l.length∧l.length≤4):goT ls=goU ls:=by
 cases ls with
 | nil=>rfl
 | cons l0 ls =>
  have hne:∀ l∈l0::ls,l≠[]:=fun l hl z=>by have:=(h l hl).1;rw [z] at this;simp at this
  show goP l0.length [] [] (l0::ls)=goL l0.length [] [] (l0::ls)
  rw [Zjz,ZoU,Bool.eq_iff_iff,Zeg (Za3 0) _ _ _ _ List.nodup_nil ZfE hne,Zeg (ZbJ 0) _ _ _ _ List.nodup_nil ZfE hne]
  constructor
  ·rintro ⟨h1,h2,h3⟩
   exact ⟨h1,h2,by simpa using (Zi9 _ _ h1).mp (by simpa using h3)⟩
  ·rintro ⟨h1,h2,h3⟩
   exact ⟨h1,h2,by simpa using (Zi9 _ _ h1).mpr (by simpa using h3)⟩
theorem Zo8 (x:Str) (l u:Option Int):Txt.slice x l u=StrLaws.sliceText x l u:=rfl
theorem Ztj (x:Str) (j:Nat) (h:j≤x.cps.toList.length):(Txt.slice x none (some (j:Int))).cps.toList=x.cps.toList.take j:=by
 rw [Zo8,StrLaws.sliceText_to ⟨by omega,by omega⟩]
 simp
theorem Zp3 (x:Str) (j:Nat) (h:j≤x.cps.toList.length):(Txt.slice x (some (j:Int)) none).cps.toList=x.cps.toList.drop j:=by
 rw [Zo8,StrLaws.sliceText_from ⟨by omega,by omega⟩]
 simp only [List.toList_toArray]
 rw [List.take_of_length_le]
 ·simp
 ·simp only [List.length_drop];omega
theorem Zdv (x y:Str):(x++y).cps.toList=x.cps.toList++y.cps.toList:=by
 show (x.cps++y.cps).toList=_
 simp
theorem Zg6 (c:Nat):(⟨#[c]⟩:Str).cps.toList=[c]:=rfl
theorem ZbI (x:Str):x.length=x.cps.toList.length:=by simp [Str.length]
def zt (n k:Nat):List Nat:=(Txt.zfill (Str.ofString (toString (k:Int))) (n:Int)).cps.toList
theorem ZtJ:∀ n∈[1,2,3,4],∀ k∈List.range 47,(zt n k).all okc=true∧(zt n k).length≤4:=by decide +kernel
theorem ZtV:∀ n∈[1,2,3,4],((List.range 47).map (zt n)).Nodup:=by decide +kernel
theorem Znr {α:Type} {f:Nat→α} {m:Nat} (h:((List.range m).map f).Nodup) {j k:Nat} (hj:j<m) (hk:k<m) (e:f j=f k):j=k:=by
 rw [List.nodup_iff_pairwise_ne,List.pairwise_map] at h
 rcases Nat.lt_trichotomy j k with hl | hl | hl
 ·exact absurd e (List.pairwise_iff_getElem.mp h j k (by simpa) (by simpa) hl |> fun z=>by simpa using z)
 ·exact hl
 ·exact absurd e.symm (List.pairwise_iff_getElem.mp h k j (by simpa) (by simpa) hl |> fun z=>by simpa using z)
def ltr (i:Nat):Nat:=letters.cps.toList.getD i 0
theorem Zs3:∀ i∈List.range 26,ltr i∈letters.cps.toList:=by decide +kernel
theorem ZqD:((List.range 26).map ltr).Nodup:=by decide +kernel
theorem Zhq:letters.cps.toList.length=26:=by decide +kernel
theorem Zrb (i:Nat) (h:i<26):ixD (.str "abcdefghijklmnopqrstuvwxyz") (.int (i:Int))=some (.str ⟨#[ltr i]⟩):=by
 have hl:=Zhq
 have hz:letters.length≤sizeLine:=by rw [ZbI,hl];decide
 have e:atI letters.cps.toList (i:Int)=some (ltr i):=ZbH (by rw [List.getElem?_eq_getElem (by omega)];simp [ltr,List.getD,List.getElem?_eq_getElem (show i<letters.cps.toList.length by omega)])
 show (if letters.length≤sizeLine then (atI letters.cps.toList (i:Int)).map (fun c=>D.str ⟨#[c]⟩) else none)=_
 rw [if_pos hz,e];rfl
def GW (W:List Nat):Prop:=(∃ c r,W=c::r∧c∈letters.cps.toList)∧W.all okc=true
theorem GW.word {W:List Nat} (h:GW W) (hl:W.length≤12):Zdf W=true:=by
 obtain ⟨⟨c,r,rfl,hc⟩,ha⟩:=h
 simp only [Zdf,hc,decide_true,Bool.true_and,ha,hl]
theorem sgn (i:Int) (k:Int) (h0:0<k) (h1:k≤36):∃ c,ixD (.str "abcdefghijklmnopqrstuvwxyz0123456789") (.int (i%k))=some (.str ⟨#[c]⟩)∧okc c=true:=by
 have hl:=Zji
 obtain ⟨c,h,hm⟩:=Zps (z:=signs) (i:=i%k) (by omega) (Int.emod_nonneg _ (by omega)) (by have:=Int.emod_lt_of_pos i h0;omega)
 exact ⟨c,h,by rw [ZnE];simpa using hm⟩
theorem Ztt (i:Int):∃ c,ixD (.str "abcdefghijklmnopqrstuvwxyz0123456789") (.int (i%26))=some (.str ⟨#[c]⟩)∧c∈letters.cps.toList:=by
 obtain ⟨j,hj,hjl⟩:∃ j:Nat,i%26=(j:Int)∧j<26:=⟨(i%26).toNat,by omega,by omega⟩
 have hl:=Zhq
 have hz:signs.length≤sizeLine:=by rw [Zji];decide
 have e:atI signs.cps.toList (j:Int)=some (letters.cps.toList[j]'(by omega)):=ZbH (by rw [ZkX,List.getElem?_append_left (by omega),List.getElem?_eq_getElem (by omega)])
 refine ⟨letters.cps.toList[j]'(by omega),?_,List.getElem_mem _⟩
 rw [hj]
 show (if signs.length≤sizeLine then (atI signs.cps.toList (j:Int)).map (fun c=>D.str ⟨#[c]⟩) else none)=_
 rw [if_pos hz,e];rfl
abbrev SG:Sl:=.val (.str "abcdefghijklmnopqrstuvwxyz0123456789")
theorem Zkf (c:Int) (s1:Sl):∀ (ks:List Nat) (z:Str) (s4:Sl),(∀ k∈ks,k<1000)→z.length+ks.length≤1000→∃ z' s4' ext,ZV (Zv 4) Zey (ks.map fun (k:Nat)=>D.int (k:Int)) [.val (.int c),s1,SG,.val (.str z),s4]=.next [.val (.int c),s1,SG,.val (.str z'),s4']∧z'.cps.toList=z.cps.toList++ext∧ext.length=ks.length∧ext.all okc=true
 | [],z,s4,_,_=>⟨z,s4,[],rfl,by simp,rfl,rfl⟩
 | k::ks,z,s4,hk,h=>by
  simp only [List.length_cons] at h
  have hk1:=hk k List.mem_cons_self
  obtain ⟨x,hx,hxo⟩:=sgn (c / ((k:Int)+3)) 36 (by decide) (by decide)
  have h1:(⟨#[x]⟩:Str).length=1:=by simp [Str.length]
  have ha:=Zen z ⟨#[x]⟩ (by rw [h1];omega)
  have hl:(z++⟨#[x]⟩).length=z.length+1:=by rw [ZbI,Zdv,ZbI];simp
  obtain ⟨z',s4',ext,e,e1,e2,e3⟩:=Zkf c s1 ks (z++⟨#[x]⟩) (.val (.int (k:Int))) (fun j hj=>hk j (List.mem_cons_of_mem _ hj)) (by rw [hl];omega)
  have hd:Zcn c ((k:Int)+3):=⟨by omega,by omega⟩
  refine ⟨z',s4',x::ext,?_,by rw [e1,Zdv];simp,by simp [e2],by simp [hxo,e3]⟩
  have a1:ZD (.int (k:Int)) (.int 3)=some (.int ((k:Int)+3)):=rfl
  simp [ZV,Zey,-ixD,-ZD,a1,hd,hx,ha,e]
theorem ZlD (c:Int) (m:Nat) (hm:m≤100):∃ z,F_law_word [.val (.int c),.val (.int (m:Int))]=some (.val (.str z))∧z.cps.toList.length=m+1∧GW z.cps.toList:=by
 obtain ⟨x,hx,hxl⟩:=Ztt c
 have hr:=Zdr m (by omega)
 obtain ⟨z',s4',ext,e,e1,e2,e3⟩:=Zkf c (.val (.int (m:Int))) (List.range m) ⟨#[x]⟩ .no (fun k hk=>by have:=List.mem_range.mp hk;omega) (by simp [Str.length];omega)
 have hxo:okc x=true:=by simp [okc,hxl]
 refine ⟨z',?_,by rw [e1,Zg6];simp [e2],⟨x,ext,by rw [e1];rfl,hxl⟩,by rw [e1,Zg6];simp [hxo,e3]⟩
 simp [F_law_word,fnP,ZfN,ZgK,Zgr,ZgW,ZgD,Zgk,Zgt,ZgF,ZgB,-ixD,hx,hr,e]
structure VOk (f:Nat→At):Prop where
 val:∀ k,k<47→Zau (aD (f k))=true
 sm:∀ k,k<47→Sm (aD (f k))
 inj:∀ j k,j<47→k<47→f j=f k→j=k
theorem Zfv {z:Str} (h:GW z.cps.toList) (hl:z.cps.toList.length≤12):Zau (aD (.str z))=true∧Sm (aD (.str z)):=by
 refine ⟨?_,?_⟩
 ·show (ZaE (.str z)||wordD (.str z))=true
  simp only [ZaE,wordD,h.word hl,Bool.or_true]
 ·show z.length≤100
  rw [ZbI];omega
theorem GW.app {W V:List Nat} (h:GW W) (hv:V.all okc=true):GW (W++V):=by
 obtain ⟨⟨c,r,rfl,hc⟩,ha⟩:=h
 exact ⟨⟨c,r++V,rfl,hc⟩,by rw [List.all_append,ha,hv];rfl⟩
theorem GW.mid {W V:List Nat} (h:GW W) (a:Nat) (hv:V.all okc=true) (hh:∃ c r,V=c::r∧c∈letters.cps.toList):GW (W.take a++V++W.drop a):=by
 obtain ⟨⟨c,r,rfl,hc⟩,ha⟩:=h
 have hall:(List.take a (c::r)++V++List.drop a (c::r)).all okc=true:=by
  rw [List.all_eq_true] at ha hv ⊢
  intro x hx
  simp only [List.mem_append] at hx
  rcases hx with (hx | hx) | hx
  ·exact ha x (List.mem_of_mem_take hx)
  ·exact hv x hx
  ·exact ha x (List.mem_of_mem_drop hx)
 refine ⟨?_,hall⟩
 cases a with
 | zero =>
  obtain ⟨c',r',rfl,hc'⟩:=hh
  exact ⟨c',r'++c::r,by simp,hc'⟩
 | succ a=>exact ⟨c,List.take a r++V++List.drop a r,by simp,hc⟩
theorem ZrD {W:List Nat} {a x y x' y':Nat} (h:W.take a++[x,y]++W.drop a=W.take a++[x',y']++W.drop a):x=x'∧y=y':=by
 rw [List.append_assoc,List.append_assoc] at h
 have h:=List.append_cancel_left h
 simp only [List.cons_append,List.nil_append,List.cons.injEq] at h
 exact ⟨h.1,h.2.1⟩
theorem ZqM (way cell:Int) (w0:way=0):∃ f,VOk f∧∀ k:Nat,k<47→F_law_value [.val (.int way),.val (.int cell),.val (.int (k:Int))]=some (.val (aD (f k))):=by
 have d4:Zcn cell 4:=by constructor<;>decide
 have d8:Zcn cell 8:=by constructor<;>decide
 refine ⟨fun k=>.int (cell / 4%10^30+k),⟨fun k _=>rfl,fun k _=>trivial,fun j k _ _ e=>by injection e with e;omega⟩,fun k hk=>?_⟩
 simp [F_law_value,fnP,Zb3,ZbS,ZbT,Zb1,ZbV,d4,ZfI,w0,aD]
theorem ZrN (way cell:Int) (w1:way=1):∃ f,VOk f∧∀ k:Nat,k<47→F_law_value [.val (.int way),.val (.int cell),.val (.int (k:Int))]=some (.val (aD (f k))):=by
 have d4:Zcn cell 4:=by constructor<;>decide
 have d8:Zcn cell 8:=by constructor<;>decide
 refine ⟨fun k=>.int (0-cell / 4%10^30-k),⟨fun k _=>rfl,fun k _=>trivial,fun j k _ _ e=>by injection e with e;omega⟩,fun k hk=>?_⟩
 simp [F_law_value,fnP,Zb3,ZbS,ZbT,Zb1,ZbV,ZcV,ZcT,d4,ZfI,w1,aD]
theorem ZsD (way cell:Int) (w2:way=2):∃ f,VOk f∧∀ k:Nat,k<47→F_law_value [.val (.int way),.val (.int cell),.val (.int (k:Int))]=some (.val (aD (f k))):=by
 have d4:Zcn cell 4:=by constructor<;>decide
 have d8:Zcn cell 8:=by constructor<;>decide
 obtain ⟨m,hm,hm7⟩:∃ m:Nat,cell%8=(m:Int)∧m≤7:=⟨(cell%8).toNat,by omega,by omega⟩
 obtain ⟨w,hw,hwl,hwg⟩:=ZlD (cell / 4) m (by omega)
 obtain ⟨n,hn,hn4⟩:∃ n:Nat,1+cell / 8%4=(n:Int)∧n∈[1,2,3,4]:=by
  refine ⟨(1+cell / 8%4).toNat,by omega,?_⟩
  have:(1+cell / 8%4).toNat=1∨(1+cell / 8%4).toNat=2∨(1+cell / 8%4).toNat=3∨(1+cell / 8%4).toNat=4:=by omega
  simpa using this
 have hnn:n≤4:=by simp at hn4;omega
 have hzo:∀ k,k<47→(zt n k).all okc=true∧(zt n k).length≤4:=fun k hk=>ZtJ n hn4 k (List.mem_range.mpr hk)
 have hcp:∀ k:Nat,(w++Txt.zfill (Str.ofString (toString (k:Int))) (n:Int)).cps.toList=w.cps.toList++zt n k:=fun k=>Zdv _ _
 have hok:∀ k:Nat,k<47→GW (w++Txt.zfill (Str.ofString (toString (k:Int))) (n:Int)).cps.toList∧(w++Txt.zfill (Str.ofString (toString (k:Int))) (n:Int)).cps.toList.length≤12:=fun k hk=>by
  rw [hcp]
  exact ⟨hwg.app (hzo k hk).1,by rw [List.length_append,hwl];have:=(hzo k hk).2;omega⟩
 refine ⟨fun k=>.str (w++Txt.zfill (Str.ofString (toString (k:Int))) (n:Int)),⟨fun k hk=>(Zfv (hok k hk).1 (hok k hk).2).1,fun k hk=>(Zfv (hok k hk).1 (hok k hk).2).2,fun j k hj hk e=>?_⟩,fun k hk=>?_⟩
 ·injection e with e
  have:=congrArg (fun s:Str=>s.cps.toList) e
  simp only [hcp] at this
  exact Znr (ZtV n hn4) hj hk (List.append_cancel_left this)
 ·have hlg:((k:Int).natAbs).log2<1920:=Nat.lt_of_le_of_lt (Nat.log2_le_self _) (by omega)
  have hz:=Znt (Str.ofString (toString (k:Int))) (n:Int) (by omega) (by omega)
  have ha:=Zen w (Txt.zfill (Str.ofString (toString (k:Int))) (n:Int)) (by rw [ZbI,ZbI,hwl];have:=(hzo k hk).2;unfold zt at this;omega)
  have a1:ZD (.int 1) (.int (cell / 8%4))=some (.int (n:Int)):=by rw [← hn];rfl
  have hsI:Zik [.int (k:Int)]=some (.str (Str.ofString (toString (k:Int)))):=by simp only [Zik];rw [if_pos hlg]
  dsimp only
  generalize Str.ofString (toString (k:Int))=T at *
  simp [F_law_value,fnP,Zb3,ZbS,ZbT,Zb1,ZbV,ZcV,ZcT,ZdV,ZdW,ZdN,ZdU,d4,d8,ZfI,w2,hm,hw,-Zik,hsI,-ZD,a1,hz,ha,aD]
theorem Ztc (j k c8:Nat) (hj:j<47) (hk:k<47) (r1:j / 26=k / 26) (r2:(j+c8)%26=(k+c8)%26):j=k:=by omega
theorem Zmf {j:Nat} (h:j<47):j / 26<26:=by omega
theorem ZpN:∃ lt:Nat→Nat,(∀ i,i<26→lt i∈letters.cps.toList)∧(∀ i j,i<26→j<26→lt i=lt j→i=j)∧∀ i:Nat,i<26→ixD (.str "abcdefghijklmnopqrstuvwxyz") (.int (i:Int))=some (.str ⟨#[lt i]⟩) :=
 ⟨ltr,fun i hi=>Zs3 i (List.mem_range.mpr hi),fun i j hi hj e=>Znr (f:=ltr) ZqD hi hj e,Zrb⟩
theorem ZtN (w:Str) (a x y:Nat) (h:a≤w.cps.toList.length):(Txt.slice w none (some (a:Int))++(⟨#[x]⟩++⟨#[y]⟩)++Txt.slice w (some (a:Int)) none).cps.toList=w.cps.toList.take a++[x,y]++w.cps.toList.drop a:=by
 rw [Zdv,Zdv,Zdv,Zg6,Zg6,Ztj w a h,Zp3 w a h]
 rfl
theorem ZtZ (w:Str) (a x y:Nat) (h:w.length≤100):ZD (.str ⟨#[x]⟩) (.str ⟨#[y]⟩)=some (.str (⟨#[x]⟩++⟨#[y]⟩))∧ZD (.str (Txt.slice w none (some (a:Int)))) (.str (⟨#[x]⟩++⟨#[y]⟩))=some (.str (Txt.slice w none (some (a:Int))++(⟨#[x]⟩++⟨#[y]⟩))) ∧
  ZD (.str (Txt.slice w none (some (a:Int))++(⟨#[x]⟩++⟨#[y]⟩))) (.str (Txt.slice w (some (a:Int)) none))=some (.str (Txt.slice w none (some (a:Int))++(⟨#[x]⟩++⟨#[y]⟩)++Txt.slice w (some (a:Int)) none)):=by
 have hl1:∀ c:Nat,(⟨#[c]⟩:Str).length=1:=fun c=>by simp [Str.length]
 have hla:∀ x y:Str,(x++y).length=x.length+y.length:=fun x y=>by rw [ZbI,ZbI,ZbI,Zdv,List.length_append]
 have hsl1:=Txt.slice_le w none (some (a:Int))
 have hsl2:=Txt.slice_le w (some (a:Int)) none
 refine ⟨Zen _ _ (by rw [hl1,hl1];omega),Zen _ _ (by rw [hla,hl1,hl1];omega),Zen _ _ (by rw [hla,hla,hl1,hl1];omega)⟩
theorem Zpv (cell:Int) (m a:Nat) (w:Str) (hwl:w.cps.toList.length=m+1) (hm7:m≤7) (hwg:GW w.cps.toList) (hal:a≤m+1) (c8:Nat) (lt:Nat→Nat) (hin:∀ i,i<26→lt i∈letters.cps.toList) (hinj:∀ i j,i<26→j<26→lt i=lt j→i=j) (g:Nat→Str) (hg:∀ k,(g k).cps.toList=w.cps.toList.take a++[lt (k / 26),lt ((k+c8)%26)]++w.cps.toList.drop a):VOk fun k=>.str (g k):=by
 have hoc:∀ c,c∈letters.cps.toList→okc c=true:=fun c hc=>by simp only [okc,hc,decide_true,Bool.true_or]
 have hok:∀ k:Nat,k<47→GW (g k).cps.toList∧(g k).cps.toList.length≤12:=fun k hk=>by
  have h1:=hin _ (Zmf hk)
  have h2:=hin ((k+c8)%26) (Nat.mod_lt _ (by decide))
  rw [hg]
  refine ⟨hwg.mid a (by simp only [List.all_cons,List.all_nil,hoc _ h1,hoc _ h2,Bool.and_self]) ⟨_,_,rfl,h1⟩,?_⟩
  simp only [List.length_append,List.length_take,List.length_drop,List.length_cons,List.length_nil,hwl]
  omega
 refine ⟨fun k hk=>(Zfv (hok k hk).1 (hok k hk).2).1,fun k hk=>(Zfv (hok k hk).1 (hok k hk).2).2,fun j k hj hk e=>?_⟩
 have e':g j=g k:=At.str.inj e
 have h2:w.cps.toList.take a++[lt (j / 26),lt ((j+c8)%26)]++w.cps.toList.drop a=w.cps.toList.take a++[lt (k / 26),lt ((k+c8)%26)]++w.cps.toList.drop a:=by rw [← hg j,← hg k,e']
 obtain ⟨q1,q2⟩:=ZrD h2
 exact Ztc j k c8 hj hk (hinj _ _ (Zmf hj) (Zmf hk) q1) (hinj _ _ (Nat.mod_lt _ (by decide)) (Nat.mod_lt _ (by decide)) q2)
theorem Zqx (way cell:Int) (w0:¬ way=0) (w1:¬ way=1) (w2:¬ way=2) (m q1 q2 k:Nat) (a:Int) (w A B S1 S2 S3 C:Str) (hm:cell%8=(m:Int)) (hw:F_law_word [.val (.int (cell / 4)),.val (.int (m:Int))]=some (.val (.str w))) (hlw:ZR [.str w]=some (.int ((m:Int)+1))) (hwz:w.length≤sizeLine)
  (hat:cell / 8%((m:Int)+1+1)=a) (hA:Txt.slice w none (some a)=A) (hB:Txt.slice w (some a) none=B) (e1:(k:Int) / 26=(q1:Int)) (e2:((k:Int)+cell / 8)%26=(q2:Int))
  (x1:ixD (.str "abcdefghijklmnopqrstuvwxyz") (.int (q1:Int))=some (.str S1)) (x2:ixD (.str "abcdefghijklmnopqrstuvwxyz") (.int (q2:Int))=some (.str S2)) (ad1:ZD (.str S1) (.str S2)=some (.str S3)) (ad2:ZD (.str A) (.str S3)=some (.str C)) (D':Str) (ad3:ZD (.str C) (.str B)=some (.str D')) :
  F_law_value [.val (.int way),.val (.int cell),.val (.int (k:Int))]=some (.val (.str D')):=by
 have d4:Zcn cell 4:=by constructor<;>decide
 have d8:Zcn cell 8:=by constructor<;>decide
 have d26:Zcn (k:Int) 26:=by constructor<;>decide
 have hp:(0:Int)<(m:Int)+1+1:=by omega
 have a1:∀ a b:Int,ZD (.int a) (.int b)=some (.int (a+b)):=fun _ _=>rfl
 simp [F_law_value,fnP,Zb3,ZbS,ZbT,Zb1,ZbV,ZcV,ZcT,ZdV,ZdW,ZdN,ZdU,ZfR,Zf9,ZfY,Zf4,Zge,Zf5,Zf1,ZfX,d4,d8,d26,ZfI,w0,w1,w2,hm,hw,-ZD,a1,-ZR,hlw,hp,hat,e1,e2,-ixD,x1,x2,ad1,hwz,hA,hB,ad2,ad3]
theorem Zuf (x:Int) (m:Nat):∃ a:Nat,x%((m:Int)+1+1)=(a:Int)∧a≤m+1:=by
 have h1:=Int.emod_nonneg x (show (m:Int)+1+1≠0 by omega)
 have h2:=Int.emod_lt_of_pos x (show (0:Int)<(m:Int)+1+1 by omega)
 exact ⟨(x%((m:Int)+1+1)).toNat,by omega,by omega⟩
theorem Ztx (x:Int):∃ c8:Nat,∀ k:Nat,((k:Int)+x)%26=(((k+c8)%26:Nat):Int):=⟨(x%26).toNat,fun k=>by omega⟩
theorem Ztr (k:Nat):(k:Int) / 26=((k / 26:Nat):Int):=by omega
theorem Zq5 (way cell:Int) (w0:¬ way=0) (w1:¬ way=1) (w2:¬ way=2):∃ f,VOk f∧∀ k:Nat,k<47→F_law_value [.val (.int way),.val (.int cell),.val (.int (k:Int))]=some (.val (aD (f k))):=by
 obtain ⟨m,hm,hm7⟩:∃ m:Nat,cell%8=(m:Int)∧m≤7:=⟨(cell%8).toNat,by omega,by omega⟩
 obtain ⟨w,hw,hwl,hwg⟩:=ZlD (cell / 4) m (by omega)
 obtain ⟨a,hat,hal⟩:=Zuf (cell / 8) m
 obtain ⟨c8,hi2⟩:=Ztx (cell / 8)
 have hi1:=Ztr
 obtain ⟨lt,hin,hinj,hix⟩:=ZpN
 have hwlen:w.length=m+1:=by rw [ZbI,hwl]
 have hwz:w.length≤sizeLine:=by rw [hwlen];exact Nat.le_trans (Nat.succ_le_succ hm7) (by decide)
 have hlw:ZR [.str w]=some (.int ((m:Int)+1)):=by simp only [ZR];rw [if_pos hwz,hwlen];rfl
 have hal':a≤w.cps.toList.length:=by rw [hwl];exact hal
 have hw100:w.length≤100:=by rw [hwlen];exact Nat.le_trans (Nat.succ_le_succ hm7) (by decide)
 refine ⟨_,Zpv cell m a w hwl hm7 hwg hal c8 lt hin hinj (fun k=>Txt.slice w none (some (a:Int))++(⟨#[lt (k / 26)]⟩++⟨#[lt ((k+c8)%26)]⟩)++Txt.slice w (some (a:Int)) none) (fun k=>ZtN w a (lt (k / 26)) (lt ((k+c8)%26)) hal'),fun k hk=>?_⟩
 obtain ⟨ad1,ad2,ad3⟩:=ZtZ w a (lt (k / 26)) (lt ((k+c8)%26)) hw100
 have h3:=Zqx way cell w0 w1 w2 m (k / 26) ((k+c8)%26) k (a:Int) w (Txt.slice w none (some (a:Int))) (Txt.slice w (some (a:Int)) none) ⟨#[lt (k / 26)]⟩ ⟨#[lt ((k+c8)%26)]⟩ (⟨#[lt (k / 26)]⟩++⟨#[lt ((k+c8)%26)]⟩) (Txt.slice w none (some (a:Int))++(⟨#[lt (k / 26)]⟩++⟨#[lt ((k+c8)%26)]⟩)) hm hw hlw hwz hat rfl rfl (hi1 k) (hi2 k) (hix _ (Zmf hk)) (hix _ (Nat.mod_lt _ (by decide))) ad1 ad2 (Txt.slice w none (some (a:Int))++(⟨#[lt (k / 26)]⟩++⟨#[lt ((k+c8)%26)]⟩)++Txt.slice w (some (a:Int)) none) ad3
 dsimp only [aD]
 exact h3
theorem ZoO (way cell:Int):∃ f,VOk f∧∀ k:Nat,k<47→F_law_value [.val (.int way),.val (.int cell),.val (.int (k:Int))]=some (.val (aD (f k))):=by
 by_cases w0:way=0
 ·exact ZqM way cell w0
 ·by_cases w1:way=1
  ·exact ZrN way cell w1
  ·by_cases w2:way=2
   ·exact ZsD way cell w2
   ·exact Zq5 way cell w0 w1 w2
def Zei (x:Int) (k:Nat):Nat→List Int
 | 0=>[]
 | n+1=>((x * 48271+2 * (k:Int)+11)%2147483647 / 64)::Zei ((x * 48271+2 * (k:Int)+11)%2147483647) (k+1) n
theorem ZkI:∀ (n k:Nat) (x:Int),(Zei x k n).length=n
 | 0,_,_=>rfl
 | n+1,k,x=>by simp [Zei,ZkI n]
theorem Zkn:∀ (n k:Nat) (x:Int),∀ y∈Zei x k n,0≤y∧y<33554432
 | 0,_,_,y,h=>by cases h
 | n+1,k,x,y,h=>by
  simp only [Zei,List.mem_cons] at h
  rcases h with rfl | h
  ·omega
  ·exact Zkn n _ _ y h
theorem Zka (s0 s1:Sl):∀ (n k:Nat) (x:Int) (acc:List Int) (s4:Sl),acc.length+n<100000→∃ x' s4',ZV (Zv 4) ZcI ((List.range' k n).map fun (k:Nat)=>D.int (k:Int)) [s0,s1,.val (.int x),.own (acc.map D.int),s4]=.next [s0,s1,.val (.int x'),.own ((acc++Zei x k n).map D.int),s4']
 | 0,k,x,acc,s4,_=>⟨x,s4,by simp [ZV,Zei]⟩
 | n+1,k,x,acc,s4,h=>by
  obtain ⟨x',s4',e⟩:=Zka s0 s1 n (k+1) ((x * 48271+2 * (k:Int)+11)%2147483647) (acc++[(x * 48271+2 * (k:Int)+11)%2147483647 / 64]) (.val (.int (k:Int))) (by simp;omega)
  have hz:acc.length<sizeLine:=Nat.lt_of_lt_of_le (show acc.length<100000 by omega) (by decide)
  have hm:CMul x 48271:=by right;decide
  have hm2:CMul 2 (k:Int):=by left;decide
  have hd:∀ y:Int,Zcn y 64:=fun y=>by constructor<;>decide
  refine ⟨x',s4',?_⟩
  rw [List.range'_succ,List.map_cons]
  simp only [ZV,Zv,List.set_cons_succ,List.set_cons_zero]
  rw [show ZcI [s0,s1,.val (.int x),.own (acc.map D.int),.val (.int (k:Int))]=.next [s0,s1,.val (.int ((x * 48271+2 * (k:Int)+11)%2147483647)),.own ((acc++[(x * 48271+2 * (k:Int)+11)%2147483647 / 64]).map D.int),.val (.int (k:Int))] by
   simp [ZcI,hz,hm,hm2,hd]]
  simp only [Zei]
  rw [show acc++((x * 48271+2 * (k:Int)+11)%2147483647 / 64)::Zei ((x * 48271+2 * (k:Int)+11)%2147483647) (k+1) n=acc++[(x * 48271+2 * (k:Int)+11)%2147483647 / 64]++Zei ((x * 48271+2 * (k:Int)+11)%2147483647) (k+1) n by simp]
  exact e
theorem ZiU (c p:Int):∃ ws:List Int,F_law_stream [.val (.int c),.val (.int p)]=some (.val (.lst (ws.map D.int)))∧ws.length=24∧∀ y∈ws,0≤y∧y<33554432:=by
 have hr:Zc7 [.int 25]=some ((List.range' 0 25).map fun (k:Nat)=>D.int (k:Int)):=by
  have:=Zdr 25 (by omega)
  rw [List.range_eq_range'] at this
  exact this
 obtain ⟨x',s4',e⟩:=Zka (.val (.int c)) (.val (.int p)) 25 0 ((c+7919 * p)%2147483629) [] .no (by simp)
 have hl:=ZkI 25 0 ((c+7919 * p)%2147483629)
 have hps:=Zkn 25 0 ((c+7919 * p)%2147483629)
 simp only [List.nil_append,List.map_nil] at e
 generalize Zei ((c+7919 * p)%2147483629) 0 25=W at *
 have hc:cutD (W.map D.int) (some 1) none=(W.drop 1).map D.int:=by rw [Zfy,ZhJ _ _ (by omega)];rfl
 have m1:CMul 7919 p:=by left;decide
 generalize hR:((List.range' 0 25).map fun (k:Nat)=>D.int (k:Int))=R at *
 refine ⟨W.drop 1,?_,by simp [hl],fun y hy=>hps y (List.mem_of_mem_drop hy)⟩
 simp [F_law_stream,fnP,Zej,Zfc,Ze9,Ze6,Zfb,ZeX,Ze1,Ze8,ZeW,hr,m1,e,hc]
theorem Zd7 {xs:List Int} {i:Int} (h0:0≤i) (h1:i<xs.length):atI (xs.map D.int) i=some (.int (xs.getD i.toNat 0)):=by
 rw [show i=((i.toNat:Nat):Int) by omega]
 have h:i.toNat<xs.length:=by omega
 exact ZbH (by rw [List.getElem?_map,Int.toNat_natCast,List.getElem?_eq_getElem h];simp [List.getD,h])
structure Way where
 sv:List Int
 wd:Nat→Int
 fs:Nat→Nat→At
def Way.stp (w:Way) (j x:Nat):Nat:=(((x:Int) * (1+w.sv.getD (4+j) 0%5)+w.sv.getD (8+j) 0)%w.wd j).toNat
def Way.chn (w:Way):Nat→Nat→Nat→List At
 | _,_,0=>[]
 | j,x,n+1=>w.fs j x::w.chn (j+1) (w.stp (j+1) x) n
def Way.a0 (w:Way) (k:Nat):Nat:=(((k:Int) * (1+w.sv.getD 0 0%46)+w.sv.getD 4 0)%47).toNat
structure Way.Ok (w:Way) (cell:Int):Prop where
 len:w.sv.length=24
 pos:∀ y∈w.sv,0≤y∧y<33554432
 w1:∀ j,1≤w.wd j
 w2:∀ j,w.wd j≤47
 vs:∀ j,VOk (w.fs j)
 val:∀ j k:Nat,k<47→F_law_value [.val (.int (w.sv.getD (12+j) 0%4)),.val (.int (cell+(j:Int) * (w.sv.getD 16 0%2) * 1000003)),.val (.int (k:Int))]=some (.val (aD (w.fs j k)))
theorem Way.stp_lt {w:Way} {cell:Int} (h:w.Ok cell) (j x:Nat):w.stp j x<47:=by
 have h1:=h.w1 j
 have h2:=h.w2 j
 unfold Way.stp
 generalize (x:Int) * (1+w.sv.getD (4+j) 0%5)+w.sv.getD (8+j) 0=y
 have h3:=Int.emod_nonneg y (show w.wd j≠0 by omega)
 have h4:=Int.emod_lt_of_pos y (show 0<w.wd j by omega)
 omega
theorem Way.stp_int {w:Way} {cell:Int} (h:w.Ok cell) (j x:Nat):((x:Int) * (1+w.sv.getD (4+j) 0%5)+w.sv.getD (8+j) 0)%w.wd j=(w.stp j x:Int):=by
 have h1:=h.w1 j
 unfold Way.stp
 generalize (x:Int) * (1+w.sv.getD (4+j) 0%5)+w.sv.getD (8+j) 0=y
 have h3:=Int.emod_nonneg y (show w.wd j≠0 by omega)
 omega
theorem Way.a0_lt (w:Way) (k:Nat):w.a0 k<47:=by
 unfold Way.a0
 generalize (k:Int) * (1+w.sv.getD 0 0%46)+w.sv.getD 4 0=y
 omega
theorem Way.a0_int (w:Way) (k:Nat):((k:Int) * (1+w.sv.getD 0 0%46)+w.sv.getD 4 0)%47=(w.a0 k:Int):=by
 unfold Way.a0
 generalize (k:Int) * (1+w.sv.getD 0 0%46)+w.sv.getD 4 0=y
 omega
theorem cm5 (x y:Int):CMul x (1+y%5):=.inr ⟨by omega,by omega⟩
theorem Zua (x y:Int):CMul x (1+y%46):=.inr ⟨by omega,by omega⟩
theorem cm2 (x y:Int):CMul x (y%2):=.inr ⟨by omega,by omega⟩
theorem Zed {x y:Int} (h:CMul x y):ZdS (.int x) (.int y)=some (.int (x * y)):=by show (if CMul x y then some (D.int (x * y)) else none)=_;rw [if_pos h]
abbrev WD (w:Way):Sl:=.own ([.int (w.wd 0),.int (w.wd 1),.int (w.wd 2),.int (w.wd 3)]:List D)
theorem ZtE (w:Way) (j:Nat) (h:j<4):atI ([.int (w.wd 0),.int (w.wd 1),.int (w.wd 2),.int (w.wd 3)]:List D) (j:Int)=some (.int (w.wd j)):=by
 have:j=0∨j=1∨j=2∨j=3:=by omega
 rcases this with rfl | rfl | rfl | rfl<;>exact ZbH rfl
theorem Zkh (w:Way) (cell:Int) (h:w.Ok cell) (s1 s2 s6 s7 s10:Sl) (j x:Nat) (hj:j<4) (hx:x<47) (acc:List At) (ha:acc.length<100) :
  ZaW [.val (.int cell),s1,s2,.val (.lst (w.sv.map D.int)),WD w,.val (.int (j:Int)),s6,s7,.val (.int (x:Int)),.own (acc.map aD),s10] =
   .next [.val (.int cell),s1,s2,.val (.lst (w.sv.map D.int)),WD w,.val (.int (j:Int)),s6,s7,.val (.int ((if 0<j then w.stp j x else x:Nat):Int)),.own ((acc++[w.fs j (if 0<j then w.stp j x else x)]).map aD),.val (.int (cell+(j:Int) * (w.sv.getD 16 0%2) * 1000003))]:=by
 have hl:=h.len
 have i16:atI (w.sv.map D.int) 16=some (.int (w.sv.getD 16 0)):=Zd7 (by omega) (by omega)
 have i12:atI (w.sv.map D.int) (12+(j:Int))=some (.int (w.sv.getD (12+j) 0)):=by
  have:=Zd7 (xs:=w.sv) (i:=12+(j:Int)) (by omega) (by omega)
  rw [show (12+(j:Int)).toNat=12+j by omega] at this
  exact this
 have i4:atI (w.sv.map D.int) (4+(j:Int))=some (.int (w.sv.getD (4+j) 0)):=by
  have:=Zd7 (xs:=w.sv) (i:=4+(j:Int)) (by omega) (by omega)
  rw [show (4+(j:Int)).toNat=4+j by omega] at this
  exact this
 have i8:atI (w.sv.map D.int) (8+(j:Int))=some (.int (w.sv.getD (8+j) 0)):=by
  have:=Zd7 (xs:=w.sv) (i:=8+(j:Int)) (by omega) (by omega)
  rw [show (8+(j:Int)).toNat=8+j by omega] at this
  exact this
 have iw:=ZtE w j hj
 have hw1:=h.w1 j
 have hwp:0<w.wd j:=by omega
 have hz:acc.length<sizeLine:=Nat.lt_of_lt_of_le (show acc.length<100000 by omega) (by decide)
 have hst:=Way.stp_int h j x
 have hv1:=h.val j (w.stp j x) (Way.stp_lt h j x)
 have hv2:=h.val j x hx
 have c1:=cm5 (x:Int) (w.sv.getD (4+j) 0)
 have c2:=cm2 (j:Int) (w.sv.getD 16 0)
 have c3:CMul ((j:Int) * (w.sv.getD 16 0%2)) 1000003:=.inr (by decide)
 generalize w.sv.getD 16 0=g16 at *
 generalize w.sv.getD (12+j) 0=g12 at *
 generalize w.sv.getD (4+j) 0=G4 at *
 generalize hg4:1+G4%5=g4 at *
 generalize w.sv.getD (8+j) 0=g8 at *
 generalize w.stp j x=sx at *
 generalize w.wd j=wj at *
 dsimp only [WD]
 generalize [D.int (w.wd 0),D.int (w.wd 1),D.int (w.wd 2),D.int (w.wd 3)]=WL at *
 have a1:∀ a b:Int,ZD (.int a) (.int b)=some (.int (a+b)):=fun _ _=>rfl
 by_cases hj0:0<j
 ·have hJ0:(0:Int)<(j:Int):=by omega
  rw [if_pos hj0]
  generalize w.fs j sx=va at *
  generalize (sx:Int)=SX at *
  generalize (j:Int)=J at *
  generalize (x:Int)=XX at *
  have u2:=Zed c2
  have u3:=Zed c3
  have n2:∀ y:Int,Z3 (.int y) (.int 2)=some (.int (y%2)):=fun y=>rfl
  have n4:∀ y:Int,Z3 (.int y) (.int 4)=some (.int (y%4)):=fun y=>rfl
  have x12:ixD (.lst (w.sv.map D.int)) (.int (12+J))=some (.int g12):=i12
  have x16:ixD (.lst (w.sv.map D.int)) (.int 16)=some (.int g16):=i16
  have u1:=Zed c1
  have n5:∀ y:Int,Z3 (.int y) (.int 5)=some (.int (y%5)):=fun y=>rfl
  have nw:∀ y:Int,Z3 (.int y) (.int wj)=some (.int (y%wj)):=fun y=>by show (if 0<wj then some (D.int (y%wj)) else none)=_;rw [if_pos hwp]
  have x4:ixD (.lst (w.sv.map D.int)) (.int (4+J))=some (.int G4):=i4
  have x8:ixD (.lst (w.sv.map D.int)) (.int (8+J))=some (.int g8):=i8
  have xw:ixD (.lst WL) (.int J)=some (.int wj):=iw
  have gt:gtD (.int J) (.int 0)=some (.bl true):=by show some (D.bl (decide (0<J)))=_;rw [decide_eq_true hJ0]
  simp only [ZaW,Zh,Zw,asB,Ze,rdP,rdV,rdA,rdO,List.getElem?_cons_succ,List.getElem?_cons_zero,Option.bind,Option.map,Zt,ZbN,List.set_cons_succ,List.set_cons_zero,Zb,Zi,Zm,a1,gt,x4,n5,hg4,u1,x8,xw,nw,hst,x16,n2,u2,u3,x12,n4,hv1,rvD,List.length_map,hz,if_true,List.map_append,List.map_cons,List.map_nil]
 ·have hJ0:¬ (0:Int)<(j:Int):=by omega
  rw [if_neg hj0]
  generalize w.fs j x=va at *
  generalize (j:Int)=J at *
  generalize (x:Int)=XX at *
  have u2:=Zed c2
  have u3:=Zed c3
  have n2:∀ y:Int,Z3 (.int y) (.int 2)=some (.int (y%2)):=fun y=>rfl
  have n4:∀ y:Int,Z3 (.int y) (.int 4)=some (.int (y%4)):=fun y=>rfl
  have x12:ixD (.lst (w.sv.map D.int)) (.int (12+J))=some (.int g12):=i12
  have x16:ixD (.lst (w.sv.map D.int)) (.int 16)=some (.int g16):=i16
  have gt:gtD (.int J) (.int 0)=some (.bl false):=by show some (D.bl (decide (0<J)))=_;rw [decide_eq_false hJ0]
  simp only [ZaW,Zh,Zw,asB,Ze,rdP,rdV,rdA,rdO,List.getElem?_cons_succ,List.getElem?_cons_zero,Option.bind,Option.map,Zt,ZbN,List.set_cons_succ,List.set_cons_zero,Zb,Zi,Zm,a1,gt,  x16,n2,u2,u3,x12,n4,hv2,rvD,List.length_map,hz,if_true,List.map_append,List.map_cons,List.map_nil]
theorem ZkD (w:Way) (cell:Int) (h:w.Ok cell) (s1 s2 s6 s7:Sl):∀ (n j x:Nat) (acc:List At) (s5 s10:Sl),0<j→j+n≤4→x<47→acc.length+n<100 →
  ∃ s5' s8' s10',ZV (Zv 5) ZaW ((List.range' j n).map fun (k:Nat)=>D.int (k:Int)) [.val (.int cell),s1,s2,.val (.lst (w.sv.map D.int)),WD w,s5,s6,s7,.val (.int (x:Int)),.own (acc.map aD),s10] =
   .next [.val (.int cell),s1,s2,.val (.lst (w.sv.map D.int)),WD w,s5',s6,s7,s8',.own ((acc++w.chn j (w.stp j x) n).map aD),s10']
 | 0,j,x,acc,s5,s10,_,_,_,_=>⟨s5,_,s10,by simp [ZV,Way.chn];rfl⟩
 | n+1,j,x,acc,s5,s10,h0,h4,hx,ha=>by
  have hp:=Zkh w cell h s1 s2 s6 s7 s10 j x (by omega) hx acc (by omega)
  rw [if_pos h0] at hp
  obtain ⟨a,b,c,e⟩:=ZkD w cell h s1 s2 s6 s7 n (j+1) (w.stp j x) (acc++[w.fs j (w.stp j x)]) (.val (.int (j:Int))) (.val (.int (cell+(j:Int) * (w.sv.getD 16 0%2) * 1000003))) (by omega) (by omega) (Way.stp_lt h j x) (by simp;omega)
  refine ⟨a,b,c,?_⟩
  rw [List.range'_succ,List.map_cons]
  simp only [ZV,Zv,List.set_cons_succ,List.set_cons_zero]
  rw [hp]
  simp only [Way.chn]
  rw [show acc++w.fs j (w.stp j x)::w.chn (j+1) (w.stp (j+1) (w.stp j x)) n=acc++[w.fs j (w.stp j x)]++w.chn (j+1) (w.stp (j+1) (w.stp j x)) n by simp]
  exact e
theorem ZnQ (w:Way) (cell:Int) (h:w.Ok cell) (s1:Sl) (p:Nat) (hp0:0<p) (hp4:p≤4) (ls:List (List At)) (hls:ls.length<1000) (k:Nat) (s5 s8 s9 s10:Sl) :
  ∃ s5' s8' s9' s10',ZcD [.val (.int cell),s1,.val (.int (p:Int)),.val (.lst (w.sv.map D.int)),WD w,s5,.own (ls.map lnD),.val (.int (k:Int)),s8,s9,s10] =
   .next [.val (.int cell),s1,.val (.int (p:Int)),.val (.lst (w.sv.map D.int)),WD w,s5',.own ((ls++[w.chn 0 (w.a0 k) p]).map lnD),.val (.int (k:Int)),s8',s9',s10']:=by
 have hl:=h.len
 have i0:atI (w.sv.map D.int) 0=some (.int (w.sv.getD 0 0)):=Zd7 (by omega) (by omega)
 have i4:atI (w.sv.map D.int) 4=some (.int (w.sv.getD 4 0)):=Zd7 (by omega) (by omega)
 have hr:=Zdr p (by omega)
 have ha:=w.a0_int k
 have hpl:=Zkh w cell h s1 (.val (.int (p:Int))) (.own (ls.map lnD)) (.val (.int (k:Int))) s10 0 (w.a0 k) (by omega) (w.a0_lt k) [] (by simp)
 rw [if_neg (by omega)] at hpl
 obtain ⟨a,b,c,e⟩:=ZkD w cell h s1 (.val (.int (p:Int))) (.own (ls.map lnD)) (.val (.int (k:Int))) (p-1) 1 (w.a0 k) [w.fs 0 (w.a0 k)] (.val (.int 0)) (.val (.int (cell+((0:Nat):Int) * (w.sv.getD 16 0%2) * 1000003))) (by omega) (by omega) (w.a0_lt k) (by simp;omega)
 have hch:w.chn 0 (w.a0 k) p=[w.fs 0 (w.a0 k)]++w.chn 1 (w.stp 1 (w.a0 k)) (p-1):=by
  rw [show p=(p-1)+1 by omega]
  simp [Way.chn]
 have hz:ls.length<sizeLine:=Nat.lt_of_lt_of_le (show ls.length<100000 by omega) (by decide)
 have c1:=Zua (k:Int) (w.sv.getD 0 0)
 have hfor:ZV (Zv 5) ZaW ((List.range p).map fun (k:Nat)=>D.int (k:Int)) [.val (.int cell),s1,.val (.int (p:Int)),.val (.lst (w.sv.map D.int)),WD w,s5,.own (ls.map lnD),.val (.int (k:Int)),.val (.int (w.a0 k:Int)),.own [],s10] =
   .next [.val (.int cell),s1,.val (.int (p:Int)),.val (.lst (w.sv.map D.int)),WD w,a,.own (ls.map lnD),.val (.int (k:Int)),b,.own ((w.chn 0 (w.a0 k) p).map aD),c]:=by
  rw [List.range_eq_range',show p=(p-1)+1 by omega,List.range'_succ,List.map_cons]
  simp only [ZV,Zv,List.set_cons_succ,List.set_cons_zero]
  simp only [List.map_nil,List.nil_append] at hpl
  rw [show (p-1)+1=p by omega]
  rw [hpl,hch]
  exact e
 refine ⟨a,b,.own ((w.chn 0 (w.a0 k) p).map aD),c,?_⟩
 generalize w.chn 0 (w.a0 k) p=ch at *
 generalize (w.a0 k:Int)=A0 at *
 generalize w.sv.getD 0 0=G0 at *
 generalize hg:1+G0%46=g0 at *
 generalize w.sv.getD 4 0=g4 at *
 generalize hR:((List.range p).map fun (k:Nat)=>D.int (k:Int))=R at *
 generalize (k:Int)=KK at *
 have a1:∀ a b:Int,ZD (.int a) (.int b)=some (.int (a+b)):=fun _ _=>rfl
 have u1:=Zed c1
 have n46:∀ y:Int,Z3 (.int y) (.int 46)=some (.int (y%46)):=fun y=>rfl
 have n47:∀ y:Int,Z3 (.int y) (.int 47)=some (.int (y%47)):=fun y=>rfl
 have x0:ixD (.lst (w.sv.map D.int)) (.int 0)=some (.int G0):=i0
 have x4:ixD (.lst (w.sv.map D.int)) (.int 4)=some (.int g4):=i4
 have hsh:ZC (some ([]:List D))=some []:=rfl
 have hv:Zr [Sl.val (.int (p:Int))]=some [.int (p:Int)]:=rfl
 have hv0:Zr []=some []:=rfl
 have ht:ZjS [.lst (ch.map aD)]=some (.tup (ch.map aD)):=rfl
 simp only [ZcD,Zh,Ze,rdP,rdV,rdA,rdO,List.getElem?_cons_succ,List.getElem?_cons_zero,Option.bind,Option.map,Zt,ZaQ,ZbN,Zbu,List.set_cons_succ,List.set_cons_zero,Zb,Zi,a1,x0,n46,hg,u1,x4,n47,ha,hv,hv0,hsh,hr,hfor,Zq,pks,pk,ht,List.length_map,hz,if_true,List.map_append,List.map_cons,List.map_nil,lnD]
def Zaw (y:Int):Int:=if y / 64%4=0 then 1+y%6 else if y / 64%4=1 then 2+y%3 else if y / 64%4=2 then 47 else 3
theorem Zlj (y:Int):1≤Zaw y∧Zaw y≤47:=by
 unfold Zaw
 split
 ·omega
 ·split
  ·omega
  ·split<;>omega
theorem ZpZ (y:Int):atI [D.int (1+y%6),.int (2+y%3),.int 47,.int 3] (y / 64%4)=some (.int (Zaw y)):=by
 have h:y / 64%4=0∨y / 64%4=1∨y / 64%4=2∨y / 64%4=3:=by omega
 unfold Zaw
 generalize y / 64%4=q at *
 rcases h with rfl | rfl | rfl | rfl<;>exact ZbH rfl
theorem ZfG (s0 s1 s2:Sl) (sv:List Int) (hl:sv.length=24) (j:Nat) (hj:j<20) (ws:List D) (hw:ws.length<100) (s6 s7 s8 s9 s10:Sl) :
  Zay [s0,s1,s2,.val (.lst (sv.map D.int)),.own ws,.val (.int (j:Int)),s6,s7,s8,s9,s10]=.next [s0,s1,s2,.val (.lst (sv.map D.int)),.own (ws++[.int (Zaw (sv.getD j 0))]),.val (.int (j:Int)),s6,s7,s8,s9,s10]:=by
 have x1:ixD (.lst (sv.map D.int)) (.int (j:Int))=some (.int (sv.getD j 0)):=by
  have:=Zd7 (xs:=sv) (i:=(j:Int)) (by omega) (by omega)
  rw [Int.toNat_natCast] at this
  exact this
 have hs:=ZpZ (sv.getD j 0)
 generalize sv.getD j 0=y at *
 generalize Zaw y=wy at *
 generalize (j:Int)=J at *
 have x2:ixD (.lst [D.int (1+y%6),.int (2+y%3),.int 47,.int 3]) (.int (y / 64%4))=some (.int wy):=hs
 have n6:Z3 (.int y) (.int 6)=some (.int (y%6)):=rfl
 have n3:Z3 (.int y) (.int 3)=some (.int (y%3)):=rfl
 have n4:Z3 (.int (y / 64)) (.int 4)=some (.int (y / 64%4)):=rfl
 have d64:ZaB (.int y) (.int 64)=some (.int (y / 64)):=by
  show (if Zcn y 64 then some (D.int (y / 64)) else none)=_
  rw [if_pos (by constructor<;>decide)]
 have a1:∀ a b:Int,ZD (.int a) (.int b)=some (.int (a+b)):=fun _ _=>rfl
 have hz:ws.length<sizeLine:=Nat.lt_of_lt_of_le (show ws.length<100000 by omega) (by decide)
 have hsh:ZC (some [D.int (1+y%6),.int (2+y%3),.int 47,.int 3])=some [D.int (1+y%6),.int (2+y%3),.int 47,.int 3]:=Zaf _ (by simp)
 simp only [Zay,Zh,Ze,rdP,rdV,rdA,rdO,List.getElem?_cons_succ,List.getElem?_cons_zero,Option.bind,Option.map,ZbN,List.set_cons_succ,List.set_cons_zero,Zb,Zi,Zr,ZB,x1,n6,n3,a1,d64,n4,hsh,x2,hz,if_true]
theorem Zjl (w:Way) (cell:Int) (h:w.Ok cell) (s1:Sl) (p:Nat) (hp0:0<p) (hp4:p≤4):∀ (n k:Nat) (ls:List (List At)) (s5 s7 s8 s9 s10:Sl),ls.length+n<1000 →
  ∃ s5' s7' s8' s9' s10',ZV (Zv 7) ZcD ((List.range' k n).map fun (k:Nat)=>D.int (k:Int)) [.val (.int cell),s1,.val (.int (p:Int)),.val (.lst (w.sv.map D.int)),WD w,s5,.own (ls.map lnD),s7,s8,s9,s10] =
   .next [.val (.int cell),s1,.val (.int (p:Int)),.val (.lst (w.sv.map D.int)),WD w,s5',.own ((ls++(List.range' k n).map fun k=>w.chn 0 (w.a0 k) p).map lnD),s7',s8',s9',s10']
 | 0,k,ls,s5,s7,s8,s9,s10,_=>⟨s5,s7,s8,s9,s10,by simp [ZV]⟩
 | n+1,k,ls,s5,s7,s8,s9,s10,hz=>by
  obtain ⟨a,b,c,d,e⟩:=ZnQ w cell h s1 p hp0 hp4 ls (by omega) k s5 s8 s9 s10
  obtain ⟨a2,b2,c2,d2,f2,e2⟩:=Zjl w cell h s1 p hp0 hp4 n (k+1) (ls++[w.chn 0 (w.a0 k) p]) a (.val (.int (k:Int))) b c d (by simp;omega)
  refine ⟨a2,b2,c2,d2,f2,?_⟩
  rw [List.range'_succ,List.map_cons,List.map_cons]
  simp only [ZV,Zv,List.set_cons_succ,List.set_cons_zero]
  rw [e]
  rw [show ls++w.chn 0 (w.a0 k) p::(List.range' (k+1) n).map (fun k=>w.chn 0 (w.a0 k) p)=ls++[w.chn 0 (w.a0 k) p]++(List.range' (k+1) n).map (fun k=>w.chn 0 (w.a0 k) p) by simp]
  exact e2
theorem ZmP (cell:Int) (many p:Nat) (hm:many<500) (hp0:0<p) (hp4:p≤4):∃ w:Way,w.Ok cell∧F_law_ladder [.val (.int cell),.val (.int (many:Int)),.val (.int (p:Int))]=some (.own (((List.range many).map fun k=>w.chn 0 (w.a0 k) p).map lnD)):=by
 obtain ⟨sv,hs,hl,hps⟩:=ZiU cell (p:Int)
 have hval:=fun j:Nat=>ZoO (sv.getD (12+j) 0%4) (cell+(j:Int) * (sv.getD 16 0%2) * 1000003)
 let w:Way:=⟨sv,fun j=>if j=0 then 47 else Zaw (sv.getD j 0),fun j=>(hval j).choose⟩
 have hw:w.Ok cell:=⟨hl,hps,fun j=>by show 1≤(if j=0 then (47:Int) else Zaw (sv.getD j 0));split;decide;exact (Zlj _).1,fun j=>by show (if j=0 then (47:Int) else Zaw (sv.getD j 0))≤47;split;decide;exact (Zlj _).2,fun j=>(hval j).choose_spec.1,fun j k hk=>(hval j).choose_spec.2 k hk⟩
 have hsv:w.sv=sv:=rfl
 have hWD:WD w=.own [.int 47,.int (Zaw (sv.getD 1 0)),.int (Zaw (sv.getD 2 0)),.int (Zaw (sv.getD 3 0))]:=rfl
 obtain ⟨a,b,c,d,e,e1⟩:=Zjl w cell hw (.val (.int (many:Int))) p hp0 hp4 many 0 [] (.val (.int 3)) .no .no .no .no (by simp;omega)
 refine ⟨w,hw,?_⟩
 have hr:=Zdr many (by omega)
 have hr2:ZhU [.int 1,.int 4]=some [.int 1,.int 2,.int 3]:=by
  rw [Zoc 1 4 (by omega) (by omega) (by omega) (by omega)];rfl
 rw [← List.range_eq_range',List.nil_append,hsv,hWD] at e1
 generalize ((List.range many).map fun k=>w.chn 0 (w.a0 k) p)=LS at *
 have t1:Zay [.val (.int cell),.val (.int (many:Int)),.val (.int (p:Int)),.val (.lst (sv.map D.int)),.own [.int 47],.val (.int 1),.no,.no,.no,.no,.no]=.next [.val (.int cell),.val (.int (many:Int)),.val (.int (p:Int)),.val (.lst (sv.map D.int)),.own [.int 47,.int (Zaw (sv.getD 1 0))],.val (.int 1),.no,.no,.no,.no,.no]:=ZfG (.val (.int cell)) (.val (.int (many:Int))) (.val (.int (p:Int))) sv hl 1 (by omega) [.int 47] (by simp) .no .no .no .no .no
 have t2:Zay [.val (.int cell),.val (.int (many:Int)),.val (.int (p:Int)),.val (.lst (sv.map D.int)),.own [.int 47,.int (Zaw (sv.getD 1 0))],.val (.int 2),.no,.no,.no,.no,.no]=.next [.val (.int cell),.val (.int (many:Int)),.val (.int (p:Int)),.val (.lst (sv.map D.int)),.own [.int 47,.int (Zaw (sv.getD 1 0)),.int (Zaw (sv.getD 2 0))],.val (.int 2),.no,.no,.no,.no,.no]:=ZfG (.val (.int cell)) (.val (.int (many:Int))) (.val (.int (p:Int))) sv hl 2 (by omega) [.int 47,.int (Zaw (sv.getD 1 0))] (by simp) .no .no .no .no .no
 have t3:Zay [.val (.int cell),.val (.int (many:Int)),.val (.int (p:Int)),.val (.lst (sv.map D.int)),.own [.int 47,.int (Zaw (sv.getD 1 0)),.int (Zaw (sv.getD 2 0))],.val (.int 3),.no,.no,.no,.no,.no]=.next [.val (.int cell),.val (.int (many:Int)),.val (.int (p:Int)),.val (.lst (sv.map D.int)),.own [.int 47,.int (Zaw (sv.getD 1 0)),.int (Zaw (sv.getD 2 0)),.int (Zaw (sv.getD 3 0))],.val (.int 3),.no,.no,.no,.no,.no]:=ZfG (.val (.int cell)) (.val (.int (many:Int))) (.val (.int (p:Int))) sv hl 3 (by omega) [.int 47,.int (Zaw (sv.getD 1 0)),.int (Zaw (sv.getD 2 0))] (by simp) .no .no .no .no .no
 have hfor:ZV (Zv 5) Zay [.int 1,.int 2,.int 3] [.val (.int cell),.val (.int (many:Int)),.val (.int (p:Int)),.val (.lst (sv.map D.int)),.own [.int 47],.no,.no,.no,.no,.no,.no] =
   .next [.val (.int cell),.val (.int (many:Int)),.val (.int (p:Int)),.val (.lst (sv.map D.int)),.own [.int 47,.int (Zaw (sv.getD 1 0)),.int (Zaw (sv.getD 2 0)),.int (Zaw (sv.getD 3 0))],.val (.int 3),.no,.no,.no,.no,.no]:=by
  simp only [ZV,Zv,List.set_cons_succ,List.set_cons_zero]
  simp only [t1,List.set_cons_succ,List.set_cons_zero,t2,t3]
 have hsh:ZC (some [D.int 47])=some [D.int 47]:=Zaf _ (by decide)
 have hsh0:ZC (some ([]:List D))=some []:=rfl
 have hv:Zr [Sl.val (.int (many:Int))]=some [.int (many:Int)]:=rfl
 have hfn:F_law_ladder [.val (.int cell),.val (.int (many:Int)),.val (.int (p:Int))]=match Zdw [.val (.int cell),.val (.int (many:Int)),.val (.int (p:Int)),.no,.no,.no,.no,.no,.no,.no,.no] with
  | .ret r=>some r
  | .next _=>some (.val .non)
  | _=>none:=rfl
 rw [hfn]
 simp only [Zdw,Zfg,Zfd,Ze5,Ze4,ZeY,Zfe,Zfl,ZeZ,Zfm,Ze2,Zfa,Zh,rdP,rdV,rdA,rdO,List.getElem?_cons_succ,List.getElem?_cons_zero,Option.bind,Option.map,Zt,ZaQ,Zbu,List.set_cons_succ,List.set_cons_zero,Zb,Zi,Zm,rvD,hs,Zr,hsh,hsh0,hr2,hfor,hr,List.map_nil] at e1 ⊢
 rw [e1]
 rfl
def Way.its (w:Way) (j x:Nat):Nat→Nat
 | 0=>x
 | i+1=>w.stp (j+i+1) (w.its j x i)
theorem Way.its_succ (w:Way) (j x:Nat):∀ i,w.its (j+1) (w.stp (j+1) x) i=w.its j x (i+1)
 | 0=>rfl
 | i+1=>by
  have ih:=Way.its_succ w j x i
  show w.stp (j+1+i+1) (w.its (j+1) (w.stp (j+1) x) i)=w.stp (j+(i+1)+1) (w.its j x (i+1))
  rw [ih,show j+1+i+1=j+(i+1)+1 by omega]
theorem Way.chn_len (w:Way):∀ (n j x:Nat),(w.chn j x n).length=n
 | 0,_,_=>rfl
 | n+1,j,x=>by simp [Way.chn,Way.chn_len w n]
theorem Way.chn_get (w:Way):∀ (i n j x:Nat),i<n→(w.chn j x n)[i]?=some (w.fs (j+i) (w.its j x i))
 | _,0,_,_,h=>by omega
 | 0,n+1,j,x,_=>by simp [Way.chn,Way.its]
 | i+1,n+1,j,x,h=>by
  have ih:=Way.chn_get w i n (j+1) (w.stp (j+1) x) (by omega)
  rw [Way.its_succ,show j+1+i=j+(i+1) by omega] at ih
  simpa [Way.chn] using ih
theorem Way.chn_drop (w:Way):∀ (i n j x:Nat),i<n→(w.chn j x n).drop (i+1)=w.chn (j+i+1) (w.its j x (i+1)) (n-i-1)
 | _,0,_,_,h=>by omega
 | 0,n+1,j,x,_=>by simp [Way.chn,Way.its]
 | i+1,n+1,j,x,h=>by
  have ih:=Way.chn_drop w i n (j+1) (w.stp (j+1) x) (by omega)
  rw [Way.its_succ] at ih
  have e:(w.chn j x (n+1)).drop (i+1+1)=(w.chn (j+1) (w.stp (j+1) x) n).drop (i+1):=by simp [Way.chn]
  rw [e,ih,show j+1+i+1=j+(i+1)+1 by omega,show n-i-1=n+1-(i+1)-1 by omega]
theorem Way.its_lt {w:Way} {cell:Int} (h:w.Ok cell) (j x:Nat) (hx:x<47):∀ i,w.its j x i<47
 | 0=>hx
 | i+1=>Way.stp_lt h _ _
theorem Way.func {w:Way} {cell:Int} (h:w.Ok cell) (p:Nat) (ks:List Nat):Func ((ks.map fun k=>w.chn 0 (w.a0 k) p).flatMap (Za3 0)):=by
 intro k t t' h1 h2
 rw [List.mem_flatMap] at h1 h2
 obtain ⟨l,hl,h1⟩:=h1
 obtain ⟨l',hl',h2⟩:=h2
 obtain ⟨a,_,rfl⟩:=List.mem_map.mp hl
 obtain ⟨b,_,rfl⟩:=List.mem_map.mp hl'
 rw [ZbQ] at h1 h2
 obtain ⟨m,a1,a2,a3⟩:=h1
 obtain ⟨m',b1,b2,b3⟩:=h2
 dsimp only at a1 a2 a3 b1 b2 b3
 have hm:m=m':=by omega
 subst hm
 have hmp:m<p:=by
  have:=(List.getElem?_eq_some_iff.mp a2).1
  rw [Way.chn_len] at this
  exact this
 rw [Way.chn_get w m p 0 _ hmp] at a2 b2
 have e:=(Option.some.inj a2).trans (Option.some.inj b2).symm
 have ei:=(h.vs _).inj _ _ (Way.its_lt h 0 _ (w.a0_lt a) m) (Way.its_lt h 0 _ (w.a0_lt b) m) e
 rw [a3,b3,Way.chn_drop w m p 0 _ hmp,Way.chn_drop w m p 0 _ hmp]
 show w.chn _ (w.stp _ (w.its 0 (w.a0 a) m)) _=w.chn _ (w.stp _ (w.its 0 (w.a0 b) m)) _
 rw [ei]
theorem Ztk:∀ m∈List.range 46,∃ n∈List.range 47,((m+1) * n)%47=1:=by decide +kernel
theorem Zp7 {k j m c:Int} (hm0:0≤m) (hm:m<46) (hk:0≤k) (hk2:k<47) (hj:0≤j) (hj2:j<47) (e:(k * (1+m)+c)%47=(j * (1+m)+c)%47):k=j:=by
 obtain ⟨n,hn,he⟩:=Ztk m.toNat (List.mem_range.mpr (by omega))
 have he':((1+m) * (n:Int))%47=1:=by
  have:(((m.toNat+1) * n:Nat):Int)%47=1:=by exact_mod_cast congrArg (fun x:Nat=>(x:Int)) he
  rw [Int.natCast_mul,Int.natCast_add] at this
  have hmm:((m.toNat:Nat):Int)=m:=by omega
  rw [hmm] at this
  rw [Int.add_comm 1 m]
  exact this
 have h1:47 ∣ (k-j) * (1+m):=by
  have:(k * (1+m)+c)-(j * (1+m)+c)=(k-j) * (1+m):=by rw [Int.sub_mul];omega
  rw [← this]
  exact Int.dvd_of_emod_eq_zero (by omega)
 have h2:47 ∣ (k-j) * ((1+m) * (n:Int)):=by
  rw [← Int.mul_assoc]
  exact Int.dvd_mul_of_dvd_left h1
 obtain ⟨q,hq⟩:∃ q,(1+m) * (n:Int)=47 * q+1:=⟨(1+m) * (n:Int) / 47,by omega⟩
 rw [hq,Int.mul_add,Int.mul_one] at h2
 have h3:(47:Int) ∣ (k-j) * (47 * q):=⟨(k-j) * q,by rw [← Int.mul_assoc,← Int.mul_assoc,Int.mul_comm (k-j) 47]⟩
 have h4:(47:Int) ∣ k-j:=(Int.dvd_add_right h3).mp h2
 omega
theorem Way.a0_inj (w:Way) (hpos:0≤w.sv.getD 0 0) {j k:Nat} (hj:j<47) (hk:k<47) (e:w.a0 j=w.a0 k):j=k:=by
 have e1:=w.a0_int j
 have e2:=w.a0_int k
 rw [e] at e1
 have:=Zp7 (k:=(j:Int)) (j:=(k:Int)) (m:=w.sv.getD 0 0%46) (c:=w.sv.getD 4 0) (by omega) (by omega) (by omega) (by omega) (by omega) (by omega) (e1.trans e2.symm)
 omega
theorem Way.good {w:Way} {cell:Int} (h:w.Ok cell) (p:Nat) (hp:0<p) (n:Nat) (hn:n≤47):goT ((List.range n).map fun k=>w.chn 0 (w.a0 k) p)=true:=by
 have hpos:0≤w.sv.getD 0 0:=by
  have hl:=h.len
  have:w.sv.getD 0 0∈w.sv:=by
   have e:w.sv.getD 0 0=w.sv[0]'(by omega):=by simp [List.getD,List.getElem?_eq_getElem (show 0<w.sv.length by omega)]
   rw [e]
   exact List.getElem_mem _
  exact (h.pos _ this).1
 have hlen:∀ l∈(List.range n).map fun k=>w.chn 0 (w.a0 k) p,l.length=p:=fun l hl=>by
  obtain ⟨k,_,rfl⟩:=List.mem_map.mp hl
  exact Way.chn_len w _ _ _
 have hne:∀ l∈(List.range n).map fun k=>w.chn 0 (w.a0 k) p,l≠[]:=fun l hl z=>by
  have:=hlen l hl
  rw [z] at this;simp at this;omega
 have hf:=Way.func h p (List.range n)
 have hnd:(((List.range n).map fun k=>w.chn 0 (w.a0 k) p).map hd).Nodup:=by
  rw [List.map_map,List.nodup_iff_pairwise_ne,List.pairwise_map]
  refine List.Pairwise.imp_of_mem ?_ (List.pairwise_lt_range (n:=n))
  intro a b ha hb hlt e
  have ha:=List.mem_range.mp ha
  have hb:=List.mem_range.mp hb
  have hh:∀ k,hd (w.chn 0 (w.a0 k) p)=w.fs 0 (w.a0 k):=fun k=>by
   rw [show p=(p-1)+1 by omega];rfl
  simp only [Function.comp,hh] at e
  have:=Way.a0_inj w hpos (by omega) (by omega) ((h.vs 0).inj _ _ (w.a0_lt a) (w.a0_lt b) e)
  omega
 cases hl:(List.range n).map fun k=>w.chn 0 (w.a0 k) p with
 | nil=>rfl
 | cons l0 ls =>
  rw [hl] at hlen hne hf hnd
  have h0:=hlen l0 List.mem_cons_self
  show goP l0.length [] [] (l0::ls)=true
  rw [Zjz,Zeg (Za3 0) _ _ _ _ List.nodup_nil ZfE hne,h0]
  exact ⟨hlen,by simpa using hnd,by simpa using hf⟩
theorem ZlA {a b:List At} (h:lnD a=lnD b):a=b:=by
 have h1:=ZgY a b
 have h2:a.map aD=b.map aD:=by injection h
 rw [h2,ZgY b b] at h1
 simpa using h1.symm
theorem Ziw:∀ {a b:List (List At)},a.map lnD=b.map lnD→a=b
 | [],[],_=>rfl
 | [],_::_,h=>by simp at h
 | _::_,[],h=>by simp at h
 | x::a,y::b,h=>by
  simp only [List.map_cons,List.cons.injEq] at h
  rw [ZlA h.1,Ziw h.2]
theorem Zom {l:List At} (h1:1≤l.length) (h4:l.length≤4) (hv:∀ a∈l,Zau (aD a)=true):ZT (lnD l)=true:=by
 simp only [ZT,lnD,List.length_map,h1,h4,decide_true,Bool.true_and]
 rw [List.all_map,List.all_eq_true]
 exact hv
theorem ZpC (xs:List D) (h:∀ x∈xs,SmL x) (hz:xs.length≤1000):∃ b,F_go_together [.lent xs]=some (.val (.bl b))∧F_law_go_on [.lent xs]=some (.val (.bl b))∧∀ ls,xs=ls.map lnD→xs.all ZT=true→b=goT ls:=by
 have hgo:∃ b,F_law_go_on [.lent xs]=some (.val (.bl b))∧((b=false∧xs.all ZT=false)∨∃ ls,xs=ls.map lnD∧((∀ l∈ls,1≤l.length∧l.length≤4)∧xs.all ZT=true)∧b=goU ls):=by
  cases xs with
  | nil=>exact ⟨true,by simp [F_law_go_on,fnP,Zb6,ZbZ,ZbX,ZbW,ZbU,ZbR,ZbY,ZdO,ZdQ,ZV],.inr ⟨[],rfl,⟨fun _ h=>(nomatch h),rfl⟩,rfl⟩⟩
  | cons x xs =>
   cases hx:ZT x with
   | false =>
    have hL:=Zhw x (h x List.mem_cons_self)
    rw [hx] at hL
    refine ⟨false,?_,.inl ⟨rfl,by simp [hx]⟩⟩
    have e1:ZS [.lent (x::xs),.own [] true,.own [] true,.val x,.no]=.ret (.val (.bl false)):=by simp [ZS,hL]
    simp [F_law_go_on,fnP,Zb6,ZbZ,ZbX,ZbW,ZbU,ZbR,ZbY,ZV,e1]
   | true =>
    obtain ⟨l0,rfl,_⟩:=line_at hx
    simp only [List.length_cons] at hz
    have h0:ixD (.lst (lnD l0::xs)) (.int 0)=some (lnD l0):=by simp [atI,ixN]
    have ho:=Zlp (lnD l0::xs) l0 h0 (lnD l0::xs) [] [] .no .no h (by simp only [List.length_nil,List.length_cons];omega) (by simp only [List.length_nil,List.length_cons];omega)
    rw [show Zx (SK aD [])=[] from rfl,show Zx (FK [])=[] from rfl] at ho
    have hU:∀ ls:List (List At),lnD l0::xs=ls.map lnD→goU ls=goL l0.length [] [] ls:=fun ls e=>by
     cases ls with
     | nil=>simp at e
     | cons l ls =>
      simp only [List.map_cons,List.cons.injEq] at e
      rw [← ZlA e.1];rfl
    generalize hX:lnD l0::xs=X at *
    rcases ho with ⟨ρ,ls,q1,q2,q3,q4⟩ | ⟨q1,q2⟩
    ·refine ⟨true,?_,.inr ⟨ls,q1,q2,by rw [hU ls q1,q3]⟩⟩
     simp [F_law_go_on,fnP,Zb6,ZbZ,ZbX,ZbW,ZbU,ZbR,ZbY,ZdO,ZdQ,q4]
    ·refine ⟨false,by simp [F_law_go_on,fnP,Zb6,ZbZ,ZbX,ZbW,ZbU,ZbR,ZbY,q2],?_⟩
     rcases q1 with q1 | ⟨ls,r1,r2,r3⟩
     ·exact .inl ⟨rfl,q1⟩
     ·exact .inr ⟨ls,r1,r2,by rw [hU ls r1,r3]⟩
 obtain ⟨b,hb,hbb⟩:=hgo
 rcases ZiA xs h hz with ⟨g1,g2⟩ | ⟨g0,ls,g1,g2,g3⟩
 ·have:b=false:=by
   rcases hbb with ⟨hb0,_⟩ | ⟨ls,e,hl,hu⟩
   ·exact hb0
   ·rw [g1] at hl;exact absurd hl.2 Bool.false_ne_true
  subst this
  exact ⟨false,g2,hb,fun ls _ hal=>by rw [g1] at hal;cases hal⟩
 ·refine ⟨goT ls,g3,?_,fun ls' e _=>by rw [Ziw (g1.symm.trans e)]⟩
  rw [hb]
  rcases hbb with ⟨hb0,ha⟩ | ⟨ls',e,hl,hu⟩
  ·rw [ha] at g0;cases g0
  ·rw [hu,Ziw (e.symm.trans g1),ZpH ls g2]
theorem Zn3 {α:Type} {xs:List α} {lo hi:Option Int} {x:α} (h:x∈cutD xs lo hi):x∈xs:=List.mem_of_mem_drop (List.mem_of_mem_take h)
theorem Zn5 {α:Type} (xs:List α) (lo hi:Option Int):(cutD xs lo hi).length≤xs.length:=by
 unfold L2.cutD
 rw [List.length_take,List.length_drop]
 omega
theorem Ze3 (a b:Int):eqO (.int a) (.int b)=some (.bl (decide (a=b))):=by simp
def TS (xs:List D):Prop:=xs.length≤100∧∀ x∈xs,Sm x
theorem TS.cut {xs:List D} (h:TS xs) (lo hi:Option Int):TS (cutD xs lo hi):=⟨Nat.le_trans (Zn5 _ _ _) h.1,fun x hx=>h.2 x (Zn3 hx)⟩
theorem TS.app {xs ys:List D} (h1:TS xs) (h2:TS ys) (hl:xs.length+ys.length≤100):TS (xs++ys)∧ZD (.tup xs) (.tup ys)=some (.tup (xs++ys)):=⟨⟨by simpa using hl,fun x hx=>by rcases List.mem_append.mp hx with hx | hx;exact h1.2 x hx;exact h2.2 x hx⟩,Zke _ _ (by omega)⟩
theorem TS.one {d:D} (h:Sm d):TS [d]:=⟨by simp,fun x hx=>by simp at hx;subst hx;exact h⟩
theorem Way.chn_mem {w:Way} {cell:Int} (h:w.Ok cell):∀ (n j x:Nat),x<47→∀ a∈w.chn j x n,Zau (aD a)=true∧Sm (aD a)
 | 0,_,_,_,a,ha=>nomatch ha
 | n+1,j,x,hx,a,ha=>by
  simp only [Way.chn,List.mem_cons] at ha
  rcases ha with rfl | ha
  ·exact ⟨(h.vs j).val x hx,(h.vs j).sm x hx⟩
  ·exact Way.chn_mem h n (j+1) _ (Way.stp_lt h _ _) a ha
structure TO {α:Type} (lt:α→α→Bool):Prop where
 asym:∀ a b,lt a b=true→lt b a=false
 neg:∀ a b c,lt a c=true→lt a b=true∨lt b c=true
 anti:∀ a b,lt a b=false→lt b a=false→a=b
theorem TO.irr {α:Type} {lt:α→α→Bool} (T:TO lt) (a:α):lt a a=false:=by
 cases h:lt a a with
 | false=>rfl
 | true=>have:=T.asym a a h;rw [h] at this;cases this
theorem TO.trans {α:Type} {lt:α→α→Bool} (T:TO lt) {a b c:α} (h1:lt a b=true) (h2:lt b c=true):lt a c=true:=by
 rcases T.neg a c b h1 with h | h
 ·exact h
 ·rw [T.asym b c h2] at h;cases h
def Zfw {α:Type} (lt:α→α→Bool) (x:α):List α→List α
 | []=>[x]
 | y::r=>if lt x y then x::y::r else y::Zfw lt x r
def Zcs {α:Type} (lt:α→α→Bool):List α→List α
 | []=>[]
 | x::r=>Zfw lt x (Zcs lt r)
theorem Zi0 {α:Type} (lt:α→α→Bool) (x:α):∀ l,(Zfw lt x l).Perm (x::l)
 | []=>.refl _
 | y::r=>by
  unfold Zfw
  split
  ·exact .refl _
  ·exact ((Zi0 lt x r).cons y).trans (.swap x y r)
theorem Zdd {α:Type} (lt:α→α→Bool):∀ l,(Zcs lt l).Perm l
 | []=>.refl _
 | x::r=>(Zi0 lt x _).trans ((Zdd lt r).cons x)
theorem ZjP {α:Type} (f:α→D) (lt:α→α→Bool) (lk:D→D→Bool) (x:α):∀ l:List α,(∀ y∈l,lk (f x) (f y)=lt x y)→Zfr lk (f x) (l.map f)=(Zfw lt x l).map f
 | [],_=>rfl
 | y::r,h=>by
  have h1:=h y List.mem_cons_self
  have ih:=ZjP f lt lk x r fun z hz=>h z (List.mem_cons_of_mem _ hz)
  simp only [List.map_cons,Zfr,Zfw,h1,ih]
  split<;>rfl
theorem ZkW {α:Type} (f:α→D) (lt:α→α→Bool) (lk:D→D→Bool):∀ l:List α,(∀ x∈l,∀ y∈l,lk (f x) (f y)=lt x y)→Zds lk (l.map f)=(Zcs lt l).map f
 | [],_=>rfl
 | x::r,h=>by
  have ih:=ZkW f lt lk r fun y hy z hz=>h y (List.mem_cons_of_mem _ hy) z (List.mem_cons_of_mem _ hz)
  simp only [List.map_cons,Zds,Zcs,ih]
  exact ZjP f lt lk x _ fun y hy=>h x List.mem_cons_self y (List.mem_cons_of_mem _ ((Zdd lt r).subset hy))
theorem ZnW {α:Type} {F:List Sl→Option Rv} (f:α→D) {lt:α→α→Bool} (T:TO lt) (b:Bool) (xs:List α) (few:xs.length<64) (ky:α→D) (tells:∀ a∈xs,F [.val (f a)]=some (.val (ky a))) (mode:∀ a∈xs,KMode b (ky a)) (cmp:∀ a∈xs,∀ c∈xs,ltN 6 (ky a) (ky c)=some (lt a c)):Zh5 F (xs.map f)=some ((Zcs lt xs).map f):=by
 have hk:∀ a∈xs,Zbp F (f a)=ky a:=fun a ha=>by unfold Zbp;rw [tells a ha];rfl
 have hl:∀ a∈xs,∀ c∈xs,ltF F (f a) (f c)=lt a c:=fun a ha c hc=>ZjZ (by rw [hk a ha,hk c hc];exact cmp a ha c hc)
 have ok:SortOk F (xs.map f):={
  few:=by simpa using few
  tells:=fun x hx=>by obtain ⟨a,ha,rfl⟩:=List.mem_map.mp hx;exact ⟨_,tells a ha⟩
  mode:=⟨b,fun x hx=>by obtain ⟨a,ha,rfl⟩:=List.mem_map.mp hx;rw [hk a ha];exact mode a ha⟩
  cmp:=fun x hx y hy=>by
   obtain ⟨a,ha,rfl⟩:=List.mem_map.mp hx
   obtain ⟨c,hc,rfl⟩:=List.mem_map.mp hy
   rw [hk a ha,hk c hc];exact ⟨_,cmp a ha c hc⟩
  asym:=fun x hx y hy h=>by
   obtain ⟨a,ha,rfl⟩:=List.mem_map.mp hx
   obtain ⟨c,hc,rfl⟩:=List.mem_map.mp hy
   rw [hl a ha c hc] at h;rw [hl c hc a ha];exact T.asym a c h
  neg:=fun x hx y hy z hz h=>by
   obtain ⟨a,ha,rfl⟩:=List.mem_map.mp hx
   obtain ⟨c,hc,rfl⟩:=List.mem_map.mp hy
   obtain ⟨e,he,rfl⟩:=List.mem_map.mp hz
   rw [hl a ha e he] at h;rw [hl a ha c hc,hl c hc e he];exact T.neg a c e h
  anti:=fun x hx y hy h1 h2=>by
   obtain ⟨a,ha,rfl⟩:=List.mem_map.mp hx
   obtain ⟨c,hc,rfl⟩:=List.mem_map.mp hy
   rw [hl a ha c hc] at h1;rw [hl c hc a ha] at h2;rw [T.anti a c h1 h2] }
 rw [Zoi ok,ZkW f lt _ xs hl]
def ded {α:Type} [DecidableEq α]:Option α→List α→List α
 | _,[]=>[]
 | p,a::r=>if p=some a then ded p r else a::ded (some a) r
theorem Zis {α:Type} [DecidableEq α]:∀ (l:List α) (p:Option α) (a:α),a∈ded p l→a∈l
 | [],_,_,h=>h
 | b::r,p,a,h=>by
  unfold ded at h
  split at h
  ·exact List.mem_cons_of_mem _ (Zis r p a h)
  ·rcases List.mem_cons.mp h with rfl | h
   ·exact List.mem_cons_self
   ·exact List.mem_cons_of_mem _ (Zis r _ a h)
theorem ZiI {α:Type} [DecidableEq α]:∀ (l:List α) (p:Option α) (a:α),a∈l→a∈ded p l∨p=some a
 | [],_,_,h=>by cases h
 | b::r,p,a,h=>by
  unfold ded
  split
  ·next e =>
   rcases List.mem_cons.mp h with rfl | h
   ·exact .inr e
   ·exact ZiI r p a h
  ·rcases List.mem_cons.mp h with rfl | h
   ·exact .inl List.mem_cons_self
   ·rcases ZiI r (some b) a h with h | h
    ·exact .inl (List.mem_cons_of_mem _ h)
    ·cases h;exact .inl List.mem_cons_self
theorem Zlt {α:Type} [DecidableEq α] (l:List α) (a:α):a∈ded none l↔a∈l:=⟨Zis l none a,fun h=>by rcases ZiI l none a h with h | h;exact h;cases h⟩
def ltA:At→At→Bool
 | .non,.non=>false
 | .non,_=>true
 | .int i,.int j=>decide (i<j)
 | .int _,.str _=>true
 | .str x,.str y=>decide (x.cps.toList<y.cps.toList)
 | _,_=>false
theorem Zun {x y:Str} (h:x.cps.toList=y.cps.toList):x=y:=by
 obtain ⟨⟨a⟩⟩:=x
 obtain ⟨⟨b⟩⟩:=y
 simp at h
 rw [h]
theorem TO_A:TO ltA:={
 asym:=fun a b h=>by
  cases a<;>cases b<;>simp only [ltA,decide_eq_true_eq,decide_eq_false_iff_not,Bool.false_eq_true] at h ⊢
  ·omega
  ·exact List.lt_asymm h
 neg:=fun a b c h=>by
  cases a<;>cases c<;>simp only [ltA,decide_eq_true_eq,Bool.false_eq_true] at h<;>cases b<;>simp only [ltA,decide_eq_true_eq,Bool.false_eq_true,true_or,or_true,false_or,or_false]
  ·omega
  ·next x y z =>
   by_cases h1:x.cps.toList<z.cps.toList
   ·exact .inl h1
   ·exact .inr (List.lt_of_le_of_lt (List.not_lt.mp h1) h)
 anti:=fun a b h1 h2=>by
  cases a<;>cases b<;>simp only [ltA,decide_eq_false_iff_not,Bool.true_eq_false] at h1 h2
  ·rfl
  ·rw [At.int.injEq];omega
  ·rw [At.str.injEq];exact Zun (List.le_antisymm (List.not_lt.mp h2) (List.not_lt.mp h1)) }
def ltL:List At→List At→Bool
 | [],[]=>false
 | [],_::_=>true
 | _::_,[]=>false
 | a::r,b::s=>if a=b then ltL r s else ltA a b
theorem ZkV:∀ a b,ltL a b=true→ltL b a=false
 | [],[],_=>rfl
 | [],_::_,_=>rfl
 | _::_,[],h=>by cases h
 | a::r,b::s,h=>by
  unfold ltL at h ⊢
  by_cases e:a=b
  ·subst e;simp only [if_true] at h ⊢;exact ZkV r s h
  ·rw [if_neg e] at h;rw [if_neg (fun z=>e z.symm)];exact TO_A.asym a b h
theorem ZlC:∀ a b c,ltL a c=true→ltL a b=true∨ltL b c=true
 | [],[],c,h=>.inr h
 | [],_::_,_,_=>.inl rfl
 | _::_,_,[],h=>by cases h
 | _::_,[],_::_,_=>.inr rfl
 | a::r,b::s,c::t,h=>by
  unfold ltL at h ⊢
  by_cases e1:a=b
  ·subst e1
   by_cases e2:a=c
   ·simp only [e2,if_true] at h ⊢;exact ZlC r s t h
   ·rw [if_neg e2] at h;right;rw [if_neg e2];exact h
  ·rw [if_neg e1]
   by_cases e2:b=c
   ·subst e2;rw [if_neg e1] at h;exact .inl h
   ·rw [if_neg e2]
    by_cases e3:a=c
    ·subst e3
     cases hc:ltA a b with
     | true=>exact .inl rfl
     | false =>
      cases hd:ltA b a with
      | true=>exact .inr rfl
      | false=>exact absurd (TO_A.anti a b hc hd) e1
    ·rw [if_neg e3] at h;exact TO_A.neg a b c h
theorem Zkw:∀ a b,ltL a b=false→ltL b a=false→a=b
 | [],[],_,_=>rfl
 | [],_::_,h,_=>by cases h
 | _::_,[],_,h=>by cases h
 | a::r,b::s,h1,h2=>by
  unfold ltL at h1 h2
  by_cases e:a=b
  ·subst e;simp only [if_true] at h1 h2;rw [Zkw r s h1 h2]
  ·rw [if_neg e] at h1;rw [if_neg (fun z=>e z.symm)] at h2;exact absurd (TO_A.anti a b h1 h2) e
theorem ZuC:TO ltL:=⟨ZkV,ZlC,Zkw⟩
def rk2:At→D
 | .non=>.tup [.int 0,.int 0]
 | .int i=>.tup [.int 1,.int i]
 | .str x=>.tup [.int 2,.str x]
theorem ZrQ (n:Nat) (a b:At):ltN (n+2) (rk2 a) (rk2 b)=some (ltA a b):=by
 cases a<;>cases b<;>simp [rk2,ltA]
 ·intro e;omega
 ·intro e;subst e;simp
theorem Zri (a b:At):eqD (rk2 a) (rk2 b)=decide (a=b):=by
 cases a<;>cases b<;>simp [rk2]
theorem Zns (n:Nat) (a:At):okD (n+1) (rk2 a)=true:=by cases a<;>cases n<;>rfl
theorem ZlL (n:Nat):∀ l m:List At,Zev (ltN (n+2)) (l.map rk2) (m.map rk2)=some (ltL l m)
 | [],[]=>rfl
 | [],_::_=>rfl
 | _::_,[]=>rfl
 | a::r,b::s=>by
  have ih:=ZlL n r s
  have h1:=Zns 11 a
  have h2:=Zns 11 b
  have h3:=Zri a b
  have h4:=ZrQ n a b
  simp only [List.map_cons,Zev,Zg7,h1,h2,h3,h4,ih,ltL,Bool.and_self,if_true,decide_eq_true_eq]
  split<;>rfl
theorem Zih {α:Type} [DecidableEq α]:∀ (l:List α) (p:Option α),(ded p l).length≤l.length
 | [],_=>Nat.le_refl _
 | a::r,p=>by
  unfold ded
  split
  ·exact Nat.le_succ_of_le (Zih r p)
  ·exact Nat.succ_le_succ (Zih r _)
theorem ZbF {np n:Nat} {g:VE→Res} {ss:List Sl} {r:Rv} (h:ss.length=np) (e:g (ss++List.replicate (n-np) .no)=.ret r):fnP np n g ss=some r:=by
 unfold fnP
 rw [if_pos h,e]
theorem ZkJ {α:Type} (x:α) (xs:List α):atI (x::xs) 0=some x:=by
 have:(0:Int)<(xs.length:Int)+1:=by omega
 simp [atI,ixN,this]
theorem ZkS {α:Type} (xs:List α) (x:α):atI (xs++[x]) (-1)=some x:=by
 have h1:(-1+((xs.length:Int)+1)).toNat=xs.length:=by omega
 have h2 : -((xs.length:Int)+1) ≤ -1:=by omega
 simp [atI,ixN,h1,h2]
theorem Zjq (a:At):F_value_rank [.val (aD a)]=some (.val (rk2 a)):=by
 have h2:(2:Nat)≤sizeLine:=by decide
 cases a<;>simp [F_value_rank,fnP,Zee,F_is_whole,Zdj,aD,rk2,h2]
theorem Zk6 (l:List At) (h:l.length≤1000):F_key_rank [.val (lnD l)]=some (.val (.tup (l.map rk2))):=by
 have hz:l.length≤sizeLine:=Nat.le_trans h (by decide)
 have hc:=ZaU (b:=Zv 0) (e:=Zer) (ρ:=[.no]) aD rk2 l fun a _=>⟨[.val (aD a)],rfl,by
  have:=Zjq a
  simp only [Zer,Zm,Zb,rdA,List.getElem?_cons_zero,Option.bind,this,Option.map,rvD]⟩
 simp [F_key_rank,fnP,Zfo,lnD,hz,Z9,hc,-List.map_map]
theorem Zdm (s0:Sl):∀ (ls acc:List (List At)) (s2:Sl),acc.length+ls.length<100000→∃ s2',ZV (Zv 2) ZaD (ls.map lnD) [s0,.own (acc.map lnD),s2]=.next [s0,.own ((acc++ded acc.getLast? ls).map lnD),s2']
 | [],acc,s2,_=>⟨s2,by simp [ZV,ded]⟩
 | l::ls,acc,s2,hz=>by
  simp only [List.length_cons] at hz
  have hzz:acc.length<sizeLine:=Nat.lt_of_lt_of_le (show acc.length<100000 by omega) (by decide)
  have hn:Zfn (some (.int 1))=some (.int (-1)):=rfl
  simp only [List.map_cons,ZV,Zv,List.set_cons_succ,List.set_cons_zero]
  rcases List.eq_nil_or_concat acc with rfl | ⟨pre,x,rfl⟩
  ·obtain ⟨s2',e⟩:=Zdm s0 ls [l] (.val (lnD l)) (by simp;omega)
   refine ⟨s2',?_⟩
   have hb:ZaD [s0,.own ([].map lnD),.val (lnD l)]=.next [s0,.own ([l].map lnD),.val (lnD l)]:=by
    have h0:(0:Nat)<sizeLine:=by decide
    simp [ZaD,h0]
   have hd:ded ([]:List (List At)).getLast? (l::ls)=l::ded (some l) ls:=rfl
   rw [hb,hd]
   exact e
  ·rw [List.concat_eq_append] at hz hzz ⊢
   have hix:ixD (.lst ((pre++[x]).map lnD)) (.int (-1))=some (lnD x):=by
    show atI ((pre++[x]).map lnD) (-1)=_
    rw [List.map_append];exact ZkS _ _
   have htr:ZQ (some (.lst ((pre++[x]).map lnD)))=some true:=by simp
   have hne:=ZmY x l
   have hlast:(pre++[x]).getLast?=some x:=by simp
   by_cases hx:x=l
   ·subst hx
    obtain ⟨s2',e⟩:=Zdm s0 ls (pre++[x]) (.val (lnD x)) (by omega)
    refine ⟨s2',?_⟩
    have hb:ZaD [s0,.own ((pre++[x]).map lnD),.val (lnD x)]=.next [s0,.own ((pre++[x]).map lnD),.val (lnD x)]:=by
     simp only [ZaD,Zh,Zw,orB,ZN,asB,Ze,rdP,rdV,rdO,List.getElem?_cons_succ,List.getElem?_cons_zero,Option.bind,Option.map,htr,hn,hix,hne,decide_true,Bool.not_true]
    rw [hb,hlast,ded,if_pos rfl,← hlast]
    exact e
   ·obtain ⟨s2',e⟩:=Zdm s0 ls (pre++[x]++[l]) (.val (lnD l)) (by simp at hz ⊢;omega)
    refine ⟨s2',?_⟩
    have hl:(pre++[x]++[l]).getLast?=some l:=by simp
    have hb:ZaD [s0,.own ((pre++[x]).map lnD),.val (lnD l)]=.next [s0,.own ((pre++[x]++[l]).map lnD),.val (lnD l)]:=by
     rw [show ((pre++[x]++[l]).map lnD)=(pre++[x]).map lnD++[lnD l] by simp]
     simp only [ZaD,Zh,Zw,orB,ZN,asB,Ze,rdP,rdV,rdO,List.getElem?_cons_succ,List.getElem?_cons_zero,Option.bind,Option.map,htr,hn,hix,hne,hx,decide_false,Bool.not_false,Bool.not_true,ZbN,List.length_map,hzz,if_true,List.set_cons_succ,List.set_cons_zero]
    rw [hb,hlast,ded,if_neg (by simpa using hx)]
    rw [hl] at e
    rw [show pre++[x]++l::ded (some l) ls=pre++[x]++[l]++ded (some l) ls by simp]
    exact e
theorem Zk3 (s:Sl) (ls:List (List At)) (hs:s=.val (.lst (ls.map lnD))∨s=.lent (ls.map lnD)) (hl:ls.length<64) (hn:∀ l∈ls,l≠[]∧l.length≤1000):F_in_order [s]=some (.own ((ded none (Zcs ltL ls)).map lnD)):=by
 have hs':=ZnW (F:=F_key_rank) lnD ZuC false ls hl (fun l=>.tup (l.map rk2)) (fun l h=>Zk6 l (hn l h).2) (fun l h=>by
  cases l with
  | nil=>exact absurd rfl (hn [] h).1
  | cons a r=>cases a<;>exact ⟨_,_,rfl⟩) (fun l _ m _=>ZlL 3 l m)
 have hp:=(Zdd ltL ls).length_eq
 obtain ⟨s2',e⟩:=Zdm s (Zcs ltL ls) [] .no (by rw [hp];simp;omega)
 have hz:(Zcs ltL ls).length≤sizeLine:=by rw [hp];exact Nat.le_trans (show ls.length≤1000 by omega) (by decide)
 simp only [List.map_nil,List.nil_append,List.getLast?_nil] at e
 refine ZbF rfl ?_
 show Zd5 [s,.no,.no]=_
 have hsh:ZC (some ([]:List D))=some []:=rfl
 rcases hs with rfl | rfl<;>simp only [Zd5,Zh,ZaQ,Zbu,ZgN,ZB,ZP,rdP,rdO,Zbs,Zr,hsh,hs',e,List.getElem?_cons_succ,List.getElem?_cons_zero,Option.bind,Option.map,List.set_cons_succ,List.set_cons_zero]
def ZoD (a b:At):Bool:=ltL [a] [b]
theorem Zp5 (a b:At):ZoD a b=ltA a b:=by
 unfold ZoD ltL
 by_cases h:a=b
 ·subst h;simp [ltL,TO_A.irr]
 ·rw [if_neg h]
theorem ZlY (a:At):∀ l:List At,Zfw ltL [a] (l.map fun x=>[x])=(Zfw ltA a l).map fun x=>[x]
 | []=>rfl
 | b::r=>by
  have h:=Zp5 a b
  unfold ZoD at h
  simp only [List.map_cons,Zfw,h,ZlY a r]
  split<;>rfl
theorem ZlS:∀ l:List At,Zcs ltL (l.map fun x=>[x])=(Zcs ltA l).map fun x=>[x]
 | []=>rfl
 | a::r=>by simp only [List.map_cons,Zcs,ZlS r,ZlY]
theorem ZiD:∀ (l:List At) (p:Option At),ded (p.map fun x=>[x]) (l.map fun x=>[x])=(ded p l).map fun x=>[x]
 | [],_=>rfl
 | a::r,p=>by
  have h:(p.map (fun x=>[x])=some [a])↔p=some a:=by cases p<;>simp
  simp only [List.map_cons,ded,h]
  split
  ·exact ZiD r p
  ·have:=ZiD r (some a)
   simp only [Option.map_some] at this
   rw [this];rfl
theorem Zgz (s:Sl) (l:List At) (hs:s=.val (.lst (l.map aD))∨s=.lent (l.map aD)) (hl:l.length<64):F_values_in_order [s]=some (.own ((ded none (Zcs ltA l)).map aD)):=by
 have hz:l.length≤sizeLine:=Nat.le_trans (show l.length≤1000 by omega) (by decide)
 have h1:(1:Nat)≤sizeLine:=by decide
 have hc:=ZaU (b:=Zv 0) (e:=Zcc) (ρ:=[.no]) aD (fun a=>lnD [a]) l fun a _=>⟨[.val (aD a)],rfl,by simp [Zcc,lnD,h1]⟩
 have e1:(l.map fun a=>lnD [a])=(l.map fun x=>[x]).map lnD:=by rw [List.map_map];rfl
 have hi:=Zk3 (.val (.lst ((l.map fun x=>[x]).map lnD))) (l.map fun x=>[x]) (.inl rfl) (by simpa using hl) (fun m hm=>by obtain ⟨a,_,rfl⟩:=List.mem_map.mp hm;exact ⟨by simp,by simp⟩)
 rw [ZlS,show (none:Option (List At))=(none:Option At).map (fun x=>[x]) from rfl,ZiD] at hi
 have hlen:(ded none (Zcs ltA l)).length≤l.length:=by
  have h2:=(Zdd ltA l).length_eq
  rw [← h2]
  exact Zih _ _
 generalize hW:ded none (Zcs ltA l)=W at *
 have hzW:W.length≤sizeLine:=Nat.le_trans hlen hz
 have hd:=ZaU (b:=Zv 0) (e:=Zce) (ρ:=[.no]) (fun a=>lnD [a]) aD W fun a _=>⟨[.val (lnD [a])],rfl,by
  have:ixD (lnD [a]) (.int 0)=some (aD a):=by show atI ([a].map aD) 0=_;exact ZkJ _ _
  simp only [Zce,Ze,rdP,List.getElem?_cons_zero,Option.bind,this]⟩
 have e2:(W.map fun a=>lnD [a])=(W.map fun x=>[x]).map lnD:=by rw [List.map_map];rfl
 rw [e1] at hc
 rw [e2] at hd
 have q1:ZC (some (l.map aD))=some (l.map aD):=Zaf _ (by simp;omega)
 have q2:ZC (some ((W.map fun x=>[x]).map lnD))=some ((W.map fun x=>[x]).map lnD):=Zaf _ (by simp;omega)
 generalize (l.map fun x=>[x]).map lnD=A at *
 generalize (W.map fun x=>[x]).map lnD=B at *
 refine ZbF rfl ?_
 show Zby [s]=_
 have hin:Z9 1 [] [s]=[.no]:=rfl
 rcases hs with rfl | rfl<;>simp only [Zby,Zh,Zbs,Zaj,hin,rdQ,ZP,Zm,Zb,Zi,ZB,List.getElem?_cons_zero,Option.bind,Option.map,q1,hc,hi,ZjD,q2,hd]
theorem ZmD (l:List At) (j:Nat) (h:l.length≤1000):F_line_at [.val (lnD l),.val (.int (j:Int))]=some (.val (aD (l.getD j .non))):=by
 have hz:l.length≤sizeLine:=Nat.le_trans h (by decide)
 by_cases hj:j<l.length
 ·have hj':(j:Int)<(l.length:Int):=by omega
  have:ixD (lnD l) (.int (j:Int))=some (aD (l.getD j .non)):=by
   show atI (l.map aD) (j:Int)=_
   exact ZbH (by simp [List.getElem?_eq_getElem hj,List.getD])
  have hlen:ZR [lnD l]=some (.int (l.length:Int)):=by simp [lnD]
  simp [F_line_at,fnP,ZeF,-ixD,-ZR,hlen,this,hj']
 ·have hj':¬ (j:Int)<(l.length:Int):=by omega
  have hlen:ZR [lnD l]=some (.int (l.length:Int)):=by simp [lnD]
  have e:l.getD j .non=.non:=by simp [List.getD,List.getElem?_eq_none (show l.length≤j by omega)]
  rw [e]
  simp [F_line_at,fnP,ZeF,-ixD,-ZR,hlen,hj',aD]
theorem Zdl {α:Type} {b:D→VE→Option VE} {t:VE→Option Bool} {e:VE→Option D} {ρ:VE} (G F:α→D) (P:α→Bool):∀ (xs:List α),(∀ x∈xs,∃ ρ1,b (G x) ρ=some ρ1∧t ρ1=some (P x)∧e ρ1=some (F x))→ZaG b t e ρ (xs.map G)=some ((xs.filter P).map F)
 | [],_=>rfl
 | x::xs,h=>by
  obtain ⟨ρ1,h1,h2,h3⟩:=h x List.mem_cons_self
  have ih:=Zdl G F P xs fun y hy=>h y (List.mem_cons_of_mem _ hy)
  cases hp:P x with
  | true=>simp [ZaG,h1,h2,h3,hp,ih]
  | false=>simp [ZaG,h1,h2,hp,ih]
def hd0 (l:List At):At:=l.getD 0 .non
theorem ZsG (a:At):isN (aD a)=decide (a=.non):=by cases a<;>simp [aD,isN]
theorem Zgm (a b:At):eqO (aD a) (aD b)=some (.bl (decide (a=b))):=by
 simp only [eqO,Zg7,Zgx,Zeo,Bool.and_self,if_true]
theorem ZtX (l:List At) (h:l≠[]):ixD (lnD l) (.int 0)=some (aD (hd0 l)):=by
 cases l with
 | nil=>exact absurd rfl h
 | cons a r=>show atI ((a::r).map aD) 0=_;exact ZkJ _ _
theorem Za2 (x n:Int) (h:0<n):Z3 (.int x) (.int n)=some (.int (x%n)):=by
 show (if 0<n then some (D.int (x%n)) else none)=_
 rw [if_pos h]
theorem Zj4 (x:Int) (n:Nat) (h:0<n):∃ a:Nat,x%(n:Int)=(a:Int)∧a<n:=by
 have h1:=Int.emod_nonneg x (show (n:Int)≠0 by omega)
 have h2:=Int.emod_lt_of_pos x (show (0:Int)<(n:Int) by omega)
 exact ⟨(x%(n:Int)).toNat,by omega,by omega⟩
def bn (ls:List (List At)) (j:Nat) (a:At):List At:=(ls.filter fun l=>decide (l.getD j .non=a)).map hd0
theorem Zhj (s:Sl) (ls:List (List At)) (hs:s=.val (.lst (ls.map lnD))∨s=.lent (ls.map lnD)) (hl:ls.length<64) (hn:∀ l∈ls,l≠[]∧l.length≤4) (j:Nat) (a:At) (ha:a=.non∨(Zau (aD a)=true∧Sm (aD a))):F_beneath [s,.val (.int (j:Int)),.val (aD a)]=some (.own ((ded none (Zcs ltA (bn ls j a))).map aD)):=by
 have hz:ls.length≤1000000:=by omega
 have q1:ZC (some (ls.map lnD))=some (ls.map lnD):=Zaf _ (by simpa using hz)
 have hc:=Zdl (b:=Zv 0) (t:=ZdA) (e:=ZdE) (ρ:=[.no,.val (.int (j:Int)),.val (aD a)]) lnD (fun l=>aD (hd0 l)) (fun l=>decide (l.getD j .non=a)) ls fun l hm=>⟨[.val (lnD l),.val (.int (j:Int)),.val (aD a)],rfl,by
  have h1:=ZmD l j (by have:=(hn l hm).2;omega)
  have h2:=Zgm (l.getD j .non) a
  simp only [ZdA,Zm,Zb,rdA,rdP,Ze,asB,List.getElem?_cons_succ,List.getElem?_cons_zero,Option.bind,Option.map,h1,Z6,h2],by
  have h1:=ZtX l (hn l hm).1
  simp only [ZdE,rdP,Ze,List.getElem?_cons_zero,Option.bind,h1]⟩
 have hc2:ZaG (Zv 0) ZdA ZdE [.no,.val (.int (j:Int)),.val (aD a)] (ls.map lnD)=some ((bn ls j a).map aD):=by
  rw [hc];unfold bn;rw [List.map_map];rfl
 have hb:(bn ls j a).length<64:=by
  unfold bn
  rw [List.length_map]
  exact Nat.lt_of_le_of_lt (List.length_filter_le _ _) hl
 have hv:=Zgz (.val (.lst ((bn ls j a).map aD))) (bn ls j a) (.inl rfl) hb
 have hi:isN (aD a)=decide (a=.non):=ZsG a
 generalize (ded none (Zcs ltA (bn ls j a))).map aD=W at *
 refine ZbF rfl ?_
 have hin:Z9 1 [1,2] [s,.val (.int (j:Int)),.val (aD a)]=[.no,.val (.int (j:Int)),.val (aD a)]:=rfl
 show Zcp [s,.val (.int (j:Int)),.val (aD a)]=_
 rcases ha with rfl | ⟨ha,hsm⟩
 ·rw [decide_eq_true rfl] at hi
  rcases hs with rfl | rfl<;>simp only [Zcp,Zh,Zw,Zai,ZN,Zc2,hi,Bool.not_true,Zbs,Zbx,Zb,Zi,ZB,Zaj,hin,rdQ,ZP,rdP,List.getElem?_cons_succ,List.getElem?_cons_zero,Option.bind,Option.map,q1,hc2,hv,rvF]
 ·have hne:¬ a=.non:=by rintro rfl;cases ha
  rw [decide_eq_false hne] at hi
  have hv2:=ZeN (aD a) hsm
  have hva:(ZaE (aD a)||wordD (aD a))=true:=ha
  rw [hva] at hv2
  rcases hs with rfl | rfl<;>simp only [Zcp,Zh,Zw,Zai,ZN,Zc2,hi,Bool.not_true,Bool.not_false,Zm,rdA,hv2,Z6,ZQ,Zbs,Zbx,Zb,Zi,ZB,Zaj,hin,rdQ,ZP,rdP,List.getElem?_cons_succ,List.getElem?_cons_zero,Option.bind,Option.map,q1,hc2,hv,rvF]
theorem ZlT {a b:At} (e:aD a=aD b):a=b:=by
 have h:=Zeo a b
 rw [e,Zeo b b] at h
 simpa using h.symm
theorem Zly {l:List At} {j:Nat} (h:j<l.length):l.getD j .non=l[j]:=by simp [List.getD,List.getElem?_eq_getElem h]
theorem ZhA {l:List At} {j:Nat} (h:j<l.length):l.getD j .non∈l:=by rw [Zly h];exact List.getElem_mem h
theorem Zir (l:List At) (j:Nat) (h:j<l.length):ixD (lnD l) (.int (j:Int))=some (aD (l.getD j .non)):=by
 show atI (l.map aD) (j:Int)=_
 exact ZbH (by rw [List.getElem?_map,List.getElem?_eq_getElem h,Zly h];rfl)
structure Ld (p:Nat) (ls:List (List At)):Prop where
 one:1≤ls.length
 top:ls.length≤40
 len:∀ l∈ls,l.length=p
 vs:∀ l∈ls,∀ a∈l,Zau (aD a)=true∧Sm (aD a)
 go:goT ls=true
theorem ZqA (s:Sl) (j:Int) (v:D) (hv:Sm v) (h1:isN v=false) (h2:Zau v=false):F_beneath [s,.val (.int j),.val v]=some (.own []):=by
 have e:=ZeN v hv
 have hva:(ZaE v||wordD v)=false:=h2
 rw [hva] at e
 refine ZbF rfl ?_
 show Zcp [s,.val (.int j),.val v]=_
 have hsh:ZC (some ([]:List D))=some []:=rfl
 simp only [Zcp,Zai,ZN,Zc2,ZQ,Zbs,h1,Bool.not_false,e,Z6,hsh,Zh,Zw,asB,Ze,sl3,rdP,rdV,rdA,Zm,Zb,Zi,Zr,ZB,Zq,ZK,pks,pk,asI,Zt,Zs,List.getElem?_cons_succ,List.getElem?_cons_zero,List.set_cons_succ,List.set_cons_zero,Option.bind,Option.map]
theorem ZmL (ls:List (List At)) (j:Nat) (a:At):0<(ded none (Zcs ltA (bn ls j a))).length↔∃ l∈ls,l.getD j .non=a:=by
 constructor
 ·intro h
  obtain ⟨x,hx⟩:=List.exists_mem_of_length_pos h
  have hx:=(Zdd ltA _).mem_iff.mp ((Zlt _ x).mp hx)
  unfold bn at hx
  obtain ⟨l,hl,_⟩:=List.mem_map.mp hx
  obtain ⟨h1,h2⟩:=List.mem_filter.mp hl
  exact ⟨l,h1,by simpa using h2⟩
 ·rintro ⟨l,hl,e⟩
  have hx:hd0 l∈bn ls j a:=List.mem_map.mpr ⟨l,List.mem_filter.mpr ⟨hl,by simpa using e⟩,rfl⟩
  exact List.length_pos_of_mem ((Zlt _ _).mpr ((Zdd ltA _).mem_iff.mpr hx))
theorem ZmM {p:Nat} {ls:List (List At)} (h:Ld p ls) (hp4:p≤4) (j:Nat) (hj:j<p) (v:D) (hv:Sm v):∃ b,F_is_value_at [.val (.lst (ls.map lnD)),.val (.int (j:Int)),.val v]=some (.val (.bl b))∧F_law_there [.val (.lst (ls.map lnD)),.val (.int (j:Int)),.val v]=some (.val (.bl b))∧(b=true↔∃ a,v=aD a∧∃ l∈ls,l.getD j .non=a):=by
 have hn:∀ l∈ls,l≠[]∧l.length≤4:=fun l hl=>by
  have:=h.len l hl
  exact ⟨fun z=>by subst z;simp at this;omega,by omega⟩
 have hfew:ls.length<64:=by have:=h.top;omega
 have key:∃ W:List D,F_beneath [.val (.lst (ls.map lnD)),.val (.int (j:Int)),.val v]=some (.own W)∧(0<W.length↔Zau v=true∧∃ a,v=aD a∧∃ l∈ls,l.getD j .non=a):=by
  cases hv1:Zau v with
  | true =>
   obtain ⟨a,rfl⟩:=Zj2 hv1
   refine ⟨_,Zhj _ ls (.inl rfl) hfew hn j a (.inr ⟨hv1,hv⟩),?_⟩
   rw [List.length_map,ZmL]
   exact ⟨fun z=>⟨rfl,a,rfl,z⟩,fun ⟨_,b,e,z⟩=>by rw [ZlT e];exact z⟩
  | false =>
   cases hn1:isN v with
   | true =>
    have hv0:v=aD .non:=by cases v<;>first | rfl | cases hn1
    subst hv0
    refine ⟨_,Zhj _ ls (.inl rfl) hfew hn j .non (.inl rfl),?_⟩
    rw [List.length_map,ZmL]
    refine ⟨fun ⟨l,hl,e⟩=>?_,fun z=>by cases z.1⟩
    have hvv:=(h.vs l hl _ (ZhA (by rw [h.len l hl];exact hj))).1
    rw [e,hv1] at hvv;cases hvv
   | false=>exact ⟨[],ZqA _ _ v hv hn1 hv1,by simp⟩
 obtain ⟨W,hW,hWl⟩:=key
 have gt:gtD (.int (W.length:Int)) (.int 0)=some (.bl (decide ((0:Int)<(W.length:Int)))):=rfl
 have ln:ZR [.lst W]=some (.int (W.length:Int)):=rfl
 refine ⟨decide ((0:Int)<(W.length:Int)),?_,?_,?_⟩
 ·refine ZbF rfl ?_
  show ZcR [.val (.lst (ls.map lnD)),.val (.int (j:Int)),.val v]=_
  generalize ls.map lnD=L at *
  simp only [ZcR,hW,ZjD,ln,gt,Zh,Zw,asB,Ze,sl3,rdP,rdV,rdA,Zm,Zb,Zi,Zr,ZB,Zq,ZK,pks,pk,asI,Zt,Zs,List.getElem?_cons_succ,List.getElem?_cons_zero,List.set_cons_succ,List.set_cons_zero,Option.bind,Option.map]
 ·have lv:=ZiR v hv
  have hq:ZaG (Zv 0) (fun _=>some true) ZcQ [.no,.val (.int (j:Int))] (ls.map lnD)=some (ls.map fun l=>aD (l.getD j .non)) :=
   ZaU (b:=Zv 0) (e:=ZcQ) (ρ:=[.no,.val (.int (j:Int))]) lnD (fun l=>aD (l.getD j .non)) ls fun l hl=>⟨[.val (lnD l),.val (.int (j:Int))],rfl,by
    have h1:=Zir l j (by rw [h.len l hl];exact hj)
    simp only [ZcQ,Ze,rdP,List.getElem?_cons_succ,List.getElem?_cons_zero,Option.bind,h1]⟩
  refine ZbF rfl ?_
  show ZcO [.val (.lst (ls.map lnD)),.val (.int (j:Int)),.val v]=_
  have hin:Z9 1 [1] [.val (.lst (ls.map lnD)),.val (.int (j:Int)),.val v]=[.no,.val (.int (j:Int))]:=rfl
  have q1:ZC (some (ls.map lnD))=some (ls.map lnD):=Zaf _ (by simp;omega)
  cases hv1:Zau v with
  | false =>
   rw [hv1] at lv
   rw [decide_eq_false (fun z=>by have:=(hWl.mp (by omega)).1;rw [hv1] at this;cases this)]
   simp only [ZcO,Zai,blO,lv,Z6,Zh,Zw,asB,Ze,sl3,rdP,rdV,rdA,Zm,Zb,Zi,Zr,ZB,Zq,ZK,pks,pk,asI,Zt,Zs,List.getElem?_cons_succ,List.getElem?_cons_zero,List.set_cons_succ,List.set_cons_zero,Option.bind,Option.map]
  | true =>
   rw [hv1] at lv
   obtain ⟨a,rfl⟩:=Zj2 hv1
   have o1:okD Zae (aD a)=true:=Zgx _ a
   have o2:(ls.map fun l=>aD (l.getD j .non)).all (okD Zae)=true:=by
    rw [List.all_map,List.all_eq_true]
    exact fun l _=>Zgx _ _
   have o3:ZfD (aD a) (ls.map fun l=>aD (l.getD j .non))=decide ((0:Int)<(W.length:Int)):=by
    rw [Bool.eq_iff_iff,decide_eq_true_eq]
    unfold ZfD
    rw [List.any_map,List.any_eq_true]
    constructor
    ·rintro ⟨l,hl,e⟩
     simp only [Function.comp,Zeo,decide_eq_true_eq] at e
     have:=hWl.mpr ⟨hv1,a,rfl,l,hl,e⟩
     omega
    ·intro hw
     obtain ⟨_,b,e,l,hl,e2⟩:=hWl.mp (by omega)
     exact ⟨l,hl,by simp only [Function.comp,Zeo,decide_eq_true_eq];rw [e2,ZlT e]⟩
   have hi:inD false (aD a) (.lst (ls.map fun l=>aD (l.getD j .non)))=some (.bl (decide ((0:Int)<(W.length:Int)))):=by
    simp only [inD,o1,o2,o3,Bool.and_self,if_true,Bool.false_eq_true,if_false]
   generalize (ls.map fun l=>aD (l.getD j .non))=L2 at *
   generalize ls.map lnD=L at *
   simp only [ZcO,Zai,blO,lv,Z6,Zaj,hin,rdQ,ZP,q1,hq,hi,Zh,Zw,asB,Ze,sl3,rdP,rdV,rdA,Zm,Zb,Zi,Zr,ZB,Zq,ZK,pks,pk,asI,Zt,Zs,List.getElem?_cons_succ,List.getElem?_cons_zero,List.set_cons_succ,List.set_cons_zero,Option.bind,Option.map]
 ·rw [decide_eq_true_eq]
  constructor
  ·intro hw
   exact (hWl.mp (by omega)).2
  ·rintro ⟨a,rfl,l,hl,e⟩
   have hvv:=(h.vs l hl _ (ZhA (by rw [h.len l hl];exact hj))).1
   rw [e] at hvv
   have:=hWl.mpr ⟨hvv,a,rfl,l,hl,e⟩
   omega
theorem Ld.head {p:Nat} {ls:List (List At)} (h:Ld p ls):∃ l0,ixD (.lst (ls.map lnD)) (.int 0)=some (lnD l0)∧ZR [lnD l0]=some (.int (p:Int)):=by
 cases hls:ls with
 | nil=>have:=h.one;rw [hls] at this;simp at this
 | cons l0 r =>
  have hl:=h.len l0 (by rw [hls];exact List.mem_cons_self)
  exact ⟨l0,by simp [atI,ixN],by simp [lnD,hl]⟩
theorem Zr9 {p:Nat} {ls:List (List At)} (h:Ld p ls) (lev:D) (hv:Sm lev) :
  (∃ j:Nat,lev=.int (j:Int)∧j+2≤p∧F_has_parents [.val (.lst (ls.map lnD)),.val lev]=some (.val (.bl true))∧∀ s2 s3 s4 s5 s6:Sl,Zag [.val (.lst (ls.map lnD)),.val lev,s2,s3,s4,s5,s6]=.next [.val (.lst (ls.map lnD)),.val lev,s2,s3,s4,s5,s6]) ∨
  (F_has_parents [.val (.lst (ls.map lnD)),.val lev]=some (.val (.bl false))∧∀ s2 s3 s4 s5 s6:Sl,Zag [.val (.lst (ls.map lnD)),.val lev,s2,s3,s4,s5,s6]=.ret (.val .non)):=by
 obtain ⟨l0,i0,n0⟩:=h.head
 generalize ls.map lnD=L at *
 have w:F_whole_of [.val (.lst L)]=some (.val (.int (p:Int))):=by
  refine ZbF rfl ?_
  show Zd3 [.val (.lst L)]=_
  simp only [Zd3,i0,n0,Zh,Zw,asB,Ze,sl3,rdP,rdV,rdA,Zm,Zb,Zi,Zr,ZB,Zq,ZK,pks,pk,asI,Zt,Zs,List.getElem?_cons_succ,List.getElem?_cons_zero,List.set_cons_succ,List.set_cons_zero,Option.bind,Option.map]
 have hw:=Zht lev hv
 have s2e:ZdX (.int (p:Int)) (.int 2)=some (.int ((p:Int)-2)):=rfl
 have s1e:ZdX (.int (p:Int)) (.int 1)=some (.int ((p:Int)-1)):=rfl
 have hfn:F_has_parents [.val (.lst L),.val lev]=match Z8 [.val (.lst L),.val lev] with
  | .ret r=>some r
  | .next _=>some (.val .non)
  | _=>none:=rfl
 rw [hfn]
 cases lev with
 | int i =>
  have hw2:F_is_whole [.val (.int i)]=some (.val (.bl true)):=hw
  have l1:leD (.int 0) (.int i)=some (.bl (decide (0≤i))):=rfl
  have l2:leD (.int i) (.int ((p:Int)-2))=some (.bl (decide (i≤(p:Int)-2))):=rfl
  have l3:ltO (.int i) (.int ((p:Int)-1))=some (.bl (decide (i<(p:Int)-1))):=by simp
  have b1:isD [.int i,.ty "bool"]=some (.bl false):=rfl
  have b2:isD [.int i,.ty "int"]=some (.bl true):=rfl
  by_cases c1:0≤i
  ·rw [decide_eq_true c1] at l1
   by_cases c2:i≤(p:Int)-2
   ·rw [decide_eq_true c2] at l2
    rw [decide_eq_true (by omega)] at l3
    refine .inl ⟨i.toNat,by rw [Int.toNat_of_nonneg c1],by omega,?_,fun _ _ _ _ _=>?_⟩
    ·simp only [Z8,Zai,blO,ZaP,hw2,Z6,l1,w,s2e,l2,Zh,Zw,asB,Ze,sl3,rdP,rdV,rdA,Zm,Zb,Zi,Zr,ZB,Zq,ZK,pks,pk,asI,Zt,Zs,List.getElem?_cons_succ,List.getElem?_cons_zero,List.set_cons_succ,List.set_cons_zero,Option.bind,Option.map]
    ·simp only [Zag,orB,ZN,ZQ,ZaP,b1,b2,Bool.not_true,i0,n0,s1e,l1,l3,Zh,Zw,asB,Ze,sl3,rdP,rdV,rdA,Zm,Zb,Zi,Zr,ZB,Zq,ZK,pks,pk,asI,Zt,Zs,List.getElem?_cons_succ,List.getElem?_cons_zero,List.set_cons_succ,List.set_cons_zero,Option.bind,Option.map]
   ·rw [decide_eq_false c2] at l2
    rw [decide_eq_false (by omega)] at l3
    refine .inr ⟨?_,fun _ _ _ _ _=>?_⟩
    ·simp only [Z8,Zai,blO,ZaP,hw2,Z6,l1,w,s2e,l2,Zh,Zw,asB,Ze,sl3,rdP,rdV,rdA,Zm,Zb,Zi,Zr,ZB,Zq,ZK,pks,pk,asI,Zt,Zs,List.getElem?_cons_succ,List.getElem?_cons_zero,List.set_cons_succ,List.set_cons_zero,Option.bind,Option.map]
    ·simp only [Zag,orB,ZN,ZQ,ZaP,b1,b2,Bool.not_true,Bool.not_false,i0,n0,s1e,l1,l3,Zh,Zw,asB,Ze,sl3,rdP,rdV,rdA,Zm,Zb,Zi,Zr,ZB,Zq,ZK,pks,pk,asI,Zt,Zs,List.getElem?_cons_succ,List.getElem?_cons_zero,List.set_cons_succ,List.set_cons_zero,Option.bind,Option.map]
  ·rw [decide_eq_false c1] at l1
   refine .inr ⟨?_,fun _ _ _ _ _=>?_⟩
   ·simp only [Z8,Zai,blO,ZaP,hw2,Z6,l1,w,s2e,Zh,Zw,asB,Ze,sl3,rdP,rdV,rdA,Zm,Zb,Zi,Zr,ZB,Zq,ZK,pks,pk,asI,Zt,Zs,List.getElem?_cons_succ,List.getElem?_cons_zero,List.set_cons_succ,List.set_cons_zero,Option.bind,Option.map]
   ·simp only [Zag,orB,ZN,ZQ,ZaP,b1,b2,Bool.not_true,Bool.not_false,i0,n0,s1e,l1,Zh,Zw,asB,Ze,sl3,rdP,rdV,rdA,Zm,Zb,Zi,Zr,ZB,Zq,ZK,pks,pk,asI,Zt,Zs,List.getElem?_cons_succ,List.getElem?_cons_zero,List.set_cons_succ,List.set_cons_zero,Option.bind,Option.map]
 | bl x =>
  have hw2:F_is_whole [.val (.bl x)]=some (.val (.bl false)):=hw
  have b1:isD [.bl x,.ty "bool"]=some (.bl true):=rfl
  refine .inr ⟨?_,fun _ _ _ _ _=>?_⟩
  ·simp only [Z8,Zai,blO,hw2,Z6,Zh,Zw,asB,Ze,sl3,rdP,rdV,rdA,Zm,Zb,Zi,Zr,ZB,Zq,ZK,pks,pk,asI,Zt,Zs,List.getElem?_cons_succ,List.getElem?_cons_zero,List.set_cons_succ,List.set_cons_zero,Option.bind,Option.map]
  ·simp only [Zag,orB,ZQ,b1,Zh,Zw,asB,Ze,sl3,rdP,rdV,rdA,Zm,Zb,Zi,Zr,ZB,Zq,ZK,pks,pk,asI,Zt,Zs,List.getElem?_cons_succ,List.getElem?_cons_zero,List.set_cons_succ,List.set_cons_zero,Option.bind,Option.map]
 | ty x=>exact hv.elim
 | lst x fl =>
  cases fl with
  | true=>exact hv.elim
  | false =>
   have hw2:F_is_whole [.val (.lst x)]=some (.val (.bl false)):=hw
   have b1:isD [.lst x,.ty "bool"]=some (.bl false):=rfl
   have b2:isD [.lst x,.ty "int"]=some (.bl false):=rfl
   refine .inr ⟨?_,fun _ _ _ _ _=>?_⟩
   ·simp only [Z8,Zai,blO,hw2,Z6,Zh,Zw,asB,Ze,sl3,rdP,rdV,rdA,Zm,Zb,Zi,Zr,ZB,Zq,ZK,pks,pk,asI,Zt,Zs,List.getElem?_cons_succ,List.getElem?_cons_zero,List.set_cons_succ,List.set_cons_zero,Option.bind,Option.map]
   ·simp only [Zag,orB,ZN,ZQ,b1,b2,Bool.not_false,Zh,Zw,asB,Ze,sl3,rdP,rdV,rdA,Zm,Zb,Zi,Zr,ZB,Zq,ZK,pks,pk,asI,Zt,Zs,List.getElem?_cons_succ,List.getElem?_cons_zero,List.set_cons_succ,List.set_cons_zero,Option.bind,Option.map]
 | non =>
  have hw2:F_is_whole [.val (.non)]=some (.val (.bl false)):=hw
  have b1:isD [.non,.ty "bool"]=some (.bl false):=rfl
  have b2:isD [.non,.ty "int"]=some (.bl false):=rfl
  refine .inr ⟨?_,fun _ _ _ _ _=>?_⟩
  ·simp only [Z8,Zai,blO,hw2,Z6,Zh,Zw,asB,Ze,sl3,rdP,rdV,rdA,Zm,Zb,Zi,Zr,ZB,Zq,ZK,pks,pk,asI,Zt,Zs,List.getElem?_cons_succ,List.getElem?_cons_zero,List.set_cons_succ,List.set_cons_zero,Option.bind,Option.map]
  ·simp only [Zag,orB,ZN,ZQ,b1,b2,Bool.not_false,Zh,Zw,asB,Ze,sl3,rdP,rdV,rdA,Zm,Zb,Zi,Zr,ZB,Zq,ZK,pks,pk,asI,Zt,Zs,List.getElem?_cons_succ,List.getElem?_cons_zero,List.set_cons_succ,List.set_cons_zero,Option.bind,Option.map]
 | str x =>
  have hw2:F_is_whole [.val (.str x)]=some (.val (.bl false)):=hw
  have b1:isD [.str x,.ty "bool"]=some (.bl false):=rfl
  have b2:isD [.str x,.ty "int"]=some (.bl false):=rfl
  refine .inr ⟨?_,fun _ _ _ _ _=>?_⟩
  ·simp only [Z8,Zai,blO,hw2,Z6,Zh,Zw,asB,Ze,sl3,rdP,rdV,rdA,Zm,Zb,Zi,Zr,ZB,Zq,ZK,pks,pk,asI,Zt,Zs,List.getElem?_cons_succ,List.getElem?_cons_zero,List.set_cons_succ,List.set_cons_zero,Option.bind,Option.map]
  ·simp only [Zag,orB,ZN,ZQ,b1,b2,Bool.not_false,Zh,Zw,asB,Ze,sl3,rdP,rdV,rdA,Zm,Zb,Zi,Zr,ZB,Zq,ZK,pks,pk,asI,Zt,Zs,List.getElem?_cons_succ,List.getElem?_cons_zero,List.set_cons_succ,List.set_cons_zero,Option.bind,Option.map]
 | tup x =>
  have hw2:F_is_whole [.val (.tup x)]=some (.val (.bl false)):=hw
  have b1:isD [.tup x,.ty "bool"]=some (.bl false):=rfl
  have b2:isD [.tup x,.ty "int"]=some (.bl false):=rfl
  refine .inr ⟨?_,fun _ _ _ _ _=>?_⟩
  ·simp only [Z8,Zai,blO,hw2,Z6,Zh,Zw,asB,Ze,sl3,rdP,rdV,rdA,Zm,Zb,Zi,Zr,ZB,Zq,ZK,pks,pk,asI,Zt,Zs,List.getElem?_cons_succ,List.getElem?_cons_zero,List.set_cons_succ,List.set_cons_zero,Option.bind,Option.map]
  ·simp only [Zag,orB,ZN,ZQ,b1,b2,Bool.not_false,Zh,Zw,asB,Ze,sl3,rdP,rdV,rdA,Zm,Zb,Zi,Zr,ZB,Zq,ZK,pks,pk,asI,Zt,Zs,List.getElem?_cons_succ,List.getElem?_cons_zero,List.set_cons_succ,List.set_cons_zero,Option.bind,Option.map]
def FN (ls:List (List At)):Prop:=∀ l∈ls,∀ l2∈ls,∀ (m:Nat) (x:At),l[m]?=some x→l2[m]?=some x→l.drop (m+1)=l2.drop (m+1)
theorem Zpl (ls:List (List At)):Func (ls.flatMap (Za3 0))↔FN ls:=by
 constructor
 ·intro h l hl l2 hl2 m x e1 e2
  exact h (m,x) _ _ (List.mem_flatMap.mpr ⟨l,hl,(ZbQ l 0 _).mpr ⟨m,by simp,e1,rfl⟩⟩) (List.mem_flatMap.mpr ⟨l2,hl2,(ZbQ l2 0 _).mpr ⟨m,by simp,e2,rfl⟩⟩)
 ·intro h k t t' h1 h2
  obtain ⟨l,hl,h1⟩:=List.mem_flatMap.mp h1
  obtain ⟨l2,hl2,h2⟩:=List.mem_flatMap.mp h2
  obtain ⟨m,a1,a2,a3⟩:=(ZbQ l 0 _).mp h1
  obtain ⟨m',b1,b2,b3⟩:=(ZbQ l2 0 _).mp h2
  dsimp only at a1 a2 a3 b1 b2 b3
  have hm:m=m':=by omega
  subst hm
  rw [a3,b3]
  exact h l hl l2 hl2 m k.2 a2 b2
theorem ZlX {ls:List (List At)} {p:Nat} (hlen:∀ l∈ls,l.length=p) (hp:0<p):goT ls=true↔(ls.map hd).Nodup∧FN ls:=by
 cases ls with
 | nil=>simp [goT,FN]
 | cons l0 ls =>
  have hne:∀ l∈l0::ls,l≠[]:=fun l hl z=>by
   have:=hlen l hl
   rw [z] at this;simp at this;omega
  have h0:=hlen l0 List.mem_cons_self
  show goP l0.length [] [] (l0::ls)=true↔_
  rw [Zjz,Zeg (Za3 0) _ _ _ _ List.nodup_nil ZfE hne,h0,List.nil_append,List.nil_append,Zpl]
  exact ⟨fun z=>z.2,fun z=>⟨hlen,z⟩⟩
def chg (j:Nat) (a:At) (R:List At) (l:List At):List At:=if l.getD j .non=a then l.take (j+1)++R else l
theorem Zls {j:Nat} {a:At} {R l:List At} (h:j<l.length) {m:Nat} (hm:m≤j):(chg j a R l)[m]?=l[m]?:=by
 unfold chg
 split
 ·rw [List.getElem?_append_left (by rw [List.length_take];omega),List.getElem?_take]
  rw [if_pos (by omega)]
 ·rfl
theorem ZkB {j:Nat} {a:At} {r0 l:List At} (h:j<l.length):∃ r,(r=r0∨r=l)∧(chg j a (r0.drop (j+1)) l).drop (j+1)=r.drop (j+1):=by
 unfold chg
 split
 ·refine ⟨r0,.inl rfl,?_⟩
  rw [List.drop_append_of_le_length (by rw [List.length_take];omega),List.drop_eq_nil_of_le (by rw [List.length_take];omega),List.nil_append]
 ·exact ⟨l,.inr rfl,rfl⟩
theorem ZhP {l r:List At} {n m:Nat} (hm:n≤m) (e:l.drop n=r.drop n):l[m]?=r[m]?∧l.drop (m+1)=r.drop (m+1):=by
 obtain ⟨k,rfl⟩:∃ k,m=n+k:=⟨m-n,by omega⟩
 constructor
 ·rw [← List.getElem?_drop,← List.getElem?_drop,e]
 ·have h:=congrArg (List.drop (k+1)) e
  simp only [List.drop_drop] at h
  exact h
theorem ZqS {ls:List (List At)} {p j:Nat} (hlen:∀ l∈ls,l.length=p) (hj:j+1<p) (a:At) (r0:List At) (hr:r0∈ls) (h:FN ls):FN (ls.map (chg j a (r0.drop (j+1)))):=by
 intro c hc c2 hc2 m x e1 e2
 obtain ⟨l,hl,rfl⟩:=List.mem_map.mp hc
 obtain ⟨l2,hl2,rfl⟩:=List.mem_map.mp hc2
 have q1:=hlen l hl
 have q2:=hlen l2 hl2
 by_cases hm:m≤j
 ·rw [Zls (by omega) hm] at e1 e2
  have e:=h l hl l2 hl2 m x e1 e2
  have hg:l.getD j .non=l2.getD j .non:=by
   simp only [List.getD]
   by_cases hmj:m=j
   ·subst hmj;rw [e1,e2]
   ·rw [(ZhP (show m+1≤j by omega) e).1]
  unfold chg
  rw [hg]
  split
  ·rw [List.drop_append_of_le_length (by rw [List.length_take];omega),List.drop_append_of_le_length (by rw [List.length_take];omega),List.drop_take,List.drop_take,e]
  ·exact e
 ·obtain ⟨r,hr1,d1⟩:=ZkB (a:=a) (r0:=r0) (l:=l) (j:=j) (by omega)
  obtain ⟨r2,hr2,d2⟩:=ZkB (a:=a) (r0:=r0) (l:=l2) (j:=j) (by omega)
  have m1:r∈ls:=by rcases hr1 with rfl | rfl<;>assumption
  have m2:r2∈ls:=by rcases hr2 with rfl | rfl<;>assumption
  obtain ⟨g1,g2⟩:=ZhP (show j+1≤m by omega) d1
  obtain ⟨g3,g4⟩:=ZhP (show j+1≤m by omega) d2
  rw [g2,g4]
  rw [g1] at e1
  rw [g3] at e2
  exact h r m1 r2 m2 m x e1 e2
theorem Zna (l:List At):hd l=(l[0]?).getD .non:=by cases l<;>rfl
theorem Zsy {ls:List (List At)} {p j:Nat} (h:Ld p ls) (hj:j+1<p) (a:At) (r0:List At) (hr:r0∈ls):Ld p (ls.map (chg j a (r0.drop (j+1)))):=by
 have hlen:∀ l∈ls.map (chg j a (r0.drop (j+1))),l.length=p:=fun c hc=>by
  obtain ⟨l,hl,rfl⟩:=List.mem_map.mp hc
  have q1:=h.len l hl
  have q2:=h.len r0 hr
  unfold chg
  split
  ·rw [List.length_append,List.length_take,List.length_drop];omega
  ·exact q1
 refine ⟨by simpa using h.one,by simpa using h.top,hlen,fun c hc x hx=>?_,?_⟩
 ·obtain ⟨l,hl,rfl⟩:=List.mem_map.mp hc
  unfold chg at hx
  split at hx
  ·rcases List.mem_append.mp hx with hx | hx
   ·exact h.vs l hl x (List.mem_of_mem_take hx)
   ·exact h.vs r0 hr x (List.mem_of_mem_drop hx)
  ·exact h.vs l hl x hx
 ·obtain ⟨g1,g2⟩:=(ZlX h.len (by omega)).mp h.go
  refine (ZlX hlen (by omega)).mpr ⟨?_,ZqS h.len hj a r0 hr g2⟩
  rw [List.map_map,show ls.map (hd∘chg j a (r0.drop (j+1)))=ls.map hd from List.map_congr_left fun l hl=>by
   show hd (chg j a (r0.drop (j+1)) l)=hd l
   rw [Zna,Zna,Zls (by have:=h.len l hl;omega) (Nat.zero_le _)]]
  exact g1
theorem Zku (l:List At) (n:Nat):slD (lnD l) none (some (n:Int))=some (lnD (l.take n)):=by
 show some (D.tup (cutD (l.map aD) none (some (n:Int))))=_
 rw [Zfy,Zr8 _ _ (by omega)];rfl
theorem Zic (l:List At) (n:Nat):slD (lnD l) (some (n:Int)) none=some (lnD (l.drop n)):=by
 show some (D.tup (cutD (l.map aD) (some (n:Int)) none))=_
 rw [Zfy,ZhJ _ _ (by omega)];rfl
theorem Znh (l r:List At) (h:l.length+r.length≤1000):ZD (lnD l) (lnD r)=some (lnD (l++r)):=by
 show ZD (.tup (l.map aD)) (.tup (r.map aD))=_
 rw [Zke _ _ (by simp;omega),← List.map_append];rfl
theorem Zhz (j:Nat):ZD (.int (j:Int)) (.int 1)=some (.int ((j+1:Nat):Int)):=rfl
theorem Zrg {p:Nat} {ls:List (List At)} (h:Ld p ls) (hp4:p≤4) (j:Nat) (hj:j+2≤p) (a b:At) (r0:List At) (fs:List (List At)) (hf:ls.filter (fun l=>decide (l.getD (j+1) .non=b))=r0::fs) :
  ZdT [.val (.lst (ls.map lnD)),.val (.int (j:Int)),.val (aD a),.val (aD b),.no]=.ret (.own ((ls.map (chg j a (r0.drop (j+1)))).map lnD)):=by
 have q1:ZC (some (ls.map lnD))=some (ls.map lnD):=Zaf _ (by have:=h.top;simp;omega)
 have hr:r0∈ls:=(List.mem_filter.mp (by rw [hf];exact List.mem_cons_self:r0∈ls.filter _)).1
 have hr4:=h.len r0 hr
 have hc:=Zdl (b:=Zv 0) (t:=ZdK) (e:=ZdR) (ρ:=[.no,.val (.int (j:Int)),.val (aD b)]) lnD (fun l=>lnD (l.drop (j+1))) (fun l=>decide (l.getD (j+1) .non=b)) ls fun l hm=>⟨[.val (lnD l),.val (.int (j:Int)),.val (aD b)],rfl,by
  have h1:=Zir l (j+1) (by rw [h.len l hm];omega)
  have h2:=Zgm (l.getD (j+1) .non) b
  have a1:=Zhz j
  simp only [ZdK,a1,h1,h2,Zh,Zw,asB,Ze,sl3,rdP,rdV,rdA,Zm,Zb,Zi,Zr,ZB,Zq,ZK,pks,pk,asI,Zt,Zs,List.getElem?_cons_succ,List.getElem?_cons_zero,List.set_cons_succ,List.set_cons_zero,Option.bind,Option.map],by
  have h1:=Zic l (j+1)
  have a1:=Zhz j
  simp only [ZdR,a1,h1,Zh,Zw,asB,Ze,sl3,rdP,rdV,rdA,Zm,Zb,Zi,Zr,ZB,Zq,ZK,pks,pk,asI,Zt,Zs,List.getElem?_cons_succ,List.getElem?_cons_zero,List.set_cons_succ,List.set_cons_zero,Option.bind,Option.map]⟩
 rw [hf,List.map_cons] at hc
 have i0:ixD (.lst (lnD (r0.drop (j+1))::fs.map fun l=>lnD (l.drop (j+1)))) (.int 0)=some (lnD (r0.drop (j+1))):=by simp [atI,ixN]
 have hc2:=ZaU (b:=Zv 0) (e:=ZcU) (ρ:=[.no,.val (.int (j:Int)),.val (aD a),.val (lnD (r0.drop (j+1)))]) lnD (fun l=>lnD (chg j a (r0.drop (j+1)) l)) ls fun l hm=>⟨[.val (lnD l),.val (.int (j:Int)),.val (aD a),.val (lnD (r0.drop (j+1)))],rfl,by
  have hl:=h.len l hm
  have h1:=Zir l j (by omega)
  have h2:=Zgm (l.getD j .non) a
  have a1:=Zhz j
  have h3:=Zku l (j+1)
  have h4:=Znh (l.take (j+1)) (r0.drop (j+1)) (by rw [List.length_take,List.length_drop];omega)
  unfold chg
  by_cases hc:l.getD j .non=a
  ·rw [decide_eq_true hc] at h2
   rw [if_pos hc]
   simp only [ZcU,ZiB,a1,h1,h2,h3,h4,Zh,Zw,asB,Ze,sl3,rdP,rdV,rdA,Zm,Zb,Zi,Zr,ZB,Zq,ZK,pks,pk,asI,Zt,Zs,List.getElem?_cons_succ,List.getElem?_cons_zero,List.set_cons_succ,List.set_cons_zero,Option.bind,Option.map]
  ·rw [decide_eq_false hc] at h2
   rw [if_neg hc]
   simp only [ZcU,ZiB,a1,h1,h2,h3,h4,Zh,Zw,asB,Ze,sl3,rdP,rdV,rdA,Zm,Zb,Zi,Zr,ZB,Zq,ZK,pks,pk,asI,Zt,Zs,List.getElem?_cons_succ,List.getElem?_cons_zero,List.set_cons_succ,List.set_cons_zero,Option.bind,Option.map]⟩
 rw [show (ls.map (chg j a (r0.drop (j+1)))).map lnD=ls.map (fun l=>lnD (chg j a (r0.drop (j+1)) l)) by rw [List.map_map];rfl]
 generalize ls.map (fun l=>lnD (chg j a (r0.drop (j+1)) l))=LC at *
 generalize (fs.map fun l=>lnD (l.drop (j+1)))=FS at *
 generalize lnD (r0.drop (j+1))=R at *
 generalize ls.map lnD=L at *
 have hin1:Z9 1 [1,3] [.val (.lst L),.val (.int (j:Int)),.val (aD a),.val (aD b),.no]=[.no,.val (.int (j:Int)),.val (aD b)]:=rfl
 have hin2:Z9 1 [1,2,4] [.val (.lst L),.val (.int (j:Int)),.val (aD a),.val (aD b),.val R]=[.no,.val (.int (j:Int)),.val (aD a),.val R]:=rfl
 simp only [ZdT,ZfU,Zf8,ZfS,Zaj,hin1,hin2,rdQ,ZP,q1,hc,hc2,i0,Zbs,Zh,Zw,asB,Ze,sl3,rdP,rdV,rdA,Zm,Zb,Zi,Zr,ZB,Zq,ZK,pks,pk,asI,Zt,Zs,List.getElem?_cons_succ,List.getElem?_cons_zero,List.set_cons_succ,List.set_cons_zero,Option.bind,Option.map]
theorem ZlW {p:Nat} (s0 s3:Sl) (j:Nat) (hj:j+2≤p) (hp4:p≤4) (a:At) (R:List At) (hR:R.length≤4):∀ (ms acc:List (List At)) (s6:Sl),(∀ l∈ms,l.length=p)→acc.length+ms.length≤1000→∃ s6',ZV (Zv 6) ZcN (ms.map lnD) [s0,.val (.int (j:Int)),.val (aD a),s3,.val (lnD R),.own (acc.map lnD),s6]=.next [s0,.val (.int (j:Int)),.val (aD a),s3,.val (lnD R),.own ((acc++ms.map (chg j a R)).map lnD),s6']
 | [],acc,s6,_,_=>⟨s6,by simp [ZV]⟩
 | l::ms,acc,s6,hm,hz=>by
  simp only [List.length_cons] at hz
  have hl:=hm l List.mem_cons_self
  obtain ⟨s6',e⟩:=ZlW s0 s3 j hj hp4 a R hR ms (acc++[chg j a R l]) (.val (lnD l)) (fun x hx=>hm x (List.mem_cons_of_mem _ hx)) (by simp;omega)
  refine ⟨s6',?_⟩
  have h1:=Zir l j (by omega)
  have h2:=Zgm (l.getD j .non) a
  have a1:=Zhz j
  have h3:=Zku l (j+1)
  have h4:=Znh (l.take (j+1)) R (by rw [List.length_take];omega)
  have hzl:(acc.map lnD).length<sizeLine:=Nat.lt_of_lt_of_le (show (acc.map lnD).length<1000 by simp;omega) (by decide)
  have hb:ZcN [s0,.val (.int (j:Int)),.val (aD a),s3,.val (lnD R),.own (acc.map lnD),.val (lnD l)]=.next [s0,.val (.int (j:Int)),.val (aD a),s3,.val (lnD R),.own (acc.map lnD++[lnD (chg j a R l)]),.val (lnD l)]:=by
   unfold chg
   by_cases hc:l.getD j .non=a
   ·rw [decide_eq_true hc] at h2
    rw [if_pos hc]
    simp only [ZcN,ZbN,rdO,hzl,if_true,a1,h1,h2,h3,h4,Zh,Zw,asB,Ze,sl3,rdP,rdV,rdA,Zm,Zb,Zi,Zr,ZB,Zq,ZK,pks,pk,asI,Zt,Zs,List.getElem?_cons_succ,List.getElem?_cons_zero,List.set_cons_succ,List.set_cons_zero,Option.bind,Option.map]
   ·rw [decide_eq_false hc] at h2
    rw [if_neg hc]
    simp only [ZcN,ZbN,rdO,hzl,if_true,a1,h1,h2,h3,h4,Zh,Zw,asB,Ze,sl3,rdP,rdV,rdA,Zm,Zb,Zi,Zr,ZB,Zq,ZK,pks,pk,asI,Zt,Zs,List.getElem?_cons_succ,List.getElem?_cons_zero,List.set_cons_succ,List.set_cons_zero,Option.bind,Option.map]
  simp only [List.map_cons,ZV,Zv,List.set_cons_succ,List.set_cons_zero]
  rw [hb]
  rw [List.append_assoc,List.map_append] at e
  simpa using e
theorem Zpt {p:Nat} {ls:List (List At)} (h:Ld p ls) (hp4:p≤4) (j:Nat) (hj:j+2≤p) (a b:At) (r0:List At) (fs:List (List At)) (hf:ls.filter (fun l=>decide (l.getD (j+1) .non=b))=r0::fs) :
  ZeO [.val (.lst (ls.map lnD)),.val (.int (j:Int)),.val (aD a),.val (aD b),.no,.no,.no]=.ret (.own ((ls.map (chg j a (r0.drop (j+1)))).map lnD)):=by
 have q1:ZC (some (ls.map lnD))=some (ls.map lnD):=Zaf _ (by have:=h.top;simp;omega)
 have hr:r0∈ls:=(List.mem_filter.mp (by rw [hf];exact List.mem_cons_self:r0∈ls.filter _)).1
 have hr4:=h.len r0 hr
 have hc:=Zdl (b:=Zv 0) (t:=ZeL) (e:=ZeP) (ρ:=[.no,.val (.int (j:Int)),.val (aD b)]) lnD lnD (fun l=>decide (l.getD (j+1) .non=b)) ls fun l hm=>⟨[.val (lnD l),.val (.int (j:Int)),.val (aD b)],rfl,by
  have h1:=Zir l (j+1) (by rw [h.len l hm];omega)
  have h2:=Zgm (l.getD (j+1) .non) b
  have a1:=Zhz j
  simp only [ZeL,a1,h1,h2,Zh,Zw,asB,Ze,sl3,rdP,rdV,rdA,Zm,Zb,Zi,Zr,ZB,Zq,ZK,pks,pk,asI,Zt,Zs,List.getElem?_cons_succ,List.getElem?_cons_zero,List.set_cons_succ,List.set_cons_zero,Option.bind,Option.map],by
  simp only [ZeP,Zh,Zw,asB,Ze,sl3,rdP,rdV,rdA,Zm,Zb,Zi,Zr,ZB,Zq,ZK,pks,pk,asI,Zt,Zs,List.getElem?_cons_succ,List.getElem?_cons_zero,List.set_cons_succ,List.set_cons_zero,Option.bind,Option.map]⟩
 rw [hf,List.map_cons] at hc
 have i0:ixD (.lst (lnD r0::fs.map lnD)) (.int 0)=some (lnD r0):=by simp [atI,ixN]
 have h3:=Zic r0 (j+1)
 have a1:=Zhz j
 obtain ⟨s6',e⟩:=ZlW (p:=p) (.val (.lst (ls.map lnD))) (.val (aD b)) j hj hp4 a (r0.drop (j+1)) (by rw [List.length_drop];omega) ls [] .no h.len (by have:=h.top;simp;omega)
 rw [List.nil_append,List.map_nil] at e
 generalize (ls.map (chg j a (r0.drop (j+1)))).map lnD=LC at *
 generalize fs.map lnD=FS at *
 generalize lnD (r0.drop (j+1))=R at *
 generalize lnD r0=R0 at *
 generalize ls.map lnD=L at *
 have hin1:Z9 1 [1,3] [.val (.lst L),.val (.int (j:Int)),.val (aD a),.val (aD b),.no,.no,.no]=[.no,.val (.int (j:Int)),.val (aD b)]:=rfl
 have hsh:ZC (some ([]:List D))=some []:=rfl
 simp only [ZeO,Zhg,Zhh,Zho,Zhi,Zhn,Zhs,Zhf,Zaj,hin1,rdQ,ZP,q1,hc,i0,a1,h3,ZaQ,hsh,Zbu,e,rdO,Zbs,Zh,Zw,asB,Ze,sl3,rdP,rdV,rdA,Zm,Zb,Zi,Zr,ZB,Zq,ZK,pks,pk,asI,Zt,Zs,List.getElem?_cons_succ,List.getElem?_cons_zero,List.set_cons_succ,List.set_cons_zero,Option.bind,Option.map]
theorem Zqy {p:Nat} {ls:List (List At)} (h:Ld p ls) (hp4:p≤4) (lev v par:D) (h1:Sm lev) (h2:Sm v) (h3:Sm par) :
  (F_law_due [.val (.lst (ls.map lnD)),.val lev,.val v,.val par]=some (.val .non)∧Zbq [.val (.lst (ls.map lnD)),.val lev,.val v,.val par]=some ("NoValue":Str)) ∨
  ∃ ls',Ld p ls'∧F_law_due [.val (.lst (ls.map lnD)),.val lev,.val v,.val par]=some (.own (ls'.map lnD))∧Zbq [.val (.lst (ls.map lnD)),.val lev,.val v,.val par]=none∧F_regrouped [.val (.lst (ls.map lnD)),.val lev,.val v,.val par]=some (.own (ls'.map lnD)):=by
 have hfx:Zbq [.val (.lst (ls.map lnD)),.val lev,.val v,.val par]=Zbo [.val (.lst (ls.map lnD)),.val lev,.val v,.val par,.no]:=rfl
 have hfr:F_regrouped [.val (.lst (ls.map lnD)),.val lev,.val v,.val par]=match ZdP [.val (.lst (ls.map lnD)),.val lev,.val v,.val par,.no] with
  | .ret r=>some r
  | .next _=>some (.val .non)
  | _=>none:=rfl
 have hfd:F_law_due [.val (.lst (ls.map lnD)),.val lev,.val v,.val par]=match Zb4 [.val (.lst (ls.map lnD)),.val lev,.val v,.val par,.no,.no,.no] with
  | .ret r=>some r
  | .next _=>some (.val .non)
  | _=>none:=rfl
 rw [hfx,hfr,hfd]
 rcases Zr9 h lev h1 with ⟨j,rfl,hj,hp,hd0⟩ | ⟨hp,hd0⟩
 ·have hd:=hd0 (.val v) (.val par) .no .no .no
  have a1:=Zhz j
  obtain ⟨b1,p1,t1,c1⟩:=ZmM h hp4 j (by omega) v h2
  obtain ⟨b2,p2,t2,c2⟩:=ZmM h hp4 (j+1) (by omega) par h3
  cases b1 with
  | false =>
   refine .inl ⟨?_,?_⟩
   ·generalize ls.map lnD=L at *
    simp only [Zb4,ZdC,ZdD,hd,orB,ZN,ZQ,t1,Z6,Bool.not_false,Zh,Zw,asB,Ze,sl3,rdP,rdV,rdA,Zm,Zb,Zi,Zr,ZB,Zq,ZK,pks,pk,asI,Zt,Zs,List.getElem?_cons_succ,List.getElem?_cons_zero,List.set_cons_succ,List.set_cons_zero,Option.bind,Option.map]
   ·generalize ls.map lnD=L at *
    simp only [Zbo,orX,ZgX,nxO,ZgO,ZN,ZQ,hp,p1,Z6,Bool.not_false,Bool.not_true,Zh,Zw,asB,Ze,sl3,rdP,rdV,rdA,Zm,Zb,Zi,Zr,ZB,Zq,ZK,pks,pk,asI,Zt,Zs,List.getElem?_cons_succ,List.getElem?_cons_zero,List.set_cons_succ,List.set_cons_zero,Option.bind,Option.map]
  | true =>
   cases b2 with
   | false =>
    refine .inl ⟨?_,?_⟩
    ·generalize ls.map lnD=L at *
     simp only [Zb4,ZdC,ZdD,hd,orB,ZN,ZQ,t1,a1,t2,Z6,Bool.not_false,Bool.not_true,Zh,Zw,asB,Ze,sl3,rdP,rdV,rdA,Zm,Zb,Zi,Zr,ZB,Zq,ZK,pks,pk,asI,Zt,Zs,List.getElem?_cons_succ,List.getElem?_cons_zero,List.set_cons_succ,List.set_cons_zero,Option.bind,Option.map]
    ·generalize ls.map lnD=L at *
     simp only [Zbo,orX,ZgX,nxO,ZgO,ZN,ZQ,hp,p1,a1,p2,Z6,Bool.not_false,Bool.not_true,Zh,Zw,asB,Ze,sl3,rdP,rdV,rdA,Zm,Zb,Zi,Zr,ZB,Zq,ZK,pks,pk,asI,Zt,Zs,List.getElem?_cons_succ,List.getElem?_cons_zero,List.set_cons_succ,List.set_cons_zero,Option.bind,Option.map]
   | true =>
    obtain ⟨a,rfl,_⟩:=c1.mp rfl
    obtain ⟨b,rfl,l,hl,hlb⟩:=c2.mp rfl
    obtain ⟨r0,fs,hf⟩:∃ r0 fs,ls.filter (fun l=>decide (l.getD (j+1) .non=b))=r0::fs:=by
     cases hq:ls.filter (fun l=>decide (l.getD (j+1) .non=b)) with
     | nil =>
      have:l∈ls.filter (fun l=>decide (l.getD (j+1) .non=b)):=List.mem_filter.mpr ⟨hl,by simpa using hlb⟩
      rw [hq] at this;cases this
     | cons r0 fs=>exact ⟨r0,fs,rfl⟩
    have hr:r0∈ls:=(List.mem_filter.mp (by rw [hf];exact List.mem_cons_self:r0∈ls.filter _)).1
    have e1:=Zrg h hp4 j hj a b r0 fs hf
    have e2:=Zpt h hp4 j hj a b r0 fs hf
    refine .inr ⟨_,Zsy (j:=j) h (by omega) a r0 hr,?_,?_,?_⟩
    ·generalize (ls.map (chg j a (r0.drop (j+1)))).map lnD=LC at *
     generalize ls.map lnD=L at *
     simp only [Zb4,ZdC,ZdD,hd,orB,ZN,ZQ,t1,a1,t2,Z6,Bool.not_true,e2,Zh,Zw,asB,Ze,sl3,rdP,rdV,rdA,Zm,Zb,Zi,Zr,ZB,Zq,ZK,pks,pk,asI,Zt,Zs,List.getElem?_cons_succ,List.getElem?_cons_zero,List.set_cons_succ,List.set_cons_zero,Option.bind,Option.map]
    ·generalize ls.map lnD=L at *
     simp only [Zbo,orX,ZgX,nxO,ZgO,ZN,ZQ,hp,p1,a1,p2,Z6,Bool.not_true,Zh,Zw,asB,Ze,sl3,rdP,rdV,rdA,Zm,Zb,Zi,Zr,ZB,Zq,ZK,pks,pk,asI,Zt,Zs,List.getElem?_cons_succ,List.getElem?_cons_zero,List.set_cons_succ,List.set_cons_zero,Option.bind,Option.map]
    ·generalize (ls.map (chg j a (r0.drop (j+1)))).map lnD=LC at *
     generalize ls.map lnD=L at *
     simp only [ZdP,Zgd,Zf0,Zgb,Zf6,ZfW,ZN,ZQ,hp,p1,a1,p2,Z6,Bool.not_true,e1,Zh,Zw,asB,Ze,sl3,rdP,rdV,rdA,Zm,Zb,Zi,Zr,ZB,Zq,ZK,pks,pk,asI,Zt,Zs,List.getElem?_cons_succ,List.getElem?_cons_zero,List.set_cons_succ,List.set_cons_zero,Option.bind,Option.map]
 ·have hd:=hd0 (.val v) (.val par) .no .no .no
  refine .inl ⟨?_,?_⟩
  ·generalize ls.map lnD=L at *
   simp only [Zb4,hd,Zh]
  ·generalize ls.map lnD=L at *
   simp only [Zbo,orX,ZgX,nxO,ZgO,ZN,ZQ,hp,Z6,Bool.not_false,Zh,Zw,asB,Ze,sl3,rdP,rdV,rdA,Zm,Zb,Zi,Zr,ZB,Zq,ZK,pks,pk,asI,Zt,Zs,List.getElem?_cons_succ,List.getElem?_cons_zero,List.set_cons_succ,List.set_cons_zero,Option.bind,Option.map]
theorem ZkO (x k:Int) (q1:0<k) (q2:k<1000000000):ZaB (.int x) (.int k)=some (.int (x / k)):=by
 show (if Zcn x k then some (D.int (x / k)) else none)=_
 rw [if_pos ⟨q1,by omega⟩]
theorem Zkz (c:Int) (v:D):∃ d,F_law_odd [.val (.int c),.val v]=some (.val d)∧Sm d:=by
 obtain ⟨d,e,hd⟩:=Zh1 (xs:=[D.non,.bl true,.bl false,.str "",.int (c%10^30),.str "nobody",.tup [v],.lst [v],.int (-1),.str "0"]) (i:=c%10) (by omega) (by simp only [List.length_cons,List.length_nil];omega)
 have pw:ZjO (.int 10) (.int 30)=some (.int (10^30)):=by simp [ZfI]
 have md:=Za2 c (10^30) (by decide)
 have m10:=Za2 c 10 (by decide)
 have h1:ZC (some [v])=some [v]:=Zaf _ (by simp)
 have h2:ZC (some [D.non,.bl true,.bl false,.str "",.int (c%10^30),.str "nobody",.tup [v],.lst [v],.int (-1),.str "0"])=some [D.non,.bl true,.bl false,.str "",.int (c%10^30),.str "nobody",.tup [v],.lst [v],.int (-1),.str "0"]:=Zaf _ (by simp)
 have ng:Zfn (some (.int 1))=some (.int (-1)):=rfl
 have ix:ixD (.lst [D.non,.bl true,.bl false,.str "",.int (c%10^30),.str "nobody",.tup [v],.lst [v],.int (-1),.str "0"]) (.int (c%10))=some d:=e
 have hsd:Sm d:=by
  simp only [List.mem_cons,List.not_mem_nil,or_false] at hd
  have z0:(Str.ofString "").length≤100:=by decide +kernel
  have z1:(Str.ofString "nobody").length≤100:=by decide +kernel
  have z2:(Str.ofString "0").length≤100:=by decide +kernel
  rcases hd with rfl | rfl | rfl | rfl | rfl | rfl | rfl | rfl | rfl | rfl
  ·trivial
  ·trivial
  ·trivial
  ·exact z0
  ·trivial
  ·exact z1
  ·trivial
  ·trivial
  ·trivial
  ·exact z2
 refine ⟨d,?_,hsd⟩
 generalize c%10^30=r30 at *
 generalize (10:Int)^30=tt at *
 refine ZbF rfl ?_
 show ZeG [.val (.int c),.val v,.no]=_
 simp only [ZeG,pw,md,h1,h2,ng,m10,ix,Zh,Zw,asB,Ze,sl3,rdP,rdV,rdA,Zm,Zb,Zi,Zr,ZB,Zq,ZK,pks,pk,asI,Zt,Zs,List.getElem?_cons_succ,List.getElem?_cons_zero,List.set_cons_succ,List.set_cons_zero,Option.bind,Option.map]
theorem Zni {p:Nat} {ls:List (List At)} (h:Ld p ls) (hp0:0<p) (l:List At) (hl:l∈ls) (i:Int):∃ m k d,Zh3 [.int i,.int 0]=some (.int m)∧ZhX [.int m,.int ((p:Int)-1)]=some (.int k)∧ixD (lnD l) (.int k)=some d∧Sm d:=by
 have hk:∃ k:Nat,(if (p:Int)-1<(if 0 > i then 0 else i) then (p:Int)-1 else (if 0 > i then 0 else i))=(k:Int)∧k<p:=by
  refine ⟨(if (p:Int)-1<(if 0 > i then 0 else i) then (p:Int)-1 else (if 0 > i then 0 else i)).toNat,?_,?_⟩<;>split<;>split<;>omega
 obtain ⟨k,ek,hkp⟩:=hk
 have hlk:k<l.length:=by rw [h.len l hl];exact hkp
 refine ⟨_,(k:Int),aD (l.getD k .non),rfl,?_,Zir l k hlk,(h.vs l hl _ (ZhA hlk)).2⟩
 rw [← ek];rfl
theorem Zm0 (c way:Int) (L lev v par:D) (s3 s4:Sl) (h1:Sm lev) (h2:Sm v) (h3:Sm par):∃ lev' v' par',ZaN [.val (.int c),.val L,.val lev,s3,s4,.val v,.val par,.val (.int way)]=.ret (.val (.tup [lev',v',par']))∧Sm lev'∧Sm v'∧Sm par':=by
 have d2:=ZkO c 240000 (by omega) (by omega)
 have e1:=Ze3 way 1
 have e2:=Ze3 way 2
 have e3:=Ze3 way 3
 have e4:=Ze3 way 4
 obtain ⟨o1,q1,r1⟩:=Zkz (c / 240000) lev
 obtain ⟨o2,q2,r2⟩:=Zkz (c / 240000) v
 obtain ⟨o3,q3,r3⟩:=Zkz (c / 240000) par
 have sh:∀ a b c:D,ZC (some [a,b,c])=some [a,b,c]:=fun _ _ _=>Zaf _ (by simp)
 by_cases w1:way=1
 ·rw [decide_eq_true w1] at e1
  rw [decide_eq_false (by omega)] at e2 e3 e4
  refine ⟨o1,v,par,?_,r1,h2,h3⟩
  simp only [ZaN,Za4,Za5,Zba,Zbe,Zbb,Za8,Zbd,ZaV,ZaX,e1,e2,e3,e4,d2,q1,Z6,sh,Zh,Zw,asB,Ze,sl3,rdP,rdV,rdA,Zm,Zb,Zi,Zr,ZB,Zq,ZK,pks,pk,asI,Zt,Zs,List.getElem?_cons_succ,List.getElem?_cons_zero,List.set_cons_succ,List.set_cons_zero,Option.bind,Option.map]
 ·rw [decide_eq_false w1] at e1
  by_cases w2:way=2
  ·rw [decide_eq_true w2] at e2
   rw [decide_eq_false (by omega)] at e3 e4
   refine ⟨lev,o2,par,?_,h1,r2,h3⟩
   simp only [ZaN,Za4,Za5,Zba,Zbe,Zbb,Za8,Zbd,ZaV,ZaX,e1,e2,e3,e4,d2,q2,Z6,sh,Zh,Zw,asB,Ze,sl3,rdP,rdV,rdA,Zm,Zb,Zi,Zr,ZB,Zq,ZK,pks,pk,asI,Zt,Zs,List.getElem?_cons_succ,List.getElem?_cons_zero,List.set_cons_succ,List.set_cons_zero,Option.bind,Option.map]
  ·rw [decide_eq_false w2] at e2
   by_cases w3:way=3
   ·rw [decide_eq_true w3] at e3
    rw [decide_eq_false (by omega)] at e4
    refine ⟨lev,v,o3,?_,h1,h2,r3⟩
    simp only [ZaN,Za4,Za5,Zba,Zbe,Zbb,Za8,Zbd,ZaV,ZaX,e1,e2,e3,e4,d2,q3,Z6,sh,Zh,Zw,asB,Ze,sl3,rdP,rdV,rdA,Zm,Zb,Zi,Zr,ZB,Zq,ZK,pks,pk,asI,Zt,Zs,List.getElem?_cons_succ,List.getElem?_cons_zero,List.set_cons_succ,List.set_cons_zero,Option.bind,Option.map]
   ·rw [decide_eq_false w3] at e3
    by_cases w4:way=4
    ·rw [decide_eq_true w4] at e4
     refine ⟨lev,v,v,?_,h1,h2,h2⟩
     simp only [ZaN,Za4,Za5,Zba,Zbe,Zbb,Za8,Zbd,ZaV,ZaX,e1,e2,e3,e4,Z6,sh,Zh,Zw,asB,Ze,sl3,rdP,rdV,rdA,Zm,Zb,Zi,Zr,ZB,Zq,ZK,pks,pk,asI,Zt,Zs,List.getElem?_cons_succ,List.getElem?_cons_zero,List.set_cons_succ,List.set_cons_zero,Option.bind,Option.map]
    ·rw [decide_eq_false w4] at e4
     refine ⟨lev,v,par,?_,h1,h2,h3⟩
     simp only [ZaN,Za4,Za5,Zba,Zbe,Zbb,Za8,Zbd,ZaV,ZaX,e1,e2,e3,e4,Z6,sh,Zh,Zw,asB,Ze,sl3,rdP,rdV,rdA,Zm,Zb,Zi,Zr,ZB,Zq,ZK,pks,pk,asI,Zt,Zs,List.getElem?_cons_succ,List.getElem?_cons_zero,List.set_cons_succ,List.set_cons_zero,Option.bind,Option.map]
theorem Zn0 {p:Nat} {ls:List (List At)} (h:Ld p ls) (hp0:0<p) (c:Int):∃ lev v par,F_law_drawn [.val (.int c),.val (.lst (ls.map lnD))]=some (.val (.tup [lev,v,par]))∧Sm lev∧Sm v∧Sm par:=by
 obtain ⟨dl,hdl,hdm⟩:=Zh1 (xs:=[D.int 0,.int 0,.int 1,.int 1,.int 2,.int 3,.int 4,.int (-1)]) (i:=c%8) (by omega) (by simp only [List.length_cons,List.length_nil];omega)
 obtain ⟨i,rfl⟩:∃ i,dl=.int i:=by
  simp only [List.mem_cons,List.not_mem_nil,or_false] at hdm
  rcases hdm with rfl | rfl | rfl | rfl | rfl | rfl | rfl | rfl<;>exact ⟨_,rfl⟩
 have hix:ixD (.lst [D.int 0,.int 0,.int 1,.int 1,.int 2,.int 3,.int 4,.int (-1)]) (.int (c%8))=some (.int i):=hdl
 obtain ⟨x,hx,hxn⟩:=Zj4 (c / 8) ls.length h.one
 obtain ⟨y,hy,hyn⟩:=Zj4 (c / 400) ls.length h.one
 have ix:ixD (.lst (ls.map lnD)) (.int (x:Int))=some (lnD ls[x]):=ZbH (by simp [hxn])
 have iy:ixD (.lst (ls.map lnD)) (.int (y:Int))=some (lnD ls[y]):=ZbH (by simp [hyn])
 obtain ⟨m1,k1,v,a1,a2,a3,a4⟩:=Zni h hp0 ls[x] (List.getElem_mem hxn) i
 obtain ⟨m2,k2,par,b1,b2,b3,b4⟩:=Zni h hp0 ls[y] (List.getElem_mem hyn) (i+1)
 have lx:ZR [lnD ls[x]]=some (.int (p:Int)):=by simp [lnD,h.len _ (List.getElem_mem hxn)]
 obtain ⟨lev',v',par',he,g1,g2,g3⟩:=Zm0 c (c / 20000%12) (.lst (ls.map lnD)) (.int i) v par (.val (lnD ls[x])) (.val (lnD ls[y])) trivial a4 b4
 refine ⟨lev',v',par',?_,g1,g2,g3⟩
 have hl:ZR [.lst (ls.map lnD)]=some (.int (ls.length:Int)):=by simp only [ZR,List.length_map]
 have d8:=ZkO c 8 (by omega) (by omega)
 have d400:=ZkO c 400 (by omega) (by omega)
 have d2:=ZkO c 20000 (by omega) (by omega)
 have hone:=h.one
 have n1:=Za2 (c / 8) (ls.length:Int) (by omega)
 have n2:=Za2 (c / 400) (ls.length:Int) (by omega)
 rw [hx] at n1
 rw [hy] at n2
 have n3:=Za2 (c / 20000) 12 (by omega)
 have n8:=Za2 c 8 (by omega)
 have s1:ZdX (.int (p:Int)) (.int 1)=some (.int ((p:Int)-1)):=rfl
 have ai:ZD (.int i) (.int 1)=some (.int (i+1)):=rfl
 have ng:Zfn (some (.int 1))=some (.int (-1)):=rfl
 have sh:ZC (some [D.int 0,.int 0,.int 1,.int 1,.int 2,.int 3,.int 4,.int (-1)])=some [D.int 0,.int 0,.int 1,.int 1,.int 2,.int 3,.int 4,.int (-1)]:=Zaf _ (by simp)
 refine ZbF rfl ?_
 show ZdL [.val (.int c),.val (.lst (ls.map lnD)),.no,.no,.no,.no,.no,.no]=_
 generalize lnD ls[x]=LX at *
 generalize lnD ls[y]=LY at *
 generalize D.lst (ls.map lnD)=L at *
 generalize (ls.length:Int)=N at *
 simp only [ZdL,Zf7,Zga,ZfT,ZfV,ZfP,Zgf,ZfQ,ZfZ,Zf2,Zf3,ZfO,ng,sh,n8,hix,d8,hl,n1,ix,d400,n2,iy,a1,lx,s1,a2,a3,ai,b1,b2,b3,d2,n3,he,Zh,Zw,asB,Ze,sl3,rdP,rdV,rdA,Zm,Zb,Zi,Zr,ZB,Zq,ZK,pks,pk,asI,Zt,Zs,List.getElem?_cons_succ,List.getElem?_cons_zero,List.set_cons_succ,List.set_cons_zero,Option.bind,Option.map]
theorem Zpf (s0 s1 s2 s3 s4 s6:Sl):Zek [s0,s1,s2,s3,s4,.exc "NoValue",s6]=.ret (.val .non):=by
 have o0:Z1 "NoGrain" "NoValue"=false:=by decide +kernel
 have o1:Z1 "NoLadder" "NoValue"=false:=by decide +kernel
 have o2:Z1 "NoPick" "NoValue"=false:=by decide +kernel
 have o3:Z1 "NoRow" "NoValue"=false:=by decide +kernel
 have o4:Z1 "NoSuch" "NoValue"=false:=by decide +kernel
 have o5:Z1 "NoText" "NoValue"=false:=by decide +kernel
 have o6:Z1 "TooMuch" "NoValue"=false:=by decide +kernel
 have v:Z1 "ValueError" "NoValue"=true:=by decide +kernel
 have l:Z1 "NoValue" "NoValue"=true:=by decide +kernel
 have cs:CS.contains "NoValue"=true:=by decide +kernel
 have sh4:∀ a b c d:D,ZC (some [a,b,c,d])=some [a,b,c,d]:=fun _ _ _ _=>Zaf _ (by simp)
 have sh3:∀ a b c:D,ZC (some [a,b,c])=some [a,b,c]:=fun _ _ _=>Zaf _ (by simp)
 have ad:=ZoG [D.bl false,.bl false,.bl false,.bl false] [D.bl false,.bl false,.bl false] (by simp)
 have an:Zkr [.lst ([D.bl false,.bl false,.bl false,.bl false]++[D.bl false,.bl false,.bl false])]=some (.bl false):=rfl
 simp only [Zek,isX,cs,if_pos,o0,o1,o2,o3,o4,o5,o6,v,l,ZN,Zai,Bool.not_false,ZQ,sh4,sh3,ad,an,Zh,Zw,asB,Ze,sl3,rdP,rdV,rdA,Zm,Zb,Zi,Zr,ZB,Zq,ZK,pks,pk,asI,Zt,Zs,List.getElem?_cons_succ,List.getElem?_cons_zero,List.set_cons_succ,List.set_cons_zero,Option.bind,Option.map]
theorem Zpj (L lev v par:D) (h:Zbq [.val L,.val lev,.val v,.val par]=some ("NoValue":Str)):F_law_told [.val L,.val lev,.val v,.val par]=some (.val .non):=by
 have cs:CS.contains "NoValue"=true:=by decide +kernel
 refine ZbF rfl ?_
 show ZcF [.val L,.val lev,.val v,.val par,.no,.no,.no]=_
 simp only [ZcF,Zkv,ZrF,h,cs,if_pos,Zpf,Zh,Zw,asB,Ze,sl3,rdP,rdV,rdA,Zm,Zb,Zi,Zr,ZB,Zq,ZK,pks,pk,asI,Zt,Zs,List.getElem?_cons_succ,List.getElem?_cons_zero,List.set_cons_succ,List.set_cons_zero,Option.bind,Option.map]
theorem ZnK (L lev v par:D) (W:List D) (h:Zbq [.val L,.val lev,.val v,.val par]=none) (h2:F_regrouped [.val L,.val lev,.val v,.val par]=some (.own W)):F_law_told [.val L,.val lev,.val v,.val par]=some (.own W):=by
 refine ZbF rfl ?_
 show ZcF [.val L,.val lev,.val v,.val par,.no,.no,.no]=_
 simp only [ZcF,Zkv,h,ZgC,Zbx,h2,rvF,Option.isSome,if_true,ZaQ,Zmn,Zbs,rdO,Zh,Zw,asB,Ze,sl3,rdP,rdV,rdA,Zm,Zb,Zi,Zr,ZB,Zq,ZK,pks,pk,asI,Zt,Zs,List.getElem?_cons_succ,List.getElem?_cons_zero,List.set_cons_succ,List.set_cons_zero,Option.bind,Option.map]
theorem Zln {d:D} (h:okD 12 d=true):neO d d=some (.bl false):=by
 have h2:=ZkC 12 d h
 simp [Zae,h,h2]
theorem Zne (ls:List (List At)):okD 12 (.lst (ls.map lnD))=true:=by
 simp only [okD,List.all_map,List.all_eq_true]
 intro l _
 exact Ziq 10 l
theorem Ld.says {p:Nat} {ls:List (List At)} (h:Ld p ls) (hp0:0<p) (hp4:p≤4):F_law_go_on [.lent (ls.map lnD)]=some (.val (.bl true))∧F_is_ladder [.lent (ls.map lnD)]=some (.val (.bl true)):=by
 have htop:=h.top
 have hsm:∀ x∈ls.map lnD,SmL x:=fun x hx=>by
  obtain ⟨l,hl,rfl⟩:=List.mem_map.mp hx
  exact ⟨by rw [List.length_map,h.len l hl];omega,fun y hy=>by obtain ⟨a,ha,rfl⟩:=List.mem_map.mp hy;exact (h.vs l hl a ha).2⟩
 have hal:(ls.map lnD).all ZT=true:=by
  rw [List.all_map,List.all_eq_true]
  exact fun l hl=>Zom (by rw [h.len l hl];omega) (by rw [h.len l hl];omega) fun a ha=>(h.vs l hl a ha).1
 obtain ⟨b,h1,h2,h3⟩:=ZpC (ls.map lnD) hsm (by simp;omega)
 have hb:=h3 ls rfl hal
 rw [h.go] at hb
 subst hb
 refine ⟨h2,?_⟩
 have ln:ZR [.lst (ls.map lnD)]=some (.int (ls.length:Int)):=by simp only [ZR,List.length_map]
 have l1:ltO (.int (ls.length:Int)) (.int 1)=some (.bl (decide ((ls.length:Int)<1))):=by simp
 have g1:gtD (.int (ls.length:Int)) (.int 40)=some (.bl (decide ((40:Int)<(ls.length:Int)))):=rfl
 rw [decide_eq_false (by have:=h.one;omega)] at l1
 rw [decide_eq_false (by omega)] at g1
 have isl:isD [.lst (ls.map lnD),.ty "list"]=some (.bl true):=rfl
 refine ZbF rfl ?_
 show ZdB [.lent (ls.map lnD)]=_
 generalize ls.map lnD=L at *
 simp only [ZdB,ZN,ZQ,orB,isl,Bool.not_true,ln,l1,g1,h1,Z6,Zh,Zw,asB,Ze,sl3,rdP,rdV,rdA,Zm,Zb,Zi,Zr,ZB,Zq,ZK,pks,pk,asI,Zt,Zs,List.getElem?_cons_succ,List.getElem?_cons_zero,List.set_cons_succ,List.set_cons_zero,Option.bind,Option.map]
theorem turn {p:Nat} (hp0:0<p) (hp4:p≤4) {ls:List (List At)} (h:Ld p ls) (ns:List Int) (k:Nat) (s1 s2 s5 s6 s7 s8 s9 s10 s11:Sl):∃ ls' s5' s6' s7' s8' s9' s10' s11',Ld p ls'∧Ze0 [.val (.lst (ns.map D.int)),s1,s2,.val (.lst (ls.map lnD)),.val (.int (k:Int)),s5,s6,s7,s8,s9,s10,s11]=.next [.val (.lst (ns.map D.int)),s1,s2,.val (.lst (ls'.map lnD)),.val (.int (k:Int)),s5',s6',s7',s8',s9',s10',s11']:=by
 have hcell:=Zd1 (.val (.lst (ns.map D.int))) ns (.inl rfl) (3+(k:Int)) (by omega)
 generalize ns.getD (3+(k:Int)).toNat 0=c at *
 generalize D.lst (ns.map D.int)=NS at *
 obtain ⟨sv,hs,hsl,hps⟩:=ZiU c (k:Int)
 have x0:ixD (.lst (sv.map D.int)) (.int 0)=some (.int (sv.getD 0 0)):=Zd7 (by omega) (by omega)
 have x1:ixD (.lst (sv.map D.int)) (.int 1)=some (.int (sv.getD 1 0)):=Zd7 (by omega) (by omega)
 generalize sv.getD 0 0=y0 at *
 generalize sv.getD 1 0=y1 at *
 generalize D.lst (sv.map D.int)=SV at *
 have a3:ZD (.int 3) (.int (k:Int))=some (.int (3+(k:Int))):=rfl
 have m64:=Za2 y1 64 (by omega)
 have mu:ZdS (.int 33554432) (.int (y1%64))=some (.int (33554432 * (y1%64))):=Zed (.inl (by decide))
 have ad:ZD (.int y0) (.int (33554432 * (y1%64)))=some (.int (y0+33554432 * (y1%64))):=rfl
 obtain ⟨lev,v,par,hd,g1,g2,g3⟩:=Zn0 h hp0 (y0+33554432 * (y1%64))
 have lt:ZmG [.lst (ls.map lnD)]=some (ls.map lnD):=rfl
 have ne1:=Zln (Zne ls)
 have hasg:∀ (t0 t1 t2 t3 t4 t5 t6 t7 t8 t9 t10 t11:Sl),ZfJ 3 (Zbi (Zv 6) (Zbi (Zv 7) (Zbi (Zv 8) Zgq))) (.tup [lev,v,par]) [t0,t1,t2,t3,t4,t5,t6,t7,t8,t9,t10,t11]=some [t0,t1,t2,t3,t4,t5,.val lev,.val v,.val par,t9,t10,t11]:=fun _ _ _ _ _ _ _ _ _ _ _ _=>rfl
 rcases Zqy h hp4 lev v par g1 g2 g3 with ⟨d1,x⟩ | ⟨ls',h',d1,x,f⟩
 ·have ht:=Zpj _ _ _ _ x
  refine ⟨ls,.val SV,.val lev,.val v,.val par,.val .non,.val (.lst (ls.map lnD)),.val .non,h,?_⟩
  generalize ls.map lnD=L at *
  simp only [Ze0,a3,hcell,hs,Z6,x0,x1,m64,mu,ad,hd,ZhI,hasg,d1,lt,ZgC,Zbx,ht,rvF,Option.isSome,Bool.false_eq_true,if_false,orB,Zai,ZN,Zc2,isN,ne1,Bool.not_true,Zh,Zw,asB,Ze,sl3,rdP,rdV,rdA,Zm,Zb,Zi,Zr,ZB,Zq,ZK,pks,pk,asI,Zt,Zs,List.getElem?_cons_succ,List.getElem?_cons_zero,List.set_cons_succ,List.set_cons_zero,Option.bind,Option.map]
 ·have ht:=ZnK _ _ _ _ _ x f
  obtain ⟨go1,go2⟩:=h'.says hp0 hp4
  have ne2:=Zln (Zne ls')
  have isl:isD [.lst (ls'.map lnD),.ty "list"]=some (.bl true):=rfl
  have nb:Zg8 (.bl true) (.bl true)=some (.bl false):=rfl
  refine ⟨ls',.val SV,.val lev,.val v,.val par,.val (.lst (ls'.map lnD)),.val (.lst (ls.map lnD)),.own [],h',?_⟩
  generalize ls.map lnD=L at *
  generalize ls'.map lnD=L' at *
  simp only [Ze0,a3,hcell,hs,Z6,ZjD,x0,x1,m64,mu,ad,hd,ZhI,hasg,d1,lt,ZgC,Zbx,ht,rvF,Option.isSome,if_true,ZaQ,orB,Zai,ZN,Zc2,isN,ZQ,ne1,ne2,isl,Bool.not_true,Bool.not_false,go1,go2,nb,ZjW,rdO,Zh,Zw,asB,Ze,sl3,rdP,rdV,rdA,Zm,Zb,Zi,Zr,ZB,Zq,ZK,pks,pk,asI,Zt,Zs,List.getElem?_cons_succ,List.getElem?_cons_zero,List.set_cons_succ,List.set_cons_zero,Option.bind,Option.map]
theorem Zsp {p:Nat} (hp0:0<p) (hp4:p≤4) (ns:List Int) (s1 s2:Sl):∀ (ks:List Nat) (ls:List (List At)) (s4 s5 s6 s7 s8 s9 s10 s11:Sl),Ld p ls→∃ ρ,ZV (Zv 4) Ze0 (ks.map fun (k:Nat)=>D.int (k:Int)) [.val (.lst (ns.map D.int)),s1,s2,.val (.lst (ls.map lnD)),s4,s5,s6,s7,s8,s9,s10,s11]=.next ρ
 | [],ls,s4,s5,s6,s7,s8,s9,s10,s11,_=>⟨_,rfl⟩
 | k::ks,ls,s4,s5,s6,s7,s8,s9,s10,s11,h=>by
  obtain ⟨ls',s5',s6',s7',s8',s9',s10',s11',h',e⟩:=turn hp0 hp4 h ns k s1 s2 s5 s6 s7 s8 s9 s10 s11
  obtain ⟨ρ,hr⟩:=Zsp hp0 hp4 ns s1 s2 ks ls' (.val (.int (k:Int))) s5' s6' s7' s8' s9' s10' s11' h'
  refine ⟨ρ,?_⟩
  simp only [List.map_cons,ZV,Zv,List.set_cons_succ,List.set_cons_zero]
  rw [e]
  exact hr
theorem ZnT:∀ ns:List Int,ns.length≤63→F_law [.val (.lst (ns.map D.int))]=some (.val (.bl true)):=by
 intro ns hl
 have h0:F_law_cell_at [.val (.lst (ns.map D.int)),.val (.int 0)]=some (.val (.int (ns.getD 0 0))):=Zd1 _ ns (.inl rfl) 0 (by omega)
 have h1:F_law_cell_at [.val (.lst (ns.map D.int)),.val (.int 1)]=some (.val (.int (ns.getD 1 0))):=Zd1 _ ns (.inl rfl) 1 (by omega)
 have h2:F_law_cell_at [.val (.lst (ns.map D.int)),.val (.int 2)]=some (.val (.int (ns.getD 2 0))):=Zd1 _ ns (.inl rfl) 2 (by omega)
 generalize ns.getD 0 0=c0 at *
 generalize ns.getD 1 0=c1 at *
 generalize ns.getD 2 0=c2 at *
 obtain ⟨many,hm,hm1,hm40⟩:∃ many:Nat,(if c0%4=2 then 36+c0 / 4%5 else 1+c0 / 4%12)=(many:Int)∧1≤many∧many≤40:=by
  refine ⟨(if c0%4=2 then 36+c0 / 4%5 else 1+c0 / 4%12).toNat,?_,?_,?_⟩<;>split<;>omega
 obtain ⟨dp,hdp,hdpm⟩:=Zh1 (xs:=[D.int 3,.int 2,.int 4,.int 3,.int 1]) (i:=c2%5) (by omega) (by simp only [List.length_cons,List.length_nil];omega)
 obtain ⟨p,rfl,hp0,hp4⟩:∃ p:Nat,dp=.int (p:Int)∧0<p∧p≤4:=by
  simp only [List.mem_cons,List.not_mem_nil,or_false] at hdpm
  rcases hdpm with rfl | rfl | rfl | rfl | rfl
  ·exact ⟨3,rfl,by omega,by omega⟩
  ·exact ⟨2,rfl,by omega,by omega⟩
  ·exact ⟨4,rfl,by omega,by omega⟩
  ·exact ⟨3,rfl,by omega,by omega⟩
  ·exact ⟨1,rfl,by omega,by omega⟩
 have hix:ixD (.lst [D.int 3,.int 2,.int 4,.int 3,.int 1]) (.int (c2%5))=some (.int (p:Int)):=hdp
 obtain ⟨w,hw,hlad⟩:=ZmP c1 many p (by omega) hp0 hp4
 have hLd:Ld p ((List.range many).map fun k=>w.chn 0 (w.a0 k) p):=by
  refine ⟨by simp;omega,by simp;omega,fun l hl=>?_,fun l hl a ha=>?_,Way.good hw p hp0 many (by omega)⟩
  ·obtain ⟨k,_,rfl⟩:=List.mem_map.mp hl
   exact Way.chn_len w _ _ _
  ·obtain ⟨k,_,rfl⟩:=List.mem_map.mp hl
   exact Way.chn_mem hw p 0 _ (w.a0_lt k) a ha
 generalize ((List.range many).map fun k=>w.chn 0 (w.a0 k) p)=ls at *
 obtain ⟨ρ,hrun⟩:=Zsp hp0 hp4 ns (.val (.int c0)) (.val (.int (many:Int))) (List.range 4) ls .no .no .no .no .no .no .no .no hLd
 have r4:Zc7 [.int 4]=some ((List.range 4).map fun (k:Nat)=>D.int (k:Int)):=Zdr 4 (by omega)
 generalize ((List.range 4).map fun (k:Nat)=>D.int (k:Int))=R4 at *
 generalize ns.map D.int=NS at *
 generalize ls.map lnD=L at *
 have a1:∀ x y:Int,ZD (.int x) (.int y)=some (.int (x+y)):=fun _ _=>rfl
 have d4:=ZkO c0 4 (by omega) (by omega)
 have n12:=Za2 (c0 / 4) 12 (by omega)
 have n5:=Za2 (c0 / 4) 5 (by omega)
 have n4:=Za2 c0 4 (by omega)
 have n52:=Za2 c2 5 (by omega)
 have e2:=Ze3 (c0%4) 2
 have sh5:ZC (some [D.int 3,.int 2,.int 4,.int 3,.int 1])=some [D.int 3,.int 2,.int 4,.int 3,.int 1]:=Zaf _ (by simp)
 have t3:Zip [.val (.lst NS),.val (.int c0),.val (.int (many:Int)),.no,.no,.no,.no,.no,.no,.no,.no,.no]=.ret (.val (.bl true)):=by
  simp only [Zip,Zlq,ZlZ,ZlU,ZlQ,ZlN,h1,h2,Z6,ZjD,n52,sh5,hix,hlad,Zbu,r4,hrun,Zh,Zw,asB,Ze,sl3,rdP,rdV,rdA,Zm,Zb,Zi,Zr,ZB,Zq,ZK,pks,pk,asI,Zt,Zs,List.getElem?_cons_succ,List.getElem?_cons_zero,List.set_cons_succ,List.set_cons_zero,Option.bind,Option.map]
 refine ZbF rfl ?_
 show Zg2 [.val (.lst NS),.no,.no,.no,.no,.no,.no,.no,.no,.no,.no,.no]=_
 by_cases hc:c0%4=2
 ·rw [decide_eq_true hc] at e2
  rw [if_pos hc] at hm
  simp only [Zg2,ZiF,ZiH,ZiC,ZiO,Zij,h0,Z6,d4,n12,a1,n4,e2,n5,hm,t3,Zh,Zw,asB,Ze,sl3,rdP,rdV,rdA,Zm,Zb,Zi,Zr,ZB,Zq,ZK,pks,pk,asI,Zt,Zs,List.getElem?_cons_succ,List.getElem?_cons_zero,List.set_cons_succ,List.set_cons_zero,Option.bind,Option.map]
 ·rw [decide_eq_false hc] at e2
  rw [if_neg hc] at hm
  simp only [Zg2,ZiF,ZiH,ZiC,ZiO,Zij,h0,Z6,d4,n12,a1,n4,e2,hm,t3,Zh,Zw,asB,Ze,sl3,rdP,rdV,rdA,Zm,Zb,Zi,Zr,ZB,Zq,ZK,pks,pk,asI,Zt,Zs,List.getElem?_cons_succ,List.getElem?_cons_zero,List.set_cons_succ,List.set_cons_zero,Option.bind,Option.map]
def top (i:Nat):Stmt:=PySem.Challenge.pw_cubebook_k13_regrouped.main.body.getD i (.Pass ⟨0,0,0,0⟩)
abbrev ZcE:Stmt:=top 14
abbrev Zcw:Stmt:=top 15
abbrev ZcH:Stmt:=top 16
abbrev ZbC:Stmt:=top 18
abbrev ZbM:Stmt:=top 19
abbrev ZcG:Stmt:=top 20
abbrev Zcu:Stmt:=top 24
abbrev ZaJ:Stmt:=top 25
abbrev Zca:Stmt:=top 26
abbrev ZcJ:Stmt:=top 27
abbrev Zc9:Stmt:=top 28
abbrev Zab:Stmt:=top 29
abbrev Zcv:Stmt:=top 30
abbrev Zbc:Stmt:=top 31
abbrev Za7:Stmt:=top 33
abbrev ZaT:Stmt:=top 34
abbrev Za9:Stmt:=top 36
abbrev ZbB:Stmt:=top 37
abbrev ZcB:Stmt:=top 38
abbrev Zb5:Stmt:=top 39
abbrev ZbD:Stmt:=top 40
abbrev Zaz:Stmt:=top 41
abbrev ZaH:Stmt:=top 42
abbrev Zcb:Stmt:=top 43
abbrev Zbv:Stmt:=top 44
abbrev Zcq:Stmt:=top 45
abbrev ZcK:Stmt:=top 46
abbrev Zc8:Stmt:=top 47
abbrev Zb7:Stmt:=top 48
abbrev Zg3:Stmt:=top 49
structure AD where
 a_is_whole:Addr
 d_is_whole:FuncData
 a_is_word:Addr
 d_is_word:FuncData
 a_is_value:Addr
 d_is_value:FuncData
 a_value_rank:Addr
 d_value_rank:FuncData
 a_key_rank:Addr
 d_key_rank:FuncData
 a_in_order:Addr
 d_in_order:FuncData
 a_is_line:Addr
 d_is_line:FuncData
 a_go_together:Addr
 d_go_together:FuncData
 a_is_ladder:Addr
 d_is_ladder:FuncData
 a_whole_of:Addr
 d_whole_of:FuncData
 a_line_at:Addr
 d_line_at:FuncData
 a_values_in_order:Addr
 d_values_in_order:FuncData
 a_beneath:Addr
 d_beneath:FuncData
 a_is_value_at:Addr
 d_is_value_at:FuncData
 a_has_parents:Addr
 d_has_parents:FuncData
 a_regrouped:Addr
 d_regrouped:FuncData
 a_law_cell_at:Addr
 d_law_cell_at:FuncData
 a_law_stream:Addr
 d_law_stream:FuncData
 a_law_word:Addr
 d_law_word:FuncData
 a_law_value:Addr
 d_law_value:FuncData
 a_law_ladder:Addr
 d_law_ladder:FuncData
 a_law_is_value:Addr
 d_law_is_value:FuncData
 a_law_is_line:Addr
 d_law_is_line:FuncData
 a_law_go_on:Addr
 d_law_go_on:FuncData
 a_law_there:Addr
 d_law_there:FuncData
 a_law_due:Addr
 d_law_due:FuncData
 a_law_told:Addr
 d_law_told:FuncData
 a_law_odd:Addr
 d_law_odd:FuncData
 a_law_drawn:Addr
 d_law_drawn:FuncData
 a_law:Addr
 d_law:FuncData
 a_CubeError:Addr
 a_NoGrain:Addr
 a_NoLadder:Addr
 a_NoPick:Addr
 a_NoRow:Addr
 a_NoSuch:Addr
 a_NoText:Addr
 a_NoValue:Addr
 a_TooMuch:Addr
structure Tx (K:PySem.W.Frag) (mg:Str→Option Value) (d:AD):Prop where
 m_is_whole:mg "is_whole"=some (.ref d.a_is_whole)
 F_is_whole:Fun K "is_whole" "is_whole" ZcE d.a_is_whole d.d_is_whole
 b_is_whole:Binds K d.d_is_whole ["thing"] []
 m_is_word:mg "is_word"=some (.ref d.a_is_word)
 F_is_word:Fun K "is_word" "is_word" Zcw d.a_is_word d.d_is_word
 b_is_word:Binds K d.d_is_word ["thing"] []
 m_is_value:mg "is_value"=some (.ref d.a_is_value)
 F_is_value:Fun K "is_value" "is_value" ZcH d.a_is_value d.d_is_value
 b_is_value:Binds K d.d_is_value ["thing"] []
 m_value_rank:mg "value_rank"=some (.ref d.a_value_rank)
 F_value_rank:Fun K "value_rank" "value_rank" ZbC d.a_value_rank d.d_value_rank
 b_value_rank:Binds K d.d_value_rank ["thing"] []
 m_key_rank:mg "key_rank"=some (.ref d.a_key_rank)
 F_key_rank:Fun K "key_rank" "key_rank" ZbM d.a_key_rank d.d_key_rank
 b_key_rank:Binds K d.d_key_rank ["key"] []
 m_in_order:mg "in_order"=some (.ref d.a_in_order)
 F_in_order:Fun K "in_order" "in_order" ZcG d.a_in_order d.d_in_order
 b_in_order:Binds K d.d_in_order ["keys"] []
 m_is_line:mg "is_line"=some (.ref d.a_is_line)
 F_is_line:Fun K "is_line" "is_line" Zcu d.a_is_line d.d_is_line
 b_is_line:Binds K d.d_is_line ["thing"] []
 m_go_together:mg "go_together"=some (.ref d.a_go_together)
 F_go_together:Fun K "go_together" "go_together" ZaJ d.a_go_together d.d_go_together
 b_go_together:Binds K d.d_go_together ["lines"] []
 m_is_ladder:mg "is_ladder"=some (.ref d.a_is_ladder)
 F_is_ladder:Fun K "is_ladder" "is_ladder" Zca d.a_is_ladder d.d_is_ladder
 b_is_ladder:Binds K d.d_is_ladder ["thing"] []
 m_whole_of:mg "whole_of"=some (.ref d.a_whole_of)
 F_whole_of:Fun K "whole_of" "whole_of" ZcJ d.a_whole_of d.d_whole_of
 b_whole_of:Binds K d.d_whole_of ["ladder"] []
 m_line_at:mg "line_at"=some (.ref d.a_line_at)
 F_line_at:Fun K "line_at" "line_at" Zc9 d.a_line_at d.d_line_at
 b_line_at:Binds K d.d_line_at ["line","level"] []
 m_values_in_order:mg "values_in_order"=some (.ref d.a_values_in_order)
 F_values_in_order:Fun K "values_in_order" "values_in_order" Zab d.a_values_in_order d.d_values_in_order
 b_values_in_order:Binds K d.d_values_in_order ["values"] []
 m_beneath:mg "beneath"=some (.ref d.a_beneath)
 F_beneath:Fun K "beneath" "beneath" Zcv d.a_beneath d.d_beneath
 b_beneath:Binds K d.d_beneath ["ladder","level","value"] []
 m_is_value_at:mg "is_value_at"=some (.ref d.a_is_value_at)
 F_is_value_at:Fun K "is_value_at" "is_value_at" Zbc d.a_is_value_at d.d_is_value_at
 b_is_value_at:Binds K d.d_is_value_at ["ladder","level","thing"] []
 m_has_parents:mg "has_parents"=some (.ref d.a_has_parents)
 F_has_parents:Fun K "has_parents" "has_parents" Za7 d.a_has_parents d.d_has_parents
 b_has_parents:Binds K d.d_has_parents ["ladder","level"] []
 m_regrouped:mg "regrouped"=some (.ref d.a_regrouped)
 F_regrouped:Fun K "regrouped" "regrouped" ZaT d.a_regrouped d.d_regrouped
 b_regrouped:Binds K d.d_regrouped ["ladder","level","value","parent"] []
 m_law_cell_at:mg "_law_cell_at"=some (.ref d.a_law_cell_at)
 F_law_cell_at:Fun K "_law_cell_at" "_law_cell_at" Za9 d.a_law_cell_at d.d_law_cell_at
 b_law_cell_at:Binds K d.d_law_cell_at ["_law_script","_law_k"] []
 m_law_stream:mg "_law_stream"=some (.ref d.a_law_stream)
 F_law_stream:Fun K "_law_stream" "_law_stream" ZbB d.a_law_stream d.d_law_stream
 b_law_stream:Binds K d.d_law_stream ["_law_cell","_law_place"] []
 m_law_word:mg "_law_word"=some (.ref d.a_law_word)
 F_law_word:Fun K "_law_word" "_law_word" ZcB d.a_law_word d.d_law_word
 b_law_word:Binds K d.d_law_word ["_law_cell","_law_many"] []
 m_law_value:mg "_law_value"=some (.ref d.a_law_value)
 F_law_value:Fun K "_law_value" "_law_value" Zb5 d.a_law_value d.d_law_value
 b_law_value:Binds K d.d_law_value ["_law_way","_law_cell","_law_k"] []
 m_law_ladder:mg "_law_ladder"=some (.ref d.a_law_ladder)
 F_law_ladder:Fun K "_law_ladder" "_law_ladder" ZbD d.a_law_ladder d.d_law_ladder
 b_law_ladder:Binds K d.d_law_ladder ["_law_cell","_law_many","_law_places"] []
 m_law_is_value:mg "_law_is_value"=some (.ref d.a_law_is_value)
 F_law_is_value:Fun K "_law_is_value" "_law_is_value" Zaz d.a_law_is_value d.d_law_is_value
 b_law_is_value:Binds K d.d_law_is_value ["_law_thing"] []
 m_law_is_line:mg "_law_is_line"=some (.ref d.a_law_is_line)
 F_law_is_line:Fun K "_law_is_line" "_law_is_line" ZaH d.a_law_is_line d.d_law_is_line
 b_law_is_line:Binds K d.d_law_is_line ["_law_thing"] []
 m_law_go_on:mg "_law_go_on"=some (.ref d.a_law_go_on)
 F_law_go_on:Fun K "_law_go_on" "_law_go_on" Zcb d.a_law_go_on d.d_law_go_on
 b_law_go_on:Binds K d.d_law_go_on ["_law_lines"] []
 m_law_there:mg "_law_there"=some (.ref d.a_law_there)
 F_law_there:Fun K "_law_there" "_law_there" Zbv d.a_law_there d.d_law_there
 b_law_there:Binds K d.d_law_there ["_law_lines","_law_level","_law_value_here"] []
 m_law_due:mg "_law_due"=some (.ref d.a_law_due)
 F_law_due:Fun K "_law_due" "_law_due" Zcq d.a_law_due d.d_law_due
 b_law_due:Binds K d.d_law_due ["_law_lines","_law_level","_law_value_here","_law_parent"] []
 m_law_told:mg "_law_told"=some (.ref d.a_law_told)
 F_law_told:Fun K "_law_told" "_law_told" ZcK d.a_law_told d.d_law_told
 b_law_told:Binds K d.d_law_told ["_law_lines","_law_level","_law_value_here","_law_parent"] []
 m_law_odd:mg "_law_odd"=some (.ref d.a_law_odd)
 F_law_odd:Fun K "_law_odd" "_law_odd" Zc8 d.a_law_odd d.d_law_odd
 b_law_odd:Binds K d.d_law_odd ["_law_cell","_law_value_here"] []
 m_law_drawn:mg "_law_drawn"=some (.ref d.a_law_drawn)
 F_law_drawn:Fun K "_law_drawn" "_law_drawn" Zb7 d.a_law_drawn d.d_law_drawn
 b_law_drawn:Binds K d.d_law_drawn ["_law_cell","_law_lines"] []
 m_law:mg "law"=some (.ref d.a_law)
 F_law:Fun K "law" "law" Zg3 d.a_law d.d_law
 b_law:Binds K d.d_law ["_law_script"] []
 n_ValueError:mg "ValueError"=none
 n_all:mg "all"=none
 n_any:mg "any"=none
 n_bool:mg "bool"=none
 n_enumerate:mg "enumerate"=none
 n_int:mg "int"=none
 n_isinstance:mg "isinstance"=none
 n_len:mg "len"=none
 n_list:mg "list"=none
 n_max:mg "max"=none
 n_min:mg "min"=none
 n_range:mg "range"=none
 n_sorted:mg "sorted"=none
 n_str:mg "str"=none
 n_tuple:mg "tuple"=none
 g_FIGURES:∃ u,mg "FIGURES"=some u∧RelV (.str "0123456789") u
 g_LETTERS:∃ u,mg "LETTERS"=some u∧RelV (.str "abcdefghijklmnopqrstuvwxyz") u
 g_LONGEST_LINE:∃ u,mg "LONGEST_LINE"=some u∧RelV (.int (4)) u
 g_LONGEST_WORD:∃ u,mg "LONGEST_WORD"=some u∧RelV (.int (12)) u
 g_MOST_LINES:∃ u,mg "MOST_LINES"=some u∧RelV (.int (40)) u
 m_CubeError:mg "CubeError"=some (.ref d.a_CubeError)
 q_CubeError:PySem.W.nsIn K mainGlobals "CubeError"=some (some (.ref d.a_CubeError))
 m_NoGrain:mg "NoGrain"=some (.ref d.a_NoGrain)
 q_NoGrain:PySem.W.nsIn K mainGlobals "NoGrain"=some (some (.ref d.a_NoGrain))
 m_NoLadder:mg "NoLadder"=some (.ref d.a_NoLadder)
 q_NoLadder:PySem.W.nsIn K mainGlobals "NoLadder"=some (some (.ref d.a_NoLadder))
 m_NoPick:mg "NoPick"=some (.ref d.a_NoPick)
 q_NoPick:PySem.W.nsIn K mainGlobals "NoPick"=some (some (.ref d.a_NoPick))
 m_NoRow:mg "NoRow"=some (.ref d.a_NoRow)
 q_NoRow:PySem.W.nsIn K mainGlobals "NoRow"=some (some (.ref d.a_NoRow))
 m_NoSuch:mg "NoSuch"=some (.ref d.a_NoSuch)
 q_NoSuch:PySem.W.nsIn K mainGlobals "NoSuch"=some (some (.ref d.a_NoSuch))
 m_NoText:mg "NoText"=some (.ref d.a_NoText)
 q_NoText:PySem.W.nsIn K mainGlobals "NoText"=some (some (.ref d.a_NoText))
 m_NoValue:mg "NoValue"=some (.ref d.a_NoValue)
 q_NoValue:PySem.W.nsIn K mainGlobals "NoValue"=some (some (.ref d.a_NoValue))
 m_TooMuch:mg "TooMuch"=some (.ref d.a_TooMuch)
 q_TooMuch:PySem.W.nsIn K mainGlobals "TooMuch"=some (some (.ref d.a_TooMuch))
 k_NoValue:XMk K d.a_NoValue
 f_NoValue:ZaR K d.a_NoValue
 p_NoValue_NoGrain:PySem.W.kitOne K (.ref d.a_NoValue) (.ref d.a_NoGrain)=some (Z1 "NoGrain" "NoValue")
 p_NoValue_NoLadder:PySem.W.kitOne K (.ref d.a_NoValue) (.ref d.a_NoLadder)=some (Z1 "NoLadder" "NoValue")
 p_NoValue_NoPick:PySem.W.kitOne K (.ref d.a_NoValue) (.ref d.a_NoPick)=some (Z1 "NoPick" "NoValue")
 p_NoValue_NoRow:PySem.W.kitOne K (.ref d.a_NoValue) (.ref d.a_NoRow)=some (Z1 "NoRow" "NoValue")
 p_NoValue_NoSuch:PySem.W.kitOne K (.ref d.a_NoValue) (.ref d.a_NoSuch)=some (Z1 "NoSuch" "NoValue")
 p_NoValue_NoText:PySem.W.kitOne K (.ref d.a_NoValue) (.ref d.a_NoText)=some (Z1 "NoText" "NoValue")
 p_NoValue_NoValue:PySem.W.kitOne K (.ref d.a_NoValue) (.ref d.a_NoValue)=some (Z1 "NoValue" "NoValue")
 p_NoValue_TooMuch:PySem.W.kitOne K (.ref d.a_NoValue) (.ref d.a_TooMuch)=some (Z1 "TooMuch" "NoValue")
 p_NoValue_ValueError:PySem.W.kitOne K (.ref d.a_NoValue) (.type "ValueError")=some (Z1 "ValueError" "NoValue")
 x_NoValue_CubeError:PySem.W.exmOne K (.ref d.a_NoValue) (.ref d.a_CubeError)=some true
section
variable {P:Program} {w:World} {K:PySem.W.Frag} {mg:Str→Option Value} {base:Heap} {d:AD}
theorem ZdF {c:Str} (h:CS.contains c=true):c="NoValue":=by
 simpa [CS] using h
theorem Zjr (T:Tx K mg d):∀ c D,CS.contains c=true→PySem.W.nsIn K mainGlobals c=some (some (.ref D))→PySem.W.exmOne K (.ref D) (.ref d.a_CubeError)=some true:=by
 intro c D h e
 rcases ZdF h with rfl
 ·have z:=e.symm.trans T.q_NoValue;cases z;exact T.x_NoValue_CubeError
theorem ZkZ (T:Tx K mg d):∀ c D,CS.contains c=true→PySem.W.nsIn K mainGlobals c=some (some (.ref D))→ZaR K D∧PySem.W.kitOne K (.ref D) (.ref d.a_NoGrain)=some (Z1 "NoGrain" c):=by
 intro c D h e
 rcases ZdF h with rfl
 ·have z:=e.symm.trans T.q_NoValue;cases z;exact ⟨T.f_NoValue,T.p_NoValue_NoGrain⟩
theorem Zkd (T:Tx K mg d):∀ c D,CS.contains c=true→PySem.W.nsIn K mainGlobals c=some (some (.ref D))→ZaR K D∧PySem.W.kitOne K (.ref D) (.ref d.a_NoLadder)=some (Z1 "NoLadder" c):=by
 intro c D h e
 rcases ZdF h with rfl
 ·have z:=e.symm.trans T.q_NoValue;cases z;exact ⟨T.f_NoValue,T.p_NoValue_NoLadder⟩
theorem ZmF (T:Tx K mg d):∀ c D,CS.contains c=true→PySem.W.nsIn K mainGlobals c=some (some (.ref D))→ZaR K D∧PySem.W.kitOne K (.ref D) (.ref d.a_NoPick)=some (Z1 "NoPick" c):=by
 intro c D h e
 rcases ZdF h with rfl
 ·have z:=e.symm.trans T.q_NoValue;cases z;exact ⟨T.f_NoValue,T.p_NoValue_NoPick⟩
theorem ZmW (T:Tx K mg d):∀ c D,CS.contains c=true→PySem.W.nsIn K mainGlobals c=some (some (.ref D))→ZaR K D∧PySem.W.kitOne K (.ref D) (.ref d.a_NoRow)=some (Z1 "NoRow" c):=by
 intro c D h e
 rcases ZdF h with rfl
 ·have z:=e.symm.trans T.q_NoValue;cases z;exact ⟨T.f_NoValue,T.p_NoValue_NoRow⟩
theorem Zmb (T:Tx K mg d):∀ c D,CS.contains c=true→PySem.W.nsIn K mainGlobals c=some (some (.ref D))→ZaR K D∧PySem.W.kitOne K (.ref D) (.ref d.a_NoSuch)=some (Z1 "NoSuch" c):=by
 intro c D h e
 rcases ZdF h with rfl
 ·have z:=e.symm.trans T.q_NoValue;cases z;exact ⟨T.f_NoValue,T.p_NoValue_NoSuch⟩
theorem Zmd (T:Tx K mg d):∀ c D,CS.contains c=true→PySem.W.nsIn K mainGlobals c=some (some (.ref D))→ZaR K D∧PySem.W.kitOne K (.ref D) (.ref d.a_NoText)=some (Z1 "NoText" c):=by
 intro c D h e
 rcases ZdF h with rfl
 ·have z:=e.symm.trans T.q_NoValue;cases z;exact ⟨T.f_NoValue,T.p_NoValue_NoText⟩
theorem Zk9 (T:Tx K mg d):∀ c D,CS.contains c=true→PySem.W.nsIn K mainGlobals c=some (some (.ref D))→ZaR K D∧PySem.W.kitOne K (.ref D) (.ref d.a_NoValue)=some (Z1 "NoValue" c):=by
 intro c D h e
 rcases ZdF h with rfl
 ·have z:=e.symm.trans T.q_NoValue;cases z;exact ⟨T.f_NoValue,T.p_NoValue_NoValue⟩
theorem Zlh (T:Tx K mg d):∀ c D,CS.contains c=true→PySem.W.nsIn K mainGlobals c=some (some (.ref D))→ZaR K D∧PySem.W.kitOne K (.ref D) (.ref d.a_TooMuch)=some (Z1 "TooMuch" c):=by
 intro c D h e
 rcases ZdF h with rfl
 ·have z:=e.symm.trans T.q_NoValue;cases z;exact ⟨T.f_NoValue,T.p_NoValue_TooMuch⟩
theorem ZiM (T:Tx K mg d):∀ c D,CS.contains c=true→PySem.W.nsIn K mainGlobals c=some (some (.ref D))→ZaR K D∧PySem.W.kitOne K (.ref D) (.type "ValueError")=some (Z1 "ValueError" c):=by
 intro c D h e
 rcases ZdF h with rfl
 ·have z:=e.symm.trans T.q_NoValue;cases z;exact ⟨T.f_NoValue,T.p_NoValue_ValueError⟩
theorem Zle:ZI ["thing"] ["thing"] (Zj ZcE):=⟨rfl,rfl,rfl,by decide +kernel,rfl,by decide +kernel,by decide +kernel⟩
theorem ZeU (T:Tx K mg d):FnOk P w K mg base CX0 1 d.a_is_whole d.d_is_whole ["thing"] (spD K F_is_whole) :=
 by
 refine ZZ (N:=["thing"]) (ps:=["thing"]) T.F_is_whole Zle (by decide) (g:=Zdj) (fun cdv A outer s H E M H0 hr=>?_)
 refine ZY (Zc (Zu (Zc4 (Zo ZaI ZcS (by rfl) T.n_isinstance (by rfl) (Za (Zn 0) (Za (Zk (ZaK (n:="int") (by rfl) T.n_int (by rfl))) Zf))) (Zcm (ZoJ (Zo ZaI ZcS (by rfl) T.n_isinstance (by rfl) (Za (Zn 0) (Za (Zk (ZaK (n:="bool") (by rfl) T.n_bool (by rfl))) Zf)))))))
   Zg) ?_
 rfl
theorem Zl6:ZI ["thing"] ["thing"] (Zj Zcw):=⟨rfl,rfl,rfl,by decide +kernel,rfl,by decide +kernel,by decide +kernel⟩
theorem Zl4 (T:Tx K mg d):FnOk P w K mg base CX0 1 d.a_is_word d.d_is_word ["thing"] (spD K F_is_word) :=
 by
 refine ZZ (N:=["thing"]) (ps:=["thing"]) T.F_is_word Zl6 (by decide) (g:=ZbL) (fun cdv A outer s H E M H0 hr=>?_)
 refine ZY (Zc (ZF (ZU (ZO (j_p (Zo ZaI ZcS (by rfl) T.n_isinstance (by rfl) (Za (Zn 0) (Za (Zk (ZaK (n:="str") (by rfl) T.n_str (by rfl))) Zf))))))
   (Zc (Zu ZX)
   Zg)
   Zg)
   (Zc (ZF (Zdq (Zax (Zes hr.units (j_p (Zo ZW Zac (by rfl) T.n_len (by rfl) (Za (Zn 0) Zf))) (j_p Zd)) (Za0 (ZfF hr.units (j_p (Zo ZW Zac (by rfl) T.n_len (by rfl) (Za (Zn 0) Zf))) (j_p (Zdc (d:=.int (12)) (by rfl) T.g_LONGEST_WORD (fun _ _=>by simp only [Den])))))))
   (Zc (Zu ZX)
   Zg)
   Zg)
   (Zc (Zu (Zc4 (Zea hr.units (j_p (Zp (Zl 0) (j_p Zd) (fun _ _=>rfl))) (j_p (Zdc (d:=.str "abcdefghijklmnopqrstuvwxyz") (by rfl) T.g_LETTERS (fun _ _=>by simp only [Den])))) (Zcm (Zo (Zep rfl) Zgo (by rfl) T.n_all (by rfl) (Za (Zk (ZbE (Zas ["sign"] [] [] (show ZaF ["sign"] [] _ (Zj Zcw) from ⟨rfl,by decide +kernel,by decide +kernel,by decide +kernel,by decide +kernel,by decide +kernel⟩) rfl rfl  (Zad (ZcM 0)) (fun _ _ _ _ _ _ _=>(ZH (i:=0) (show ((["sign"]:List Str)++([]:List Str)).Nodup by decide +kernel) rfl (Or.inl rfl))) (fun _ _ _ _ _ _ _=>Zbt) (fun _ _ _ _ _ _ _=>(ZlF (Zea hr.units (Zl 0) (j_p (Zdc (d:=.str "abcdefghijklmnopqrstuvwxyz") (by rfl) T.g_LETTERS (fun _ _=>by simp only [Den])))) (Zcm (Zea hr.units (Zl 0) (j_p (Zdc (d:=.str "0123456789") (by rfl) T.g_FIGURES (fun _ _=>by simp only [Den]))))))) (by decide)))) Zf)))))
   Zg))) ?_
 rfl
theorem Zld:ZI ["ladder"] ["ladder"] (Zj ZcJ):=⟨rfl,rfl,rfl,by decide +kernel,rfl,by decide +kernel,by decide +kernel⟩
theorem Zlb (T:Tx K mg d):FnOk P w K mg base CX0 1 d.a_whole_of d.d_whole_of ["ladder"] (spD K F_whole_of) :=
 by
 refine ZZ (N:=["ladder"]) (ps:=["ladder"]) T.F_whole_of Zld (by decide) (g:=Zd3) (fun cdv A outer s H E M H0 hr=>?_)
 refine ZY (Zc (Zu (Zo ZW Zac (by rfl) T.n_len (by rfl) (Za (Zk (Zp (Zl 0) (j_p Zd) (fun _ _=>rfl))) Zf)))
   Zg) ?_
 rfl
theorem Zl0:ZI ["line","level"] ["line","level"] (Zj Zc9):=⟨rfl,rfl,rfl,by decide +kernel,rfl,by decide +kernel,by decide +kernel⟩
theorem Zl9 (T:Tx K mg d):FnOk P w K mg base CX0 1 d.a_line_at d.d_line_at ["line","level"] (spD K F_line_at) :=
 by
 refine ZZ (N:=["line","level"]) (ps:=["line","level"]) T.F_line_at Zl0 (by decide) (g:=ZeF) (fun cdv A outer s H E M H0 hr=>?_)
 refine ZY (Zc (Zu (ZhZ (Zes hr.units (Zl 1) (j_p (Zo ZW Zac (by rfl) T.n_len (by rfl) (Za (Zn 0) Zf)))) (Zp (Zl 0) (Zl 1) (fun _ _=>rfl)) Zdy))
   Zg) ?_
 rfl
theorem ZiK:ZI ["_law_script","_law_k"] ["_law_script","_law_k"] (Zj Za9):=⟨rfl,rfl,rfl,by decide +kernel,rfl,by decide +kernel,by decide +kernel⟩
theorem Zcz (T:Tx K mg d):FnOk P w K mg base CX0 1 d.a_law_cell_at d.d_law_cell_at ["_law_script","_law_k"] (spD K F_law_cell_at) :=
 by
 refine ZZ (N:=["_law_script","_law_k"]) (ps:=["_law_script","_law_k"]) T.F_law_cell_at ZiK (by decide) (g:=ZcW) (fun cdv A outer s H E M H0 hr=>?_)
 refine ZY (Zc (ZF (Zes hr.units (Zl 1) (j_p (Zo ZW Zac (by rfl) T.n_len (by rfl) (Za (Zn 0) Zf))))
   (Zc (Zu (Zp (Zl 0) (Zl 1) (fun _ _=>rfl)))
   Zg)
   Zg)
   (Zc (Zu Zd)
   Zg)) ?_
 rfl
theorem sc_law_stream:ZI ["_law_cell","_law_place","_law_number","_law_some","_law_k"] ["_law_cell","_law_place"] (Zj ZbB):=⟨rfl,rfl,rfl,by decide +kernel,rfl,by decide +kernel,by decide +kernel⟩
theorem Zgc (T:Tx K mg d):FnOk P w K mg base CX0 1 d.a_law_stream d.d_law_stream ["_law_cell","_law_place"] (spD K F_law_stream) :=
 by
 refine ZZ (N:=["_law_cell","_law_place","_law_number","_law_some","_law_k"]) (ps:=["_law_cell","_law_place"]) T.F_law_stream sc_law_stream (by decide) (g:=Zej) (fun cdv A outer s H E M H0 hr=>?_)
 refine ZY (Zc (ZA (i:=2) sc_law_stream.nd rfl (Or.inl rfl) (ZM (j_p (Zz (Zl 0) (j_p (Zcr (j_p Zd) (Zl 1))))) (j_p Zd)))
   (Zc (ZbK (i:=3) sc_law_stream.nd rfl (Or.inl rfl) (Zav Zf))
   (Zc (ZaL PassesOwn.never rfl (Zb9 (by rfl) T.n_range (Za (Zk Zd) Zf)) (ZH (i:=4) sc_law_stream.nd rfl (Or.inl rfl))
   (Zc (ZA (i:=2) sc_law_stream.nd rfl (Or.inl rfl) (ZM (j_p (Zz (j_p (Zz (j_p (Zcr (Zl 2) (j_p Zd))) (j_p (Zcr (j_p Zd) (Zl 4))))) (j_p Zd))) (j_p Zd)))
   (Zc (Zbw (i:=3) rfl (by first | exact Or.inl rfl | exact Or.inr (Or.inl rfl)) (Z7 (Zl 2) (j_p Zd)))
   Zg)))
   (Zc (Zu (ZaS (Zl 3) (Zbj (j_p Zd)) Zbm))
   Zg)))) ?_
 rfl
theorem sc_law_word:ZI ["_law_cell","_law_many","_law_signs","_law_word_here","_law_k"] ["_law_cell","_law_many"] (Zj ZcB):=⟨rfl,rfl,rfl,by decide +kernel,rfl,by decide +kernel,by decide +kernel⟩
theorem Zk8 (T:Tx K mg d):FnOk P w K mg base CX0 1 d.a_law_word d.d_law_word ["_law_cell","_law_many"] (spD K F_law_word) :=
 by
 refine ZZ (N:=["_law_cell","_law_many","_law_signs","_law_word_here","_law_k"]) (ps:=["_law_cell","_law_many"]) T.F_law_word sc_law_word (by decide) (g:=ZfN) (fun cdv A outer s H E M H0 hr=>?_)
 refine ZY (Zc (ZA (i:=2) sc_law_word.nd rfl (Or.inl rfl) Zbr)
   (Zc (ZA (i:=3) sc_law_word.nd rfl (Or.inl rfl) (Zp (Zl 2) (j_p (ZM (Zl 0) (j_p Zd))) (fun _ _=>rfl)))
   (Zc (ZaL PassesOwn.never rfl (Zb9 (by rfl) T.n_range (Za (Zk (Za1 1)) Zf)) (ZH (i:=4) sc_law_word.nd rfl (Or.inl rfl))
   (Zc (ZA (i:=3) sc_law_word.nd rfl (Or.inl rfl) (Zz (Zl 3) (j_p (Zp (Zl 2) (j_p (ZM (j_p (Z7 (Zl 0) (j_p (Zz (Zl 4) (j_p Zd))))) (j_p Zd))) (fun _ _=>rfl)))))
   Zg))
   (Zc (Zu (Za1 3))
   Zg)))) ?_
 rfl
theorem sc_law_is_value:ZI ["_law_thing","_law_signs"] ["_law_thing"] (Zj Zaz):=⟨rfl,rfl,rfl,by decide +kernel,rfl,by decide +kernel,by decide +kernel⟩
theorem ZeD (T:Tx K mg d):FnOk P w K mg base CX0 1 d.a_law_is_value d.d_law_is_value ["_law_thing"] (spD K F_law_is_value) :=
 by
 refine ZZ (N:=["_law_thing","_law_signs"]) (ps:=["_law_thing"]) T.F_law_is_value sc_law_is_value (by decide) (g:=Zat) (fun cdv A outer s H E M H0 hr=>?_)
 refine ZY (Zc (ZF (ZO (j_p (Zo ZaI ZcS (by rfl) T.n_isinstance (by rfl) (Za (Zn 0) (Za (Zk (ZaK (n:="bool") (by rfl) T.n_bool (by rfl))) Zf)))))
   (Zc (Zu ZX)
   Zg)
   Zg)
   (Zc (ZF (ZO (j_p (Zo ZaI ZcS (by rfl) T.n_isinstance (by rfl) (Za (Zn 0) (Za (Zk (ZaK (n:="int") (by rfl) T.n_int (by rfl))) Zf)))))
   (Zc (Zu ZX)
   Zg)
   Zg)
   (Zc (ZF (Zdq (Zax (ZU (ZO (j_p (Zo ZaI ZcS (by rfl) T.n_isinstance (by rfl) (Za (Zn 0) (Za (Zk (ZaK (n:="str") (by rfl) T.n_str (by rfl))) Zf)))))) (Za0 (ZU (Zhm Zfu Zfu (Zd9 _) (Zd9 _) (j_p Zd) (j_p (Zo ZW Zac (by rfl) T.n_len (by rfl) (Za (Zn 0) Zf))) (j_p Zd))))))
   (Zc (Zu ZX)
   Zg)
   Zg)
   (Zc (ZA (i:=1) sc_law_is_value.nd rfl (Or.inr rfl) Zbr)
   (Zc (Zu (Zc4 (Zea hr.units (j_p (Zp (Zl 0) (j_p Zd) (fun _ _=>rfl))) (j_p (ZaS (Zl 1) (Zbj (j_p Zd)) Zbm))) (Zcm (Zo (Zep rfl) Zgo (by rfl) T.n_all (by rfl) (Za (Zk (ZbE (Zas ["_law_sign"] ["_law_signs"] [1] (show ZaF ["_law_sign"] ["_law_signs"] _ (Zj Zaz) from ⟨rfl,by decide +kernel,by decide +kernel,by decide +kernel,by decide +kernel,by decide +kernel⟩) rfl rfl  (Zad (ZcM 0)) (fun _ _ _ _ _ _ _=>(ZH (i:=0) (show ((["_law_sign"]:List Str)++(["_law_signs"]:List Str)).Nodup by decide +kernel) rfl (Or.inl rfl))) (fun _ _ _ _ _ _ _=>Zbt) (fun _ _ _ _ _ _ _=>(Zea hr.units (Zl 0) (Zl 1))) (by decide)))) Zf)))))
   Zg))))) ?_
 rfl
theorem sc_law_odd:ZI ["_law_cell","_law_value_here","_law_some"] ["_law_cell","_law_value_here"] (Zj Zc8):=⟨rfl,rfl,rfl,by decide +kernel,rfl,by decide +kernel,by decide +kernel⟩
theorem Zfx (T:Tx K mg d):FnOk P w K mg base CX0 1 d.a_law_odd d.d_law_odd ["_law_cell","_law_value_here"] (spD K F_law_odd) :=
 by
 refine ZZ (N:=["_law_cell","_law_value_here","_law_some"]) (ps:=["_law_cell","_law_value_here"]) T.F_law_odd sc_law_odd (by decide) (g:=ZeG) (fun cdv A outer s H E M H0 hr=>?_)
 refine ZY (Zc (ZA (i:=2) sc_law_odd.nd rfl (Or.inl rfl) (ZbE (Zav (Za (Zk Zdy) (Za (Zk ZX) (Za (Zk ZX) (Za (Zk Zbr) (Za (Zk (ZM (Zl 0) (j_p (ZjT (j_p Zd) (j_p Zd))))) (Za (Zk Zbr) (Za (Zk (Zcx (Za (Zk (Za1 1)) Zf))) (Za (Zk (ZbE (Zav (Za (Zk (Za1 1)) Zf)))) (Za (Zk (ZhN (j_p Zd))) (Za (Zk Zbr) Zf)))))))))))))
   (Zc (Zu (Zp (Zl 2) (j_p (ZM (Zl 0) (j_p Zd))) (fun _ _=>rfl)))
   Zg)) ?_
 rfl
theorem Zlc:ZI ["thing"] ["thing"] (Zj ZcH):=⟨rfl,rfl,rfl,by decide +kernel,rfl,by decide +kernel,by decide +kernel⟩
theorem Zhl (T:Tx K mg d):FnOk P w K mg base CX0 2 d.a_is_value d.d_is_value ["thing"] (spD K F_is_value) :=
 by
 refine ZZ (N:=["thing"]) (ps:=["thing"]) T.F_is_value Zlc (by decide) (g:=ZfC) (fun cdv A outer s H E M H0 hr=>?_)
 refine ZY (Zc (Zu (ZlF (Zy (ZeU T) (hr.mono (by decide)) (by rfl) T.m_is_whole T.F_is_whole.kp T.b_is_whole (E:=E0) ZL (Za (Zn 0) Zf)) (Zcm (Zy (Zl4 T) (hr.mono (by decide)) (by rfl) T.m_is_word T.F_is_word.kp T.b_is_word (E:=E0) ZL (Za (Zn 0) Zf)))))
   Zg) ?_
 rfl
theorem Zjv:ZI ["thing"] ["thing"] (Zj ZbC):=⟨rfl,rfl,rfl,by decide +kernel,rfl,by decide +kernel,by decide +kernel⟩
theorem Zjw (T:Tx K mg d):FnOk P w K mg base CX0 2 d.a_value_rank d.d_value_rank ["thing"] (spD K F_value_rank) :=
 by
 refine ZZ (N:=["thing"]) (ps:=["thing"]) T.F_value_rank Zjv (by decide) (g:=Zee) (fun cdv A outer s H E M H0 hr=>?_)
 refine ZY (Zc (ZF (ZhR (Zl 0))
   (Zc (Zu (Zcx (Za (Zk Zd) (Za (Zk Zd) Zf))))
   Zg)
   Zg)
   (Zc (ZF (ZO (j_p (Zy (ZeU T) (hr.mono (by decide)) (by rfl) T.m_is_whole T.F_is_whole.kp T.b_is_whole (E:=E0) ZL (Za (Zn 0) Zf))))
   (Zc (Zu (Zcx (Za (Zk Zd) (Za (Zk (Za1 0)) Zf))))
   Zg)
   Zg)
   (Zc (Zu (Zcx (Za (Zk Zd) (Za (Zk (Za1 0)) Zf))))
   Zg))) ?_
 rfl
theorem ZiN:ZI ["ladder","level"] ["ladder","level"] (Zj Za7):=⟨rfl,rfl,rfl,by decide +kernel,rfl,by decide +kernel,by decide +kernel⟩
theorem Zdz (T:Tx K mg d):FnOk P w K mg base CX0 2 d.a_has_parents d.d_has_parents ["ladder","level"] (spD K F_has_parents) :=
 by
 refine ZZ (N:=["ladder","level"]) (ps:=["ladder","level"]) T.F_has_parents ZiN (by decide) (g:=Z8) (fun cdv A outer s H E M H0 hr=>?_)
 refine ZY (Zc (Zu (Zc4 (Zy (ZeU T) (hr.mono (by decide)) (by rfl) T.m_is_whole T.F_is_whole.kp T.b_is_whole (E:=E0) ZL (Za (Zn 1) Zf)) (Zcm (Zh8 Zfu Zfu (Zd9 _) (Zd9 _) (j_p Zd) (Zl 1) (j_p (ZcZ (j_p (Zy (Zlb T) (hr.mono (by decide)) (by rfl) T.m_whole_of T.F_whole_of.kp T.b_whole_of (E:=E0) ZL (Za (Zn 0) Zf))) (j_p Zd)))))))
   Zg) ?_
 rfl
theorem sc_law_value:ZI ["_law_way","_law_cell","_law_k","_law_number","_law_word_here","_law_letters","_law_at","_law_two"] ["_law_way","_law_cell","_law_k"] (Zj Zb5):=⟨rfl,rfl,rfl,by decide +kernel,rfl,by decide +kernel,by decide +kernel⟩
theorem Zj1 (T:Tx K mg d):FnOk P w K mg base CX0 2 d.a_law_value d.d_law_value ["_law_way","_law_cell","_law_k"] (spD K F_law_value) :=
 by
 refine ZZ (N:=["_law_way","_law_cell","_law_k","_law_number","_law_word_here","_law_letters","_law_at","_law_two"]) (ps:=["_law_way","_law_cell","_law_k"]) T.F_law_value sc_law_value (by decide) (g:=Zb3) (fun cdv A outer s H E M H0 hr=>?_)
 refine ZY (Zc (ZA (i:=3) sc_law_value.nd rfl (Or.inl rfl) (ZM (j_p (Z7 (Zl 1) (j_p Zd))) (j_p (ZjT (j_p Zd) (j_p Zd)))))
   (Zc (ZF (ZaA hr.units (Zl 0) (j_p Zd))
   (Zc (Zu (Zz (Zl 3) (Zl 2)))
   Zg)
   Zg)
   (Zc (ZF (ZaA hr.units (Zl 0) (j_p Zd))
   (Zc (Zu (ZcZ (j_p (ZcZ (j_p Zd) (Zl 3))) (Zl 2)))
   Zg)
   Zg)
   (Zc (ZA (i:=4) sc_law_value.nd rfl (Or.inl rfl) (Zy (Zk8 T) (hr.mono (by decide)) (by rfl) T.m_law_word T.F_law_word.kp T.b_law_word (E:=E0) ZL (Za (Zk (Z7 (Zl 1) (j_p Zd))) (Za (Zk (ZM (Zl 1) (j_p Zd))) Zf))))
   (Zc (ZF (ZaA hr.units (Zl 0) (j_p Zd))
   (Zc (Zu (Zz (Zl 4) (j_p (ZpB PySem.F.plainAttrs_str PySem.F.slot_str_zfill PySem.F.type_str_zfill Zou Zow (j_p (ZeM ZjU Zqa (by rfl) T.n_str (by rfl) (Za (Zn 2) Zf))) (Za (Zk (Zz (j_p Zd) (j_p (ZM (j_p (Z7 (Zl 1) (j_p Zd))) (j_p Zd))))) Zf)))))
   Zg)
   Zg)
   (Zc (ZA (i:=5) sc_law_value.nd rfl (Or.inl rfl) Zbr)
   (Zc (ZA (i:=6) sc_law_value.nd rfl (Or.inl rfl) (ZM (j_p (Z7 (Zl 1) (j_p Zd))) (j_p (Zz (j_p (Zo ZW Zac (by rfl) T.n_len (by rfl) (Za (Zn 4) Zf))) (j_p Zd)))))
   (Zc (ZA (i:=7) sc_law_value.nd rfl (Or.inl rfl) (Zz (j_p (Zp (Zl 5) (j_p (Z7 (Zl 2) (j_p Zd))) (fun _ _=>rfl))) (j_p (Zp (Zl 5) (j_p (ZM (j_p (Zz (Zl 2) (j_p (Z7 (Zl 1) (j_p Zd))))) (j_p Zd))) (fun _ _=>rfl)))))
   (Zc (Zu (Zz (j_p (Zz (j_p (ZaS (Zl 4) Zbm (Zbj (Zl 6)))) (Zl 7))) (j_p (ZaS (Zl 4) (Zbj (Zl 6)) Zbm))))
   Zg))))))))) ?_
 rfl
theorem Zii:ZI ["_law_thing"] ["_law_thing"] (Zj ZaH):=⟨rfl,rfl,rfl,by decide +kernel,rfl,by decide +kernel,by decide +kernel⟩
theorem Ziz (T:Tx K mg d):FnOk P w K mg base CX0 2 d.a_law_is_line d.d_law_is_line ["_law_thing"] (spD K F_law_is_line) :=
 by
 refine ZZ (N:=["_law_thing"]) (ps:=["_law_thing"]) T.F_law_is_line Zii (by decide) (g:=ZaM) (fun cdv A outer s H E M H0 hr=>?_)
 refine ZY (Zc (Zu (Zc4 (Zo ZaI ZcS (by rfl) T.n_isinstance (by rfl) (Za (Zn 0) (Za (Zk (ZaK (n:="tuple") (by rfl) T.n_tuple (by rfl))) Zf))) (Zc4 (Zh8 Zfu Zfu (Zd9 _) (Zd9 _) (j_p Zd) (j_p (Zo ZW Zac (by rfl) T.n_len (by rfl) (Za (Zn 0) Zf))) (j_p Zd)) (Zcm (Zo (Zep rfl) Zgo (by rfl) T.n_all (by rfl) (Za (Zk (ZbE (Zas ["_law_part"] [] [] (show ZaF ["_law_part"] [] _ (Zj ZaH) from ⟨rfl,by decide +kernel,by decide +kernel,by decide +kernel,by decide +kernel,by decide +kernel⟩) rfl rfl  (Zad (ZcM 0)) (fun _ _ _ _ _ _ _=>(ZH (i:=0) (show ((["_law_part"]:List Str)++([]:List Str)).Nodup by decide +kernel) rfl (Or.inl rfl))) (fun _ _ _ _ _ _ _=>Zbt) (fun _ _ _ _ _ _ _=>(Zy (ZeD T) (hr.mono (by decide)) (by rfl) T.m_law_is_value T.F_law_is_value.kp T.b_law_is_value (E:=E0) ZL (Za (Zn 0) Zf))) (by decide)))) Zf))))))
   Zg) ?_
 rfl
theorem Zky:ZI ["_law_lines","_law_level","_law_value_here"] ["_law_lines","_law_level","_law_value_here"] (Zj Zbv):=⟨rfl,rfl,rfl,by decide +kernel,rfl,by decide +kernel,by decide +kernel⟩
theorem ZgV (T:Tx K mg d):FnOk P w K mg base CX0 2 d.a_law_there d.d_law_there ["_law_lines","_law_level","_law_value_here"] (spD K F_law_there) :=
 by
 refine ZZ (N:=["_law_lines","_law_level","_law_value_here"]) (ps:=["_law_lines","_law_level","_law_value_here"]) T.F_law_there Zky (by decide) (g:=ZcO) (fun cdv A outer s H E M H0 hr=>?_)
 refine ZY (Zc (Zu (Zc4 (Zy (ZeD T) (hr.mono (by decide)) (by rfl) T.m_law_is_value T.F_law_is_value.kp T.b_law_is_value (E:=E0) ZL (Za (Zn 2) Zf)) (Zcm (Zea hr.units (Zl 2) (j_p (ZbE (Zas ["_law_line"] ["_law_level"] [1] (show ZaF ["_law_line"] ["_law_level"] _ (Zj Zbv) from ⟨rfl,by decide +kernel,by decide +kernel,by decide +kernel,by decide +kernel,by decide +kernel⟩) rfl rfl  (Zad (ZcM 0)) (fun _ _ _ _ _ _ _=>(ZH (i:=0) (show ((["_law_line"]:List Str)++(["_law_level"]:List Str)).Nodup by decide +kernel) rfl (Or.inl rfl))) (fun _ _ _ _ _ _ _=>Zbt) (fun _ _ _ _ _ _ _=>(Zp (Zl 0) (Zl 1) (fun _ _=>rfl))) (by decide))))))))
   Zg) ?_
 rfl
theorem sc_law_drawn:ZI ["_law_cell","_law_lines","_law_level","_law_line","_law_other","_law_value_here","_law_parent","_law_way"] ["_law_cell","_law_lines"] (Zj Zb7):=⟨rfl,rfl,rfl,by decide +kernel,rfl,by decide +kernel,by decide +kernel⟩
theorem Zkj (T:Tx K mg d):FnOk P w K mg base CX0 2 d.a_law_drawn d.d_law_drawn ["_law_cell","_law_lines"] (spD K F_law_drawn) :=
 by
 refine ZZ (N:=["_law_cell","_law_lines","_law_level","_law_line","_law_other","_law_value_here","_law_parent","_law_way"]) (ps:=["_law_cell","_law_lines"]) T.F_law_drawn sc_law_drawn (by decide) (g:=Zhu) (fun cdv A outer s H E M H0 hr=>?_)
 refine ZY (Zc (ZA (i:=2) sc_law_drawn.nd rfl (Or.inl rfl) (Zp (j_p (ZbE (Zav (Za (Zk Zd) (Za (Zk Zd) (Za (Zk Zd) (Za (Zk Zd) (Za (Zk Zd) (Za (Zk Zd) (Za (Zk Zd) (Za (Zk (ZhN (j_p Zd))) Zf))))))))))) (j_p (ZM (Zl 0) (j_p Zd))) (fun _ _=>rfl)))
   (Zc (ZA (i:=3) sc_law_drawn.nd rfl (Or.inl rfl) (Zp (Zl 1) (j_p (ZM (j_p (Z7 (Zl 0) (j_p Zd))) (j_p (Zo ZW Zac (by rfl) T.n_len (by rfl) (Za (Zn 1) Zf))))) (fun _ _=>rfl)))
   (Zc (ZA (i:=4) sc_law_drawn.nd rfl (Or.inl rfl) (Zp (Zl 1) (j_p (ZM (j_p (Z7 (Zl 0) (j_p Zd))) (j_p (Zo ZW Zac (by rfl) T.n_len (by rfl) (Za (Zn 1) Zf))))) (fun _ _=>rfl)))
   (Zc (ZA (i:=5) sc_law_drawn.nd rfl (Or.inl rfl) (Zp (Zl 3) (j_p (Zo (ZiV rfl) Zlu (by rfl) T.n_min (by rfl) (Za (Zk (Zo (Zi4 rfl) ZlI (by rfl) T.n_max (by rfl) (Za (Zn 2) (Za (Zk Zd) Zf)))) (Za (Zk (ZcZ (j_p (Zo ZW Zac (by rfl) T.n_len (by rfl) (Za (Zn 3) Zf))) (j_p Zd))) Zf)))) (fun _ _=>rfl)))
   (Zc (ZA (i:=6) sc_law_drawn.nd rfl (Or.inl rfl) (Zp (Zl 4) (j_p (Zo (ZiV rfl) Zlu (by rfl) T.n_min (by rfl) (Za (Zk (Zo (Zi4 rfl) ZlI (by rfl) T.n_max (by rfl) (Za (Zk (Zz (Zl 2) (j_p Zd))) (Za (Zk Zd) Zf)))) (Za (Zk (ZcZ (j_p (Zo ZW Zac (by rfl) T.n_len (by rfl) (Za (Zn 3) Zf))) (j_p Zd))) Zf)))) (fun _ _=>rfl)))
   (Zc (ZA (i:=7) sc_law_drawn.nd rfl (Or.inl rfl) (ZM (j_p (Z7 (Zl 0) (j_p Zd))) (j_p Zd)))
   (Zc (ZF (ZaA hr.units (Zl 7) (j_p Zd))
   (Zc (ZA (i:=2) sc_law_drawn.nd rfl (Or.inl rfl) (Zy (Zfx T) (hr.mono (by decide)) (by rfl) T.m_law_odd T.F_law_odd.kp T.b_law_odd (E:=E0) ZL (Za (Zk (Z7 (Zl 0) (j_p Zd))) (Za (Zn 2) Zf))))
   Zg)
   Zg)
   (Zc (ZF (ZaA hr.units (Zl 7) (j_p Zd))
   (Zc (ZA (i:=5) sc_law_drawn.nd rfl (Or.inl rfl) (Zy (Zfx T) (hr.mono (by decide)) (by rfl) T.m_law_odd T.F_law_odd.kp T.b_law_odd (E:=E0) ZL (Za (Zk (Z7 (Zl 0) (j_p Zd))) (Za (Zn 5) Zf))))
   Zg)
   Zg)
   (Zc (ZF (ZaA hr.units (Zl 7) (j_p Zd))
   (Zc (ZA (i:=6) sc_law_drawn.nd rfl (Or.inl rfl) (Zy (Zfx T) (hr.mono (by decide)) (by rfl) T.m_law_odd T.F_law_odd.kp T.b_law_odd (E:=E0) ZL (Za (Zk (Z7 (Zl 0) (j_p Zd))) (Za (Zn 6) Zf))))
   Zg)
   Zg)
   (Zc (ZF (ZaA hr.units (Zl 7) (j_p Zd))
   (Zc (ZA (i:=6) sc_law_drawn.nd rfl (Or.inl rfl) (Za1 5))
   Zg)
   Zg)
   (Zc (Zu (Zcx (Za (Zk (Za1 2)) (Za (Zk (Za1 5)) (Za (Zk (Za1 6)) Zf)))))
   Zg))))))))))) ?_
 rfl
theorem Zk1:ZI ["key"] ["key"] (Zj ZbM):=⟨rfl,rfl,rfl,by decide +kernel,rfl,by decide +kernel,by decide +kernel⟩
theorem Zlf (T:Tx K mg d):FnOk P w K mg base CX0 3 d.a_key_rank d.d_key_rank ["key"] (spD K F_key_rank) :=
 by
 refine ZZ (N:=["key"]) (ps:=["key"]) T.F_key_rank Zk1 (by decide) (g:=Zfo) (fun cdv A outer s H E M H0 hr=>?_)
 refine ZY (Zc (Zu (ZeM Zgg Zkm (by rfl) T.n_tuple (by rfl) (Za (Zk (ZbE (Zas ["thing"] [] [] (show ZaF ["thing"] [] _ (Zj ZbM) from ⟨rfl,by decide +kernel,by decide +kernel,by decide +kernel,by decide +kernel,by decide +kernel⟩) rfl rfl  (Zad (ZcM 0)) (fun _ _ _ _ _ _ _=>(ZH (i:=0) (show ((["thing"]:List Str)++([]:List Str)).Nodup by decide +kernel) rfl (Or.inl rfl))) (fun _ _ _ _ _ _ _=>Zbt) (fun _ _ _ _ _ _ _=>(Zy (Zjw T) (hr.mono (by decide)) (by rfl) T.m_value_rank T.F_value_rank.kp T.b_value_rank (E:=E0) ZL (Za (Zn 0) Zf))) (by decide)))) Zf)))
   Zg) ?_
 rfl
theorem Zmc:ZI ["thing"] ["thing"] (Zj Zcu):=⟨rfl,rfl,rfl,by decide +kernel,rfl,by decide +kernel,by decide +kernel⟩
theorem ZmI (T:Tx K mg d):FnOk P w K mg base CX0 3 d.a_is_line d.d_is_line ["thing"] (spD K F_is_line) :=
 by
 refine ZZ (N:=["thing"]) (ps:=["thing"]) T.F_is_line Zmc (by decide) (g:=Zco) (fun cdv A outer s H E M H0 hr=>?_)
 refine ZY (Zc (ZF (ZU (ZO (j_p (Zo ZaI ZcS (by rfl) T.n_isinstance (by rfl) (Za (Zn 0) (Za (Zk (ZaK (n:="tuple") (by rfl) T.n_tuple (by rfl))) Zf))))))
   (Zc (Zu ZX)
   Zg)
   Zg)
   (Zc (ZF (Zdq (Zax (Zes hr.units (j_p (Zo ZW Zac (by rfl) T.n_len (by rfl) (Za (Zn 0) Zf))) (j_p Zd)) (Za0 (ZfF hr.units (j_p (Zo ZW Zac (by rfl) T.n_len (by rfl) (Za (Zn 0) Zf))) (j_p (Zdc (d:=.int (4)) (by rfl) T.g_LONGEST_LINE (fun _ _=>by simp only [Den])))))))
   (Zc (Zu ZX)
   Zg)
   Zg)
   (Zc (Zu (Zo (Zep rfl) Zgo (by rfl) T.n_all (by rfl) (Za (Zk (ZbE (Zas ["value"] [] [] (show ZaF ["value"] [] _ (Zj Zcu) from ⟨rfl,by decide +kernel,by decide +kernel,by decide +kernel,by decide +kernel,by decide +kernel⟩) rfl rfl  (Zad (ZcM 0)) (fun _ _ _ _ _ _ _=>(ZH (i:=0) (show ((["value"]:List Str)++([]:List Str)).Nodup by decide +kernel) rfl (Or.inl rfl))) (fun _ _ _ _ _ _ _=>Zbt) (fun _ _ _ _ _ _ _=>(Zy (Zhl T) (hr.mono (by decide)) (by rfl) T.m_is_value T.F_is_value.kp T.b_is_value (E:=E0) ZL (Za (Zn 0) Zf))) (by decide)))) Zf)))
   Zg))) ?_
 rfl
theorem sc_law_ladder:ZI ["_law_cell","_law_many","_law_places","_law_s","_law_widths","_law_j","_law_lines","_law_k","_law_at","_law_line","_law_near"] ["_law_cell","_law_many","_law_places"] (Zj ZbD):=⟨rfl,rfl,rfl,by decide +kernel,rfl,by decide +kernel,by decide +kernel⟩
theorem Zjp (T:Tx K mg d):FnOk P w K mg base CX0 3 d.a_law_ladder d.d_law_ladder ["_law_cell","_law_many","_law_places"] (spD K F_law_ladder) :=
 by
 refine ZZ (N:=["_law_cell","_law_many","_law_places","_law_s","_law_widths","_law_j","_law_lines","_law_k","_law_at","_law_line","_law_near"]) (ps:=["_law_cell","_law_many","_law_places"]) T.F_law_ladder sc_law_ladder (by decide) (g:=ZgH) (fun cdv A outer s H E M H0 hr=>?_)
 refine ZY (Zc (ZA (i:=3) sc_law_ladder.nd rfl (Or.inl rfl) (Zy (Zgc T) (hr.mono (by decide)) (by rfl) T.m_law_stream T.F_law_stream.kp T.b_law_stream (E:=E0) ZL (Za (Zn 0) (Za (Zn 2) Zf))))
   (Zc (ZbK (i:=4) sc_law_ladder.nd rfl (Or.inl rfl) (Zav (Za (Zk Zd) Zf)))
   (Zc (ZaL PassesOwn.never rfl (Zli (by rfl) T.n_range (Za (Zk Zd) (Za (Zk Zd) Zf))) (ZH (i:=5) sc_law_ladder.nd rfl (Or.inl rfl))
   (Zc (Zbw (i:=4) rfl (by first | exact Or.inl rfl | exact Or.inr (Or.inl rfl)) (Zp (j_p (ZbE (Zav (Za (Zk (Zz (j_p Zd) (j_p (ZM (j_p (Zp (Zl 3) (Zl 5) (fun _ _=>rfl))) (j_p Zd))))) (Za (Zk (Zz (j_p Zd) (j_p (ZM (j_p (Zp (Zl 3) (Zl 5) (fun _ _=>rfl))) (j_p Zd))))) (Za (Zk Zd) (Za (Zk Zd) Zf))))))) (j_p (ZM (j_p (Z7 (j_p (Zp (Zl 3) (Zl 5) (fun _ _=>rfl))) (j_p Zd))) (j_p Zd))) (fun _ _=>rfl)))
   Zg))
   (Zc (ZbK (i:=6) sc_law_ladder.nd rfl (Or.inl rfl) (Zav Zf))
   (Zc (ZaL PassesOwn.never rfl (Zb9 (by rfl) T.n_range (Za (Zk (Za1 1)) Zf)) (ZH (i:=7) sc_law_ladder.nd rfl (Or.inl rfl))
   (Zc (ZA (i:=8) sc_law_ladder.nd rfl (Or.inl rfl) (ZM (j_p (Zz (j_p (Zcr (Zl 7) (j_p (Zz (j_p Zd) (j_p (ZM (j_p (Zp (Zl 3) (j_p Zd) (fun _ _=>rfl))) (j_p Zd))))))) (j_p (Zp (Zl 3) (j_p Zd) (fun _ _=>rfl))))) (j_p Zd)))
   (Zc (ZbK (i:=9) sc_law_ladder.nd rfl (Or.inl rfl) (Zav Zf))
   (Zc (ZaL PassesOwn.never rfl (Zb9 (by rfl) T.n_range (Za (Zk (Za1 2)) Zf)) (ZH (i:=5) sc_law_ladder.nd rfl (Or.inl rfl))
   (Zc (ZF (ZfF hr.units (Zl 5) (j_p Zd))
   (Zc (ZA (i:=8) sc_law_ladder.nd rfl (Or.inl rfl) (ZM (j_p (Zz (j_p (Zcr (Zl 8) (j_p (Zz (j_p Zd) (j_p (ZM (j_p (Zp (Zl 3) (j_p (Zz (j_p Zd) (Zl 5))) (fun _ _=>rfl))) (j_p Zd))))))) (j_p (Zp (Zl 3) (j_p (Zz (j_p Zd) (Zl 5))) (fun _ _=>rfl))))) (j_p (Zp (Zl 4) (Zl 5) (fun _ _=>rfl)))))
   Zg)
   Zg)
   (Zc (ZA (i:=10) sc_law_ladder.nd rfl (Or.inl rfl) (Zz (Zl 0) (j_p (Zcr (j_p (Zcr (Zl 5) (j_p (ZM (j_p (Zp (Zl 3) (j_p Zd) (fun _ _=>rfl))) (j_p Zd))))) (j_p Zd)))))
   (Zc (Zbw (i:=9) rfl (by first | exact Or.inl rfl | exact Or.inr (Or.inl rfl)) (Zy (Zj1 T) (hr.mono (by decide)) (by rfl) T.m_law_value T.F_law_value.kp T.b_law_value (E:=E0) ZL (Za (Zk (ZM (j_p (Zp (Zl 3) (j_p (Zz (j_p Zd) (Zl 5))) (fun _ _=>rfl))) (j_p Zd))) (Za (Zn 10) (Za (Zn 8) Zf)))))
   Zg))))
   (Zc (Zbw (i:=6) rfl (by first | exact Or.inl rfl | exact Or.inr (Or.inl rfl)) (ZeM Zgg Zkm (by rfl) T.n_tuple (by rfl) (Za (Zn 9) Zf)))
   Zg)))))
   (Zc (Zh7 6)
   Zg)))))) ?_
 rfl
theorem sc_law_go_on:ZI ["_law_lines","_law_above","_law_begun","_law_line","_law_at"] ["_law_lines"] (Zj Zcb):=⟨rfl,rfl,rfl,by decide +kernel,rfl,by decide +kernel,by decide +kernel⟩
theorem ZjV (T:Tx K mg d):FnOk P w K mg base CX0 3 d.a_law_go_on d.d_law_go_on ["_law_lines"] (spD K F_law_go_on) :=
 by
 refine ZZ (N:=["_law_lines","_law_above","_law_begun","_law_line","_law_at"]) (ps:=["_law_lines"]) T.F_law_go_on sc_law_go_on (by decide) (g:=Zb6) (fun cdv A outer s H E M H0 hr=>?_)
 refine ZY (Zc (ZeE (i:=1) sc_law_go_on.nd rfl (Or.inl rfl) ZfB)
   (Zc (ZeE (i:=2) sc_law_go_on.nd rfl (Or.inl rfl) ZfB)
   (Zc (ZaL PassesOwn.never rfl (Zad (ZcM 0)) (ZH (i:=3) sc_law_go_on.nd rfl (Or.inl rfl))
   (Zc (ZF (Zdq (Zax (ZU (ZO (j_p (Zy (Ziz T) (hr.mono (by decide)) (by rfl) T.m_law_is_line T.F_law_is_line.kp T.b_law_is_line (E:=E0) ZL (Za (Zn 3) Zf))))) (Zax (Zdu hr.units (j_p (Zo ZW Zac (by rfl) T.n_len (by rfl) (Za (Zn 3) Zf))) (j_p (Zo ZW Zac (by rfl) T.n_len (by rfl) (Za (Zk (Zp (Zl 0) (j_p Zd) (fun _ _=>rfl))) Zf)))) (Za0 (Zi7 hr.units (j_p (Zp (Zl 3) (j_p Zd) (fun _ _=>rfl))) (Zl 2))))))
   (Zc (Zu ZX)
   Zg)
   Zg)
   (Zc (Zi2 (i:=2) hr.units (j_p (Zp (Zl 3) (j_p Zd) (fun _ _=>rfl))) ZX)
   (Zc (ZaL PassesOwn.never rfl (Zb9 (by rfl) T.n_range (Za (Zk (ZcZ (j_p (Zo ZW Zac (by rfl) T.n_len (by rfl) (Za (Zn 3) Zf))) (j_p Zd))) Zf)) (ZH (i:=4) sc_law_go_on.nd rfl (Or.inl rfl))
   (Zc (ZjM (ZkM hr.units (Zlm (i:=1) hr.units (j_p (Zcx (Za (Zk (Za1 4)) (Za (Zk (Zp (Zl 3) (Zl 4) (fun _ _=>rfl))) Zf)))) (Zp (Zl 3) (j_p (Zz (Zl 4) (j_p Zd))) (fun _ _=>rfl))) (j_p (Zp (Zl 3) (j_p (Zz (Zl 4) (j_p Zd))) (fun _ _=>rfl))))
   (Zc (Zu ZX)
   Zg)
   Zg)
   Zg))
   Zg))))
   (Zc (Zu ZX)
   Zg)))) ?_
 rfl
theorem sc_law_due:ZI ["_law_lines","_law_level","_law_value_here","_law_parent","_law_tail","_law_found","_law_line"] ["_law_lines","_law_level","_law_value_here","_law_parent"] (Zj Zcq):=⟨rfl,rfl,rfl,by decide +kernel,rfl,by decide +kernel,by decide +kernel⟩
theorem Zma (T:Tx K mg d):FnOk P w K mg base CX0 3 d.a_law_due d.d_law_due ["_law_lines","_law_level","_law_value_here","_law_parent"] (spD K F_law_due) :=
 by
 refine ZZ (N:=["_law_lines","_law_level","_law_value_here","_law_parent","_law_tail","_law_found","_law_line"]) (ps:=["_law_lines","_law_level","_law_value_here","_law_parent"]) T.F_law_due sc_law_due (by decide) (g:=Zi6) (fun cdv A outer s H E M H0 hr=>?_)
 refine ZY (Zc (ZF (Zdq (Zax (ZO (j_p (Zo ZaI ZcS (by rfl) T.n_isinstance (by rfl) (Za (Zn 1) (Za (Zk (ZaK (n:="bool") (by rfl) T.n_bool (by rfl))) Zf))))) (Zax (ZU (ZO (j_p (Zo ZaI ZcS (by rfl) T.n_isinstance (by rfl) (Za (Zn 1) (Za (Zk (ZaK (n:="int") (by rfl) T.n_int (by rfl))) Zf)))))) (Za0 (ZU (Zhm Zfu (ZnB hr.units) (Zd9 _) Zpb (j_p Zd) (Zl 1) (j_p (ZcZ (j_p (Zo ZW Zac (by rfl) T.n_len (by rfl) (Za (Zk (Zp (Zl 0) (j_p Zd) (fun _ _=>rfl))) Zf))) (j_p Zd)))))))))
   (Zc (Zu Zdy)
   Zg)
   Zg)
   (Zc (ZF (Zdq (Zax (ZU (ZO (j_p (Zy (ZgV T) (hr.mono (by decide)) (by rfl) T.m_law_there T.F_law_there.kp T.b_law_there (E:=E0) ZL (Za (Zn 0) (Za (Zn 1) (Za (Zn 2) Zf))))))) (Za0 (ZU (ZO (j_p (Zy (ZgV T) (hr.mono (by decide)) (by rfl) T.m_law_there T.F_law_there.kp T.b_law_there (E:=E0) ZL (Za (Zn 0) (Za (Zk (Zz (Zl 1) (j_p Zd))) (Za (Zn 3) Zf))))))))))
   (Zc (Zu Zdy)
   Zg)
   Zg)
   (Zc (ZA (i:=4) sc_law_due.nd rfl (Or.inl rfl) (ZaS (j_p (Zp (j_p (ZbE (Zas ["_law_line"] ["_law_level","_law_parent"] [1,3] (show ZaF ["_law_line"] ["_law_level","_law_parent"] _ (Zj Zcq) from ⟨rfl,by decide +kernel,by decide +kernel,by decide +kernel,by decide +kernel,by decide +kernel⟩) rfl rfl  (Zad (ZcM 0)) (fun _ _ _ _ _ _ _=>(ZH (i:=0) (show ((["_law_line"]:List Str)++(["_law_level","_law_parent"]:List Str)).Nodup by decide +kernel) rfl (Or.inl rfl))) (fun _ _ _ _ _ _ _=>(ZhF (ZaA hr.units (j_p (Zp (Zl 0) (j_p (Zz (Zl 1) (j_p Zd))) (fun _ _=>rfl))) (Zl 2)))) (fun _ _ _ _ _ _ _=>(Za1 0)) (by decide)))) (j_p Zd) (fun _ _=>rfl))) (Zbj (j_p (Zz (Zl 1) (j_p Zd)))) Zbm))
   (Zc (ZbK (i:=5) sc_law_due.nd rfl (Or.inl rfl) (Zav Zf))
   (Zc (ZaL PassesOwn.never rfl (Zad (ZcM 0)) (ZH (i:=6) sc_law_due.nd rfl (Or.inl rfl))
   (Zc (ZF (ZaA hr.units (j_p (Zp (Zl 6) (Zl 1) (fun _ _=>rfl))) (Zl 2))
   (Zc (Zbw (i:=5) rfl (by first | exact Or.inl rfl | exact Or.inr (Or.inl rfl)) (Zz (j_p (ZaS (Zl 6) Zbm (Zbj (j_p (Zz (Zl 1) (j_p Zd)))))) (Zl 4)))
   Zg)
   (Zc (Zbw (i:=5) rfl (by first | exact Or.inl rfl | exact Or.inr (Or.inl rfl)) (Za1 6))
   Zg))
   Zg))
   (Zc (Zh7 5)
   Zg)))))) ?_
 rfl
theorem sc_go_together:ZI ["lines","seen","finest_seen","line","level","value","later"] ["lines"] (Zj ZaJ):=⟨rfl,rfl,rfl,by decide +kernel,rfl,by decide +kernel,by decide +kernel⟩
theorem Zin (T:Tx K mg d):FnOk P w K mg base CX0 4 d.a_go_together d.d_go_together ["lines"] (spD K F_go_together) :=
 by
 refine ZZ (N:=["lines","seen","finest_seen","line","level","value","later"]) (ps:=["lines"]) T.F_go_together sc_go_together (by decide) (g:=Za6) (fun cdv A outer s H E M H0 hr=>?_)
 refine ZY (Zc (ZF (ZU (ZO (j_p (Zo (Zep rfl) Zgo (by rfl) T.n_all (by rfl) (Za (Zk (ZbE (Zas ["line"] [] [] (show ZaF ["line"] [] _ (Zj ZaJ) from ⟨rfl,by decide +kernel,by decide +kernel,by decide +kernel,by decide +kernel,by decide +kernel⟩) rfl rfl  (Zad (ZcM 0)) (fun _ _ _ _ _ _ _=>(ZH (i:=0) (show ((["line"]:List Str)++([]:List Str)).Nodup by decide +kernel) rfl (Or.inl rfl))) (fun _ _ _ _ _ _ _=>Zbt) (fun _ _ _ _ _ _ _=>(Zy (ZmI T) (hr.mono (by decide)) (by rfl) T.m_is_line T.F_is_line.kp T.b_is_line (E:=E0) ZL (Za (Zn 0) Zf))) (by decide)))) Zf)))))
   (Zc (Zu ZX)
   Zg)
   Zg)
   (Zc (ZeE (i:=1) sc_go_together.nd rfl (Or.inl rfl) ZfB)
   (Zc (ZeE (i:=2) sc_go_together.nd rfl (Or.inl rfl) ZfB)
   (Zc (ZaL PassesOwn.never rfl (Zad (ZcM 0)) (ZH (i:=3) sc_go_together.nd rfl (Or.inl rfl))
   (Zc (ZF (Zdq (Zax (Zdu hr.units (j_p (Zo ZW Zac (by rfl) T.n_len (by rfl) (Za (Zn 3) Zf))) (j_p (Zo ZW Zac (by rfl) T.n_len (by rfl) (Za (Zk (Zp (Zl 0) (j_p Zd) (fun _ _=>rfl))) Zf)))) (Za0 (Zi7 hr.units (j_p (Zp (Zl 3) (j_p Zd) (fun _ _=>rfl))) (Zl 2)))))
   (Zc (Zu ZX)
   Zg)
   Zg)
   (Zc (Zi2 (i:=2) hr.units (j_p (Zp (Zl 3) (j_p Zd) (fun _ _=>rfl))) ZX)
   (Zc (ZaL PassesOwn.never rfl (Zng (by rfl) T.n_enumerate (ZcM 3)) (Zj9 (n:=2) rfl (Zdh (ZH (i:=4) sc_go_together.nd rfl (Or.inl rfl)) (Zdh (ZH (i:=5) sc_go_together.nd rfl (Or.inl rfl)) ZiS)))
   (Zc (ZA (i:=6) sc_go_together.nd rfl (Or.inl rfl) (ZaS (Zl 3) (Zbj (j_p (Zz (Zl 4) (j_p Zd)))) Zbm))
   (Zc (ZjM (ZkM hr.units (Zlm (i:=1) hr.units (j_p (Zcx (Za (Zk (Za1 4)) (Za (Zk (Za1 5)) Zf)))) (Za1 6)) (Zl 6))
   (Zc (Zu ZX)
   Zg)
   Zg)
   Zg)))
   Zg))))
   (Zc (Zu ZX)
   Zg))))) ?_
 rfl
theorem ZkT:ZI ["thing"] ["thing"] (Zj Zca):=⟨rfl,rfl,rfl,by decide +kernel,rfl,by decide +kernel,by decide +kernel⟩
theorem Zkc (T:Tx K mg d):FnOk P w K mg base CX0 5 d.a_is_ladder d.d_is_ladder ["thing"] (spD K F_is_ladder) :=
 by
 refine ZZ (N:=["thing"]) (ps:=["thing"]) T.F_is_ladder ZkT (by decide) (g:=ZdB) (fun cdv A outer s H E M H0 hr=>?_)
 refine ZY (Zc (ZF (ZU (ZO (j_p (Zo ZaI ZcS (by rfl) T.n_isinstance (by rfl) (Za (Zn 0) (Za (Zk (ZaK (n:="list") (by rfl) T.n_list (by rfl))) Zf))))))
   (Zc (Zu ZX)
   Zg)
   Zg)
   (Zc (ZF (Zdq (Zax (Zes hr.units (j_p (Zo ZW Zac (by rfl) T.n_len (by rfl) (Za (Zn 0) Zf))) (j_p Zd)) (Za0 (ZfF hr.units (j_p (Zo ZW Zac (by rfl) T.n_len (by rfl) (Za (Zn 0) Zf))) (j_p (Zdc (d:=.int (40)) (by rfl) T.g_MOST_LINES (fun _ _=>by simp only [Den])))))))
   (Zc (Zu ZX)
   Zg)
   Zg)
   (Zc (Zu (Zy (Zin T) (hr.mono (by decide)) (by rfl) T.m_go_together T.F_go_together.kp T.b_go_together (E:=E0) ZL (Za (Zn 0) Zf)))
   Zg))) ?_
 rfl
theorem sc_in_order:ZI ["keys","told","key"] ["keys"] (Zj ZcG):=⟨rfl,rfl,rfl,by decide +kernel,rfl,by decide +kernel,by decide +kernel⟩
theorem Zk5 (T:Tx K mg d):FnOk P w K mg base CX0 6 d.a_in_order d.d_in_order ["keys"] (spD K F_in_order) :=
 by
 refine ZZ (N:=["keys","told","key"]) (ps:=["keys"]) T.F_in_order sc_in_order (by decide) (g:=Zd5) (fun cdv A outer s H E M H0 hr=>?_)
 refine ZY (Zc (ZbK (i:=1) sc_in_order.nd rfl (Or.inl rfl) (Zav Zf))
   (Zc (ZaL PassesOwn.never rfl (Zad (j_q (ZbE (ZmH (Zlf T) (hr.mono (by decide)) (by rfl) T.n_sorted (by rfl) (by rfl) T.m_key_rank T.b_key_rank (Zl 0))))) (ZH (i:=2) sc_in_order.nd rfl (Or.inl rfl))
   (Zc (ZF (Zdq (Zax (ZU (ZO (Zl 1))) (Za0 (Zdu hr.units (j_p (Zp (Zl 1) (j_p (ZhN (j_p Zd))) (fun _ _=>rfl))) (Zl 2)))))
   (Zc (Zbw (i:=1) rfl (by first | exact Or.inl rfl | exact Or.inr (Or.inl rfl)) (Za1 2))
   Zg)
   Zg)
   Zg))
   (Zc (Zh7 1)
   Zg))) ?_
 rfl
theorem Zgv:ZI ["values"] ["values"] (Zj Zab):=⟨rfl,rfl,rfl,by decide +kernel,rfl,by decide +kernel,by decide +kernel⟩
theorem ZgJ (T:Tx K mg d):FnOk P w K mg base CX0 7 d.a_values_in_order d.d_values_in_order ["values"] (spD K F_values_in_order) :=
 by
 refine ZZ (N:=["values"]) (ps:=["values"]) T.F_values_in_order Zgv (by decide) (g:=Zby) (fun cdv A outer s H E M H0 hr=>?_)
 refine ZY (Zc (ZeA (Zas ["key"] [] [] (show ZaF ["key"] [] _ (Zj Zab) from ⟨rfl,by decide +kernel,by decide +kernel,by decide +kernel,by decide +kernel,by decide +kernel⟩) rfl rfl  (Zad (j_q (Zy (Zk5 T) (hr.mono (by decide)) (by rfl) T.m_in_order T.F_in_order.kp T.b_in_order (E:=E0) ZL (Za (Zk (ZbE (Zas ["value"] [] [] (show ZaF ["value"] [] _ (Zj Zab) from ⟨rfl,by decide +kernel,by decide +kernel,by decide +kernel,by decide +kernel,by decide +kernel⟩) rfl rfl  (Zad (ZcM 0)) (fun _ _ _ _ _ _ _=>(ZH (i:=0) (show ((["value"]:List Str)++([]:List Str)).Nodup by decide +kernel) rfl (Or.inl rfl))) (fun _ _ _ _ _ _ _=>Zbt) (fun _ _ _ _ _ _ _=>(Zcx (Za (Zk (Za1 0)) Zf))) (by decide)))) Zf)))) (fun _ _ _ _ _ _ _=>(ZH (i:=0) (show ((["key"]:List Str)++([]:List Str)).Nodup by decide +kernel) rfl (Or.inl rfl))) (fun _ _ _ _ _ _ _=>Zbt) (fun _ _ _ _ _ _ _=>(Zp (Zl 0) (j_p Zd) (fun _ _=>rfl))) (by decide)))
   Zg) ?_
 rfl
theorem Zmk:ZI ["ladder","level","value"] ["ladder","level","value"] (Zj Zcv):=⟨rfl,rfl,rfl,by decide +kernel,rfl,by decide +kernel,by decide +kernel⟩
theorem Zl3 (T:Tx K mg d):FnOk P w K mg base CX0 8 d.a_beneath d.d_beneath ["ladder","level","value"] (spD K F_beneath) :=
 by
 refine ZZ (N:=["ladder","level","value"]) (ps:=["ladder","level","value"]) T.F_beneath Zmk (by decide) (g:=Zcp) (fun cdv A outer s H E M H0 hr=>?_)
 refine ZY (Zc (ZF (Zdq (Zfq (Zgn (Zl 2)) (ZgT (ZU (ZO (j_p (Zy (Zhl T) (hr.mono (by decide)) (by rfl) T.m_is_value T.F_is_value.kp T.b_is_value (E:=E0) ZL (Za (Zn 2) Zf))))))))
   (Zc (ZeA (Zav Zf))
   Zg)
   Zg)
   (Zc (ZeA (ZgQ (ZgJ T) (hr.mono (by decide)) (by rfl) T.m_values_in_order T.F_values_in_order.kp T.b_values_in_order (E:=E0) ZL (Za (Zk (ZbE (Zas ["line"] ["level","value"] [1,2] (show ZaF ["line"] ["level","value"] _ (Zj Zcv) from ⟨rfl,by decide +kernel,by decide +kernel,by decide +kernel,by decide +kernel,by decide +kernel⟩) rfl rfl  (Zad (ZcM 0)) (fun _ _ _ _ _ _ _=>(ZH (i:=0) (show ((["line"]:List Str)++(["level","value"]:List Str)).Nodup by decide +kernel) rfl (Or.inl rfl))) (fun _ _ _ _ _ _ _=>(ZhF (ZaA hr.units (j_p (Zy (Zl9 T) (hr.mono (by decide)) (by rfl) T.m_line_at T.F_line_at.kp T.b_line_at (E:=E0) ZL (Za (Zn 0) (Za (Zn 1) Zf)))) (Zl 2)))) (fun _ _ _ _ _ _ _=>(Zp (Zl 0) (j_p Zd) (fun _ _=>rfl))) (by decide)))) Zf)))
   Zg)) ?_
 rfl
theorem ZiJ:ZI ["ladder","level","thing"] ["ladder","level","thing"] (Zj Zbc):=⟨rfl,rfl,rfl,by decide +kernel,rfl,by decide +kernel,by decide +kernel⟩
theorem Zbz (T:Tx K mg d):FnOk P w K mg base CX0 9 d.a_is_value_at d.d_is_value_at ["ladder","level","thing"] (spD K F_is_value_at) :=
 by
 refine ZZ (N:=["ladder","level","thing"]) (ps:=["ladder","level","thing"]) T.F_is_value_at ZiJ (by decide) (g:=ZcR) (fun cdv A outer s H E M H0 hr=>?_)
 refine ZY (Zc (Zu (ZpX hr.units (j_p (Zo ZW Zac (by rfl) T.n_len (by rfl) (Za (Zk (Zy (Zl3 T) (hr.mono (by decide)) (by rfl) T.m_beneath T.F_beneath.kp T.b_beneath (E:=E0) ZL (Za (Zn 0) (Za (Zn 1) (Za (Zn 2) Zf))))) Zf))) (j_p Zd)))
   Zg) ?_
 rfl
theorem sc_regrouped:ZI ["ladder","level","value","parent","rest"] ["ladder","level","value","parent"] (Zj ZaT):=⟨rfl,rfl,rfl,by decide +kernel,rfl,by decide +kernel,by decide +kernel⟩
theorem ZgR (T:Tx K mg d):FnOk P w K mg base CX0 10 d.a_regrouped d.d_regrouped ["ladder","level","value","parent"] (spD K F_regrouped) :=
 by
 refine ZZ (N:=["ladder","level","value","parent","rest"]) (ps:=["ladder","level","value","parent"]) T.F_regrouped sc_regrouped (by decide) (g:=Zhk) (fun cdv A outer s H E M H0 hr=>?_)
 refine ZY (Zc (ZF (ZU (ZO (j_p (Zy (Zdz T) (hr.mono (by decide)) (by rfl) T.m_has_parents T.F_has_parents.kp T.b_has_parents (E:=E0) ZL (Za (Zn 0) (Za (Zn 1) Zf))))))
   (Zc Zdk
   Zg)
   Zg)
   (Zc (ZF (ZU (ZO (j_p (Zy (Zbz T) (hr.mono (by decide)) (by rfl) T.m_is_value_at T.F_is_value_at.kp T.b_is_value_at (E:=E0) ZL (Za (Zn 0) (Za (Zn 1) (Za (Zn 2) Zf)))))))
   (Zc Zdk
   Zg)
   Zg)
   (Zc (ZF (ZU (ZO (j_p (Zy (Zbz T) (hr.mono (by decide)) (by rfl) T.m_is_value_at T.F_is_value_at.kp T.b_is_value_at (E:=E0) ZL (Za (Zn 0) (Za (Zk (Zz (Zl 1) (j_p Zd))) (Za (Zn 3) Zf)))))))
   (Zc Zdk
   Zg)
   Zg)
   (Zc (ZA (i:=4) sc_regrouped.nd rfl (Or.inr rfl) (Zp (j_p (ZbE (Zas ["line"] ["level","parent"] [1,3] (show ZaF ["line"] ["level","parent"] _ (Zj ZaT) from ⟨rfl,by decide +kernel,by decide +kernel,by decide +kernel,by decide +kernel,by decide +kernel⟩) rfl rfl  (Zad (ZcM 0)) (fun _ _ _ _ _ _ _=>(ZH (i:=0) (show ((["line"]:List Str)++(["level","parent"]:List Str)).Nodup by decide +kernel) rfl (Or.inl rfl))) (fun _ _ _ _ _ _ _=>(ZhF (ZaA hr.units (j_p (Zp (Zl 0) (j_p (Zz (Zl 1) (j_p Zd))) (fun _ _=>rfl))) (Zl 2)))) (fun _ _ _ _ _ _ _=>(ZaS (Zl 0) (Zbj (j_p (Zz (Zl 1) (j_p Zd)))) Zbm)) (by decide)))) (j_p Zd) (fun _ _=>rfl)))
   (Zc (ZeA (Zas ["line"] ["level","value","rest"] [1,2,4] (show ZaF ["line"] ["level","value","rest"] _ (Zj ZaT) from ⟨rfl,by decide +kernel,by decide +kernel,by decide +kernel,by decide +kernel,by decide +kernel⟩) rfl rfl  (Zad (ZcM 0)) (fun _ _ _ _ _ _ _=>(ZH (i:=0) (show ((["line"]:List Str)++(["level","value","rest"]:List Str)).Nodup by decide +kernel) rfl (Or.inl rfl))) (fun _ _ _ _ _ _ _=>Zbt) (fun _ _ _ _ _ _ _=>(ZhZ (ZaA hr.units (j_p (Zp (Zl 0) (Zl 1) (fun _ _=>rfl))) (Zl 2)) (Zz (j_p (ZaS (Zl 0) Zbm (Zbj (j_p (Zz (Zl 1) (j_p Zd)))))) (Zl 3)) (Za1 0))) (by decide)))
   Zg))))) ?_
 rfl
theorem Zjx (T:Tx K mg d):FnOk P w K mg base (CXv P w) 10 d.a_regrouped d.d_regrouped ["ladder","level","value","parent"] (spX K Zbq) :=
 by
 refine ZsM (N:=["ladder","level","value","parent","rest"]) (ps:=["ladder","level","value","parent"]) T.F_regrouped sc_regrouped (by decide) (h:=Zbo) (fun cdv A outer s H E M H0 hr=>?_)
 refine Zqr (ZlM ZeR (Zl5 ZeR (ZU (ZO (j_p (Zy (Zdz T) (hr.mono (by decide)) (by rfl) T.m_has_parents T.F_has_parents.kp T.b_has_parents (E:=E0) ZL (Za (Zn 0) (Za (Zn 1) Zf))))))
   (Zgp (XT.s (ZhK ZeR rfl rfl T.k_NoValue T.q_NoValue (by rfl) T.m_NoValue (Za (Zk Zbr) Zf))))
   Zit) (ZF (ZU (ZO (j_p (Zy (Zdz T) (hr.mono (by decide)) (by rfl) T.m_has_parents T.F_has_parents.kp T.b_has_parents (E:=E0) ZL (Za (Zn 0) (Za (Zn 1) Zf))))))
   (Zc Zdk
   Zg)
   Zg)
   (ZlM ZeR (Zl5 ZeR (ZU (ZO (j_p (Zy (Zbz T) (hr.mono (by decide)) (by rfl) T.m_is_value_at T.F_is_value_at.kp T.b_is_value_at (E:=E0) ZL (Za (Zn 0) (Za (Zn 1) (Za (Zn 2) Zf)))))))
   (Zgp (XT.s (ZhK ZeR rfl rfl T.k_NoValue T.q_NoValue (by rfl) T.m_NoValue (Za (Zk Zbr) Zf))))
   Zit) (ZF (ZU (ZO (j_p (Zy (Zbz T) (hr.mono (by decide)) (by rfl) T.m_is_value_at T.F_is_value_at.kp T.b_is_value_at (E:=E0) ZL (Za (Zn 0) (Za (Zn 1) (Za (Zn 2) Zf)))))))
   (Zc Zdk
   Zg)
   Zg)
   (Zgp (Zl5 ZeR (ZU (ZO (j_p (Zy (Zbz T) (hr.mono (by decide)) (by rfl) T.m_is_value_at T.F_is_value_at.kp T.b_is_value_at (E:=E0) ZL (Za (Zn 0) (Za (Zk (Zz (Zl 1) (j_p Zd))) (Za (Zn 3) Zf)))))))
   (Zgp (XT.s (ZhK ZeR rfl rfl T.k_NoValue T.q_NoValue (by rfl) T.m_NoValue (Za (Zk Zbr) Zf))))
   Zit)))) ?_
 rfl
theorem sc_law_told:ZI ["_law_lines","_law_level","_law_value_here","_law_parent","_law_found","e","_law_others"] ["_law_lines","_law_level","_law_value_here","_law_parent"] (Zj ZcK):=⟨rfl,rfl,rfl,by decide +kernel,rfl,by decide +kernel,by decide +kernel⟩
theorem Zhr (T:Tx K mg d):FnOk P w K mg base CX0 11 d.a_law_told d.d_law_told ["_law_lines","_law_level","_law_value_here","_law_parent"] (spD K F_law_told) :=
 by
 refine ZZ (N:=["_law_lines","_law_level","_law_value_here","_law_parent","_law_found","e","_law_others"]) (ps:=["_law_lines","_law_level","_law_value_here","_law_parent"]) T.F_law_told sc_law_told (by decide) (g:=ZcF) (fun cdv A outer s H E M H0 hr=>?_)
 refine ZY (Zc (ZA (i:=4) sc_law_told.nd rfl (Or.inl rfl) Zdy)
   (Zc (ZsK 5 CS ZeR rfl rfl rfl (Zr7 (Zpg ZeR rfl (Zjx T) (hr.mono (by decide)) (by rfl) T.m_regrouped T.F_regrouped.kp T.b_regrouped (Za (Zn 0) (Za (Zn 1) (Za (Zn 2) (Za (Zn 3) Zf)))))) (ZhS (fun ρ=>((Zbx F_regrouped (fun ρ=>Zb (rdA ρ 0) ((fun ρ=>Zb (rdA ρ 1) ((fun ρ=>Zb (rdA ρ 2) ((fun ρ=>Zb (rdA ρ 3) ((fun _=>some []) ρ)) ρ)) ρ)) ρ))) ρ).isSome) (ZbK (i:=4) sc_law_told.nd rfl (Or.inl rfl) (ZgQ (ZgR T) (hr.mono (by decide)) (by rfl) T.m_regrouped T.F_regrouped.kp T.b_regrouped (E:=E0) ZL (Za (Zn 0) (Za (Zn 1) (Za (Zn 2) (Za (Zn 3) Zf)))))) (ZA (i:=4) sc_law_told.nd rfl (Or.inl rfl) (Zy (ZgR T) (hr.mono (by decide)) (by rfl) T.m_regrouped T.F_regrouped.kp T.b_regrouped (E:=E0) ZL (Za (Zn 0) (Za (Zn 1) (Za (Zn 2) (Za (Zn 3) Zf))))))) T.m_CubeError (by rfl) (Zjr T) sc_law_told.nd rfl rfl (fun x H1 hx1=>(Zc (ZA (i:=6) sc_law_told.nd rfl (Or.inl rfl) (ZbE (Zav (Za (Zk (Zde 5 CS (Z1 "NoGrain") rfl rfl (Or.inl rfl) (Zb2 (v:=.ref d.a_NoGrain) (by rfl) T.m_NoGrain rfl) (fun u z=>z) (ZkZ T) (by rfl) T.n_isinstance (by rfl))) (Za (Zk (Zde 5 CS (Z1 "NoLadder") rfl rfl (Or.inl rfl) (Zb2 (v:=.ref d.a_NoLadder) (by rfl) T.m_NoLadder rfl) (fun u z=>z) (Zkd T) (by rfl) T.n_isinstance (by rfl))) (Za (Zk (Zde 5 CS (Z1 "NoPick") rfl rfl (Or.inl rfl) (Zb2 (v:=.ref d.a_NoPick) (by rfl) T.m_NoPick rfl) (fun u z=>z) (ZmF T) (by rfl) T.n_isinstance (by rfl))) (Za (Zk (Zde 5 CS (Z1 "NoRow") rfl rfl (Or.inl rfl) (Zb2 (v:=.ref d.a_NoRow) (by rfl) T.m_NoRow rfl) (fun u z=>z) (ZmW T) (by rfl) T.n_isinstance (by rfl))) Zf)))))))
   (Zc (ZA (i:=6) sc_law_told.nd rfl (Or.inl rfl) (Zz (Zl 6) (j_p (ZbE (Zav (Za (Zk (Zde 5 CS (Z1 "NoSuch") rfl rfl (Or.inl rfl) (Zb2 (v:=.ref d.a_NoSuch) (by rfl) T.m_NoSuch rfl) (fun u z=>z) (Zmb T) (by rfl) T.n_isinstance (by rfl))) (Za (Zk (Zde 5 CS (Z1 "NoText") rfl rfl (Or.inl rfl) (Zb2 (v:=.ref d.a_NoText) (by rfl) T.m_NoText rfl) (fun u z=>z) (Zmd T) (by rfl) T.n_isinstance (by rfl))) (Za (Zk (Zde 5 CS (Z1 "TooMuch") rfl rfl (Or.inl rfl) (Zb2 (v:=.ref d.a_TooMuch) (by rfl) T.m_TooMuch rfl) (fun u z=>z) (Zlh T) (by rfl) T.n_isinstance (by rfl))) Zf))))))))
   (Zc (ZF (Zdq (Zfq (ZO (j_p (Zde 5 CS (Z1 "NoValue") rfl rfl (Or.inl rfl) (Zb2 (v:=.ref d.a_NoValue) (by rfl) T.m_NoValue rfl) (fun u z=>z) (Zk9 T) (by rfl) T.n_isinstance (by rfl)))) (Zfq (ZO (j_p (Zde 5 CS (Z1 "ValueError") rfl rfl (Or.inl rfl) (ZlG (v:=.ty "ValueError") (by rfl) T.n_ValueError (by rfl) rfl) (fun u z=>z) (ZiM T) (by rfl) T.n_isinstance (by rfl)))) (ZgT (ZU (ZO (j_p (Zoo rfl rfl hx1 (by rfl) T.n_any (by rfl) (Za (Zn 6) Zf)))))))))
   (Zc (Zu Zdy)
   Zg)
   Zg)
   (Zc (Zu Zbr)
   Zg))))))
   (Zc (ZhS (Zmn 4) (Zh7 4) (Zu (Za1 4)))
   Zg))) ?_
 rfl
theorem sc_law:ZI ["_law_script","_law_head","_law_many","_law_lines","_law_k","_law_s","_law_level","_law_value_here","_law_parent","_law_due_here","_law_handed","_law_found"] ["_law_script"] (Zj Zg3):=⟨rfl,rfl,rfl,by decide +kernel,rfl,by decide +kernel,by decide +kernel⟩
theorem Zq7 (T:Tx K mg d):FnOk P w K mg base CX0 12 d.a_law d.d_law ["_law_script"] (spD K F_law) :=
 by
 refine ZZ (N:=["_law_script","_law_head","_law_many","_law_lines","_law_k","_law_s","_law_level","_law_value_here","_law_parent","_law_due_here","_law_handed","_law_found"]) (ps:=["_law_script"]) T.F_law sc_law (by decide) (g:=Zpa) (fun cdv A outer s H E M H0 hr=>?_)
 refine ZY (Zc (ZA (i:=1) sc_law.nd rfl (Or.inl rfl) (Zy (Zcz T) (hr.mono (by decide)) (by rfl) T.m_law_cell_at T.F_law_cell_at.kp T.b_law_cell_at (E:=E0) ZL (Za (Zn 0) (Za (Zk Zd) Zf))))
   (Zc (ZA (i:=2) sc_law.nd rfl (Or.inl rfl) (Zz (j_p Zd) (j_p (ZM (j_p (Z7 (Zl 1) (j_p Zd))) (j_p Zd)))))
   (Zc (ZF (ZaA hr.units (j_p (ZM (Zl 1) (j_p Zd))) (j_p Zd))
   (Zc (ZA (i:=2) sc_law.nd rfl (Or.inl rfl) (Zz (j_p Zd) (j_p (ZM (j_p (Z7 (Zl 1) (j_p Zd))) (j_p Zd)))))
   Zg)
   Zg)
   (Zc (ZA (i:=3) sc_law.nd rfl (Or.inl rfl) (Zy (Zjp T) (hr.mono (by decide)) (by rfl) T.m_law_ladder T.F_law_ladder.kp T.b_law_ladder (E:=E0) ZL (Za (Zk (Zy (Zcz T) (hr.mono (by decide)) (by rfl) T.m_law_cell_at T.F_law_cell_at.kp T.b_law_cell_at (E:=E0) ZL (Za (Zn 0) (Za (Zk Zd) Zf)))) (Za (Zn 2) (Za (Zk (Zp (j_p (ZbE (Zav (Za (Zk Zd) (Za (Zk Zd) (Za (Zk Zd) (Za (Zk Zd) (Za (Zk Zd) Zf)))))))) (j_p (ZM (j_p (Zy (Zcz T) (hr.mono (by decide)) (by rfl) T.m_law_cell_at T.F_law_cell_at.kp T.b_law_cell_at (E:=E0) ZL (Za (Zn 0) (Za (Zk Zd) Zf)))) (j_p Zd))) (fun _ _=>rfl))) Zf)))))
   (Zc (ZaL PassesOwn.never rfl (Zb9 (by rfl) T.n_range (Za (Zk Zd) Zf)) (ZH (i:=4) sc_law.nd rfl (Or.inl rfl))
   (Zc (ZA (i:=5) sc_law.nd rfl (Or.inl rfl) (Zy (Zgc T) (hr.mono (by decide)) (by rfl) T.m_law_stream T.F_law_stream.kp T.b_law_stream (E:=E0) ZL (Za (Zk (Zy (Zcz T) (hr.mono (by decide)) (by rfl) T.m_law_cell_at T.F_law_cell_at.kp T.b_law_cell_at (E:=E0) ZL (Za (Zn 0) (Za (Zk (Zz (j_p Zd) (Zl 4))) Zf)))) (Za (Zn 4) Zf))))
   (Zc (ZoL (Zy (Zkj T) (hr.mono (by decide)) (by rfl) T.m_law_drawn T.F_law_drawn.kp T.b_law_drawn (E:=E0) ZL (Za (Zk (Zz (j_p (Zp (Zl 5) (j_p Zd) (fun _ _=>rfl))) (j_p (Zcr (j_p Zd) (j_p (ZM (j_p (Zp (Zl 5) (j_p Zd) (fun _ _=>rfl))) (j_p Zd))))))) (Za (Zn 3) Zf))) (Zj9 (n:=3) rfl (Zdh (ZH (i:=6) sc_law.nd rfl (Or.inl rfl)) (Zdh (ZH (i:=7) sc_law.nd rfl (Or.inl rfl)) (Zdh (ZH (i:=8) sc_law.nd rfl (Or.inl rfl)) ZiS)))))
   (Zc (ZA (i:=9) sc_law.nd rfl (Or.inl rfl) (Zy (Zma T) (hr.mono (by decide)) (by rfl) T.m_law_due T.F_law_due.kp T.b_law_due (E:=E0) ZL (Za (Zn 3) (Za (Zn 6) (Za (Zn 7) (Za (Zn 8) Zf))))))
   (Zc (ZA (i:=10) sc_law.nd rfl (Or.inl rfl) (ZbE (Zla ZkQ ZpW (by rfl) T.n_list (by rfl) (Za (Zn 3) Zf))))
   (Zc (ZhS (fun ρ=>((Zbx F_law_told (fun ρ=>Zb (rdA ρ 10) ((fun ρ=>Zb (rdA ρ 6) ((fun ρ=>Zb (rdA ρ 7) ((fun ρ=>Zb (rdA ρ 8) ((fun _=>some []) ρ)) ρ)) ρ)) ρ))) ρ).isSome) (ZbK (i:=11) sc_law.nd rfl (Or.inl rfl) (ZgQ (Zhr T) (hr.mono (by decide)) (by rfl) T.m_law_told T.F_law_told.kp T.b_law_told (E:=E0) ZL (Za (Zn 10) (Za (Zn 6) (Za (Zn 7) (Za (Zn 8) Zf)))))) (ZA (i:=11) sc_law.nd rfl (Or.inl rfl) (Zy (Zhr T) (hr.mono (by decide)) (by rfl) T.m_law_told T.F_law_told.kp T.b_law_told (E:=E0) ZL (Za (Zn 10) (Za (Zn 6) (Za (Zn 7) (Za (Zn 8) Zf)))))))
   (Zc (ZF (Zdq (Zax (Zdu hr.units (Zl 10) (Zl 3)) (Za0 (Zdq (Zfq (ZhR (Zl 11)) (ZgT (Zgn (Zl 9))))))))
   (Zc (Zu ZX)
   Zg)
   Zg)
   (Zc (ZF (ZhR (Zl 9))
   (Zc (ZF (Zgn (Zl 11))
   (Zc (Zu ZX)
   Zg)
   Zg)
   Zg)
   (Zc (ZF (Zdq (Zax (ZU (ZO (j_p (Zo ZaI ZcS (by rfl) T.n_isinstance (by rfl) (Za (Zn 11) (Za (Zk (ZaK (n:="list") (by rfl) T.n_list (by rfl))) Zf)))))) (Zax (Zdu hr.units (Zl 11) (Zl 9)) (Zax (ZU (ZO (j_p (Zy (ZjV T) (hr.mono (by decide)) (by rfl) T.m_law_go_on T.F_law_go_on.kp T.b_law_go_on (E:=E0) ZL (Za (Zn 11) Zf))))) (Za0 (Zmt (j_p (Zy (Zkc T) (hr.mono (by decide)) (by rfl) T.m_is_ladder T.F_is_ladder.kp T.b_is_ladder (E:=E0) ZL (Za (Zn 11) Zf))) (j_p ZX)))))))
   (Zc (Zu ZX)
   Zg)
   Zg)
   (Zc (ZmA (i:=11))
   (Zc (ZF (Zdu hr.units (Zl 10) (Zl 3))
   (Zc (Zu ZX)
   Zg)
   Zg)
   (Zc (ZA (i:=3) sc_law.nd rfl (Or.inl rfl) (Za1 9))
   Zg)))))
   Zg))))))))
   (Zc (Zu ZX)
   Zg)))))) ?_
 rfl
end
theorem all_mk {l:PySem.W.OpenLaw} {w:World} {K:PySem.W.Frag} {h:Heap} {mg:Str→Option Value} {fa:Addr} (X:K.In h) (G:h.Ns mainGlobals mg) (hfa:mg "law"=some (.ref fa))
  {a_is_whole:Addr} {od_is_whole an_is_whole:Option Addr} {sl_is_whole:Array (Option Value)} {oc_is_whole kV_is_whole dc_is_whole pm_is_whole cd_is_whole ct_is_whole:Value}
  {a_is_word:Addr} {od_is_word an_is_word:Option Addr} {sl_is_word:Array (Option Value)} {oc_is_word kV_is_word dc_is_word pm_is_word cd_is_word ct_is_word:Value}
  {a_is_value:Addr} {od_is_value an_is_value:Option Addr} {sl_is_value:Array (Option Value)} {oc_is_value kV_is_value dc_is_value pm_is_value cd_is_value ct_is_value:Value}
  {a_value_rank:Addr} {od_value_rank an_value_rank:Option Addr} {sl_value_rank:Array (Option Value)} {oc_value_rank kV_value_rank dc_value_rank pm_value_rank cd_value_rank ct_value_rank:Value}
  {a_key_rank:Addr} {od_key_rank an_key_rank:Option Addr} {sl_key_rank:Array (Option Value)} {oc_key_rank kV_key_rank dc_key_rank pm_key_rank cd_key_rank ct_key_rank:Value}
  {a_in_order:Addr} {od_in_order an_in_order:Option Addr} {sl_in_order:Array (Option Value)} {oc_in_order kV_in_order dc_in_order pm_in_order cd_in_order ct_in_order:Value}
  {a_is_line:Addr} {od_is_line an_is_line:Option Addr} {sl_is_line:Array (Option Value)} {oc_is_line kV_is_line dc_is_line pm_is_line cd_is_line ct_is_line:Value}
  {a_go_together:Addr} {od_go_together an_go_together:Option Addr} {sl_go_together:Array (Option Value)} {oc_go_together kV_go_together dc_go_together pm_go_together cd_go_together ct_go_together:Value}
  {a_is_ladder:Addr} {od_is_ladder an_is_ladder:Option Addr} {sl_is_ladder:Array (Option Value)} {oc_is_ladder kV_is_ladder dc_is_ladder pm_is_ladder cd_is_ladder ct_is_ladder:Value}
  {a_whole_of:Addr} {od_whole_of an_whole_of:Option Addr} {sl_whole_of:Array (Option Value)} {oc_whole_of kV_whole_of dc_whole_of pm_whole_of cd_whole_of ct_whole_of:Value}
  {a_line_at:Addr} {od_line_at an_line_at:Option Addr} {sl_line_at:Array (Option Value)} {oc_line_at kV_line_at dc_line_at pm_line_at cd_line_at ct_line_at:Value}
  {a_values_in_order:Addr} {od_values_in_order an_values_in_order:Option Addr} {sl_values_in_order:Array (Option Value)} {oc_values_in_order kV_values_in_order dc_values_in_order pm_values_in_order cd_values_in_order ct_values_in_order:Value}
  {a_beneath:Addr} {od_beneath an_beneath:Option Addr} {sl_beneath:Array (Option Value)} {oc_beneath kV_beneath dc_beneath pm_beneath cd_beneath ct_beneath:Value}
  {a_is_value_at:Addr} {od_is_value_at an_is_value_at:Option Addr} {sl_is_value_at:Array (Option Value)} {oc_is_value_at kV_is_value_at dc_is_value_at pm_is_value_at cd_is_value_at ct_is_value_at:Value}
  {a_has_parents:Addr} {od_has_parents an_has_parents:Option Addr} {sl_has_parents:Array (Option Value)} {oc_has_parents kV_has_parents dc_has_parents pm_has_parents cd_has_parents ct_has_parents:Value}
  {a_regrouped:Addr} {od_regrouped an_regrouped:Option Addr} {sl_regrouped:Array (Option Value)} {oc_regrouped kV_regrouped dc_regrouped pm_regrouped cd_regrouped ct_regrouped:Value}
  {a_law_cell_at:Addr} {od_law_cell_at an_law_cell_at:Option Addr} {sl_law_cell_at:Array (Option Value)} {oc_law_cell_at kV_law_cell_at dc_law_cell_at pm_law_cell_at cd_law_cell_at ct_law_cell_at:Value}
  {a_law_stream:Addr} {od_law_stream an_law_stream:Option Addr} {sl_law_stream:Array (Option Value)} {oc_law_stream kV_law_stream dc_law_stream pm_law_stream cd_law_stream ct_law_stream:Value}
  {a_law_word:Addr} {od_law_word an_law_word:Option Addr} {sl_law_word:Array (Option Value)} {oc_law_word kV_law_word dc_law_word pm_law_word cd_law_word ct_law_word:Value}
  {a_law_value:Addr} {od_law_value an_law_value:Option Addr} {sl_law_value:Array (Option Value)} {oc_law_value kV_law_value dc_law_value pm_law_value cd_law_value ct_law_value:Value}
  {a_law_ladder:Addr} {od_law_ladder an_law_ladder:Option Addr} {sl_law_ladder:Array (Option Value)} {oc_law_ladder kV_law_ladder dc_law_ladder pm_law_ladder cd_law_ladder ct_law_ladder:Value}
  {a_law_is_value:Addr} {od_law_is_value an_law_is_value:Option Addr} {sl_law_is_value:Array (Option Value)} {oc_law_is_value kV_law_is_value dc_law_is_value pm_law_is_value cd_law_is_value ct_law_is_value:Value}
  {a_law_is_line:Addr} {od_law_is_line an_law_is_line:Option Addr} {sl_law_is_line:Array (Option Value)} {oc_law_is_line kV_law_is_line dc_law_is_line pm_law_is_line cd_law_is_line ct_law_is_line:Value}
  {a_law_go_on:Addr} {od_law_go_on an_law_go_on:Option Addr} {sl_law_go_on:Array (Option Value)} {oc_law_go_on kV_law_go_on dc_law_go_on pm_law_go_on cd_law_go_on ct_law_go_on:Value}
  {a_law_there:Addr} {od_law_there an_law_there:Option Addr} {sl_law_there:Array (Option Value)} {oc_law_there kV_law_there dc_law_there pm_law_there cd_law_there ct_law_there:Value}
  {a_law_due:Addr} {od_law_due an_law_due:Option Addr} {sl_law_due:Array (Option Value)} {oc_law_due kV_law_due dc_law_due pm_law_due cd_law_due ct_law_due:Value}
  {a_law_told:Addr} {od_law_told an_law_told:Option Addr} {sl_law_told:Array (Option Value)} {oc_law_told kV_law_told dc_law_told pm_law_told cd_law_told ct_law_told:Value}
  {a_law_odd:Addr} {od_law_odd an_law_odd:Option Addr} {sl_law_odd:Array (Option Value)} {oc_law_odd kV_law_odd dc_law_odd pm_law_odd cd_law_odd ct_law_odd:Value}
  {a_law_drawn:Addr} {od_law_drawn an_law_drawn:Option Addr} {sl_law_drawn:Array (Option Value)} {oc_law_drawn kV_law_drawn dc_law_drawn pm_law_drawn cd_law_drawn ct_law_drawn:Value}
  {a_law:Addr} {od_law an_law:Option Addr} {sl_law:Array (Option Value)} {oc_law kV_law dc_law pm_law cd_law ct_law:Value}
  {t_FIGURES:Tok}
  {t_LETTERS:Tok}
  {t_LONGEST_LINE:Tok}
  {t_LONGEST_WORD:Tok}
  {t_MOST_LINES:Tok}
  {a_CubeError:Addr}
  {a_NoGrain:Addr}
  {a_NoLadder:Addr}
  {a_NoPick:Addr}
  {a_NoRow:Addr}
  {a_NoSuch:Addr}
  {a_NoText:Addr}
  {a_NoValue:Addr}
  {a_TooMuch:Addr}
  {cd_CubeError:ClassData}
  {cd_NoGrain:ClassData}
  {cd_NoLadder:ClassData}
  {cd_NoPick:ClassData}
  {cd_NoRow:ClassData}
  {cd_NoSuch:ClassData}
  {cd_NoText:ClassData}
  {cd_NoValue:ClassData}
  {cd_TooMuch:ClassData}
  {nm_NoValue qn_NoValue:Str} {N_NoValue:Addr} {bs_NoValue bm_NoValue sb_NoValue:List Value} {hd_NoValue ab_NoValue:Bool} {sn_NoValue:List Str} {co_NoValue:Option Bool} {dd_NoValue:Option Addr} {k0_NoValue k1_NoValue k2_NoValue k3_NoValue k5_NoValue:Option Value} {cd2_NoValue:ClassData}
  (A_is_whole:PySem.W.nsIn K mainGlobals "is_whole"=some (some (.ref a_is_whole)))
  (L_is_whole:K.lookup a_is_whole=some ⟨oc_is_whole,od_is_whole,.func (PySem.W.fnOf "is_whole" "is_whole" (ZJ ZcE) (ZG ZcE) (Zj ZcE) .none kV_is_whole dc_is_whole pm_is_whole an_is_whole cd_is_whole ct_is_whole),sl_is_whole⟩)
  (C_is_whole:PySem.W.codeIn K cd_is_whole "is_whole"=true) (k_is_whole:PySem.W.keepIn K (.ref a_is_whole)=true)
  (A_is_word:PySem.W.nsIn K mainGlobals "is_word"=some (some (.ref a_is_word)))
  (L_is_word:K.lookup a_is_word=some ⟨oc_is_word,od_is_word,.func (PySem.W.fnOf "is_word" "is_word" (ZJ Zcw) (ZG Zcw) (Zj Zcw) .none kV_is_word dc_is_word pm_is_word an_is_word cd_is_word ct_is_word),sl_is_word⟩)
  (C_is_word:PySem.W.codeIn K cd_is_word "is_word"=true) (k_is_word:PySem.W.keepIn K (.ref a_is_word)=true)
  (A_is_value:PySem.W.nsIn K mainGlobals "is_value"=some (some (.ref a_is_value)))
  (L_is_value:K.lookup a_is_value=some ⟨oc_is_value,od_is_value,.func (PySem.W.fnOf "is_value" "is_value" (ZJ ZcH) (ZG ZcH) (Zj ZcH) .none kV_is_value dc_is_value pm_is_value an_is_value cd_is_value ct_is_value),sl_is_value⟩)
  (C_is_value:PySem.W.codeIn K cd_is_value "is_value"=true) (k_is_value:PySem.W.keepIn K (.ref a_is_value)=true)
  (A_value_rank:PySem.W.nsIn K mainGlobals "value_rank"=some (some (.ref a_value_rank)))
  (L_value_rank:K.lookup a_value_rank=some ⟨oc_value_rank,od_value_rank,.func (PySem.W.fnOf "value_rank" "value_rank" (ZJ ZbC) (ZG ZbC) (Zj ZbC) .none kV_value_rank dc_value_rank pm_value_rank an_value_rank cd_value_rank ct_value_rank),sl_value_rank⟩)
  (C_value_rank:PySem.W.codeIn K cd_value_rank "value_rank"=true) (k_value_rank:PySem.W.keepIn K (.ref a_value_rank)=true)
  (A_key_rank:PySem.W.nsIn K mainGlobals "key_rank"=some (some (.ref a_key_rank)))
  (L_key_rank:K.lookup a_key_rank=some ⟨oc_key_rank,od_key_rank,.func (PySem.W.fnOf "key_rank" "key_rank" (ZJ ZbM) (ZG ZbM) (Zj ZbM) .none kV_key_rank dc_key_rank pm_key_rank an_key_rank cd_key_rank ct_key_rank),sl_key_rank⟩)
  (C_key_rank:PySem.W.codeIn K cd_key_rank "key_rank"=true) (k_key_rank:PySem.W.keepIn K (.ref a_key_rank)=true)
  (A_in_order:PySem.W.nsIn K mainGlobals "in_order"=some (some (.ref a_in_order)))
  (L_in_order:K.lookup a_in_order=some ⟨oc_in_order,od_in_order,.func (PySem.W.fnOf "in_order" "in_order" (ZJ ZcG) (ZG ZcG) (Zj ZcG) .none kV_in_order dc_in_order pm_in_order an_in_order cd_in_order ct_in_order),sl_in_order⟩)
  (C_in_order:PySem.W.codeIn K cd_in_order "in_order"=true) (k_in_order:PySem.W.keepIn K (.ref a_in_order)=true)
  (A_is_line:PySem.W.nsIn K mainGlobals "is_line"=some (some (.ref a_is_line)))
  (L_is_line:K.lookup a_is_line=some ⟨oc_is_line,od_is_line,.func (PySem.W.fnOf "is_line" "is_line" (ZJ Zcu) (ZG Zcu) (Zj Zcu) .none kV_is_line dc_is_line pm_is_line an_is_line cd_is_line ct_is_line),sl_is_line⟩)
  (C_is_line:PySem.W.codeIn K cd_is_line "is_line"=true) (k_is_line:PySem.W.keepIn K (.ref a_is_line)=true)
  (A_go_together:PySem.W.nsIn K mainGlobals "go_together"=some (some (.ref a_go_together)))
  (L_go_together:K.lookup a_go_together=some ⟨oc_go_together,od_go_together,.func (PySem.W.fnOf "go_together" "go_together" (ZJ ZaJ) (ZG ZaJ) (Zj ZaJ) .none kV_go_together dc_go_together pm_go_together an_go_together cd_go_together ct_go_together),sl_go_together⟩)
  (C_go_together:PySem.W.codeIn K cd_go_together "go_together"=true) (k_go_together:PySem.W.keepIn K (.ref a_go_together)=true)
  (A_is_ladder:PySem.W.nsIn K mainGlobals "is_ladder"=some (some (.ref a_is_ladder)))
  (L_is_ladder:K.lookup a_is_ladder=some ⟨oc_is_ladder,od_is_ladder,.func (PySem.W.fnOf "is_ladder" "is_ladder" (ZJ Zca) (ZG Zca) (Zj Zca) .none kV_is_ladder dc_is_ladder pm_is_ladder an_is_ladder cd_is_ladder ct_is_ladder),sl_is_ladder⟩)
  (C_is_ladder:PySem.W.codeIn K cd_is_ladder "is_ladder"=true) (k_is_ladder:PySem.W.keepIn K (.ref a_is_ladder)=true)
  (A_whole_of:PySem.W.nsIn K mainGlobals "whole_of"=some (some (.ref a_whole_of)))
  (L_whole_of:K.lookup a_whole_of=some ⟨oc_whole_of,od_whole_of,.func (PySem.W.fnOf "whole_of" "whole_of" (ZJ ZcJ) (ZG ZcJ) (Zj ZcJ) .none kV_whole_of dc_whole_of pm_whole_of an_whole_of cd_whole_of ct_whole_of),sl_whole_of⟩)
  (C_whole_of:PySem.W.codeIn K cd_whole_of "whole_of"=true) (k_whole_of:PySem.W.keepIn K (.ref a_whole_of)=true)
  (A_line_at:PySem.W.nsIn K mainGlobals "line_at"=some (some (.ref a_line_at)))
  (L_line_at:K.lookup a_line_at=some ⟨oc_line_at,od_line_at,.func (PySem.W.fnOf "line_at" "line_at" (ZJ Zc9) (ZG Zc9) (Zj Zc9) .none kV_line_at dc_line_at pm_line_at an_line_at cd_line_at ct_line_at),sl_line_at⟩)
  (C_line_at:PySem.W.codeIn K cd_line_at "line_at"=true) (k_line_at:PySem.W.keepIn K (.ref a_line_at)=true)
  (A_values_in_order:PySem.W.nsIn K mainGlobals "values_in_order"=some (some (.ref a_values_in_order)))
  (L_values_in_order:K.lookup a_values_in_order=some ⟨oc_values_in_order,od_values_in_order,.func (PySem.W.fnOf "values_in_order" "values_in_order" (ZJ Zab) (ZG Zab) (Zj Zab) .none kV_values_in_order dc_values_in_order pm_values_in_order an_values_in_order cd_values_in_order ct_values_in_order),sl_values_in_order⟩)
  (C_values_in_order:PySem.W.codeIn K cd_values_in_order "values_in_order"=true) (k_values_in_order:PySem.W.keepIn K (.ref a_values_in_order)=true)
  (A_beneath:PySem.W.nsIn K mainGlobals "beneath"=some (some (.ref a_beneath)))
  (L_beneath:K.lookup a_beneath=some ⟨oc_beneath,od_beneath,.func (PySem.W.fnOf "beneath" "beneath" (ZJ Zcv) (ZG Zcv) (Zj Zcv) .none kV_beneath dc_beneath pm_beneath an_beneath cd_beneath ct_beneath),sl_beneath⟩)
  (C_beneath:PySem.W.codeIn K cd_beneath "beneath"=true) (k_beneath:PySem.W.keepIn K (.ref a_beneath)=true)
  (A_is_value_at:PySem.W.nsIn K mainGlobals "is_value_at"=some (some (.ref a_is_value_at)))
  (L_is_value_at:K.lookup a_is_value_at=some ⟨oc_is_value_at,od_is_value_at,.func (PySem.W.fnOf "is_value_at" "is_value_at" (ZJ Zbc) (ZG Zbc) (Zj Zbc) .none kV_is_value_at dc_is_value_at pm_is_value_at an_is_value_at cd_is_value_at ct_is_value_at),sl_is_value_at⟩)
  (C_is_value_at:PySem.W.codeIn K cd_is_value_at "is_value_at"=true) (k_is_value_at:PySem.W.keepIn K (.ref a_is_value_at)=true)
  (A_has_parents:PySem.W.nsIn K mainGlobals "has_parents"=some (some (.ref a_has_parents)))
  (L_has_parents:K.lookup a_has_parents=some ⟨oc_has_parents,od_has_parents,.func (PySem.W.fnOf "has_parents" "has_parents" (ZJ Za7) (ZG Za7) (Zj Za7) .none kV_has_parents dc_has_parents pm_has_parents an_has_parents cd_has_parents ct_has_parents),sl_has_parents⟩)
  (C_has_parents:PySem.W.codeIn K cd_has_parents "has_parents"=true) (k_has_parents:PySem.W.keepIn K (.ref a_has_parents)=true)
  (A_regrouped:PySem.W.nsIn K mainGlobals "regrouped"=some (some (.ref a_regrouped)))
  (L_regrouped:K.lookup a_regrouped=some ⟨oc_regrouped,od_regrouped,.func (PySem.W.fnOf "regrouped" "regrouped" (ZJ ZaT) (ZG ZaT) (Zj ZaT) .none kV_regrouped dc_regrouped pm_regrouped an_regrouped cd_regrouped ct_regrouped),sl_regrouped⟩)
  (C_regrouped:PySem.W.codeIn K cd_regrouped "regrouped"=true) (k_regrouped:PySem.W.keepIn K (.ref a_regrouped)=true)
  (A_law_cell_at:PySem.W.nsIn K mainGlobals "_law_cell_at"=some (some (.ref a_law_cell_at)))
  (L_law_cell_at:K.lookup a_law_cell_at=some ⟨oc_law_cell_at,od_law_cell_at,.func (PySem.W.fnOf "_law_cell_at" "_law_cell_at" (ZJ Za9) (ZG Za9) (Zj Za9) .none kV_law_cell_at dc_law_cell_at pm_law_cell_at an_law_cell_at cd_law_cell_at ct_law_cell_at),sl_law_cell_at⟩)
  (C_law_cell_at:PySem.W.codeIn K cd_law_cell_at "_law_cell_at"=true) (k_law_cell_at:PySem.W.keepIn K (.ref a_law_cell_at)=true)
  (A_law_stream:PySem.W.nsIn K mainGlobals "_law_stream"=some (some (.ref a_law_stream)))
  (L_law_stream:K.lookup a_law_stream=some ⟨oc_law_stream,od_law_stream,.func (PySem.W.fnOf "_law_stream" "_law_stream" (ZJ ZbB) (ZG ZbB) (Zj ZbB) .none kV_law_stream dc_law_stream pm_law_stream an_law_stream cd_law_stream ct_law_stream),sl_law_stream⟩)
  (C_law_stream:PySem.W.codeIn K cd_law_stream "_law_stream"=true) (k_law_stream:PySem.W.keepIn K (.ref a_law_stream)=true)
  (A_law_word:PySem.W.nsIn K mainGlobals "_law_word"=some (some (.ref a_law_word)))
  (L_law_word:K.lookup a_law_word=some ⟨oc_law_word,od_law_word,.func (PySem.W.fnOf "_law_word" "_law_word" (ZJ ZcB) (ZG ZcB) (Zj ZcB) .none kV_law_word dc_law_word pm_law_word an_law_word cd_law_word ct_law_word),sl_law_word⟩)
  (C_law_word:PySem.W.codeIn K cd_law_word "_law_word"=true) (k_law_word:PySem.W.keepIn K (.ref a_law_word)=true)
  (A_law_value:PySem.W.nsIn K mainGlobals "_law_value"=some (some (.ref a_law_value)))
  (L_law_value:K.lookup a_law_value=some ⟨oc_law_value,od_law_value,.func (PySem.W.fnOf "_law_value" "_law_value" (ZJ Zb5) (ZG Zb5) (Zj Zb5) .none kV_law_value dc_law_value pm_law_value an_law_value cd_law_value ct_law_value),sl_law_value⟩)
  (C_law_value:PySem.W.codeIn K cd_law_value "_law_value"=true) (k_law_value:PySem.W.keepIn K (.ref a_law_value)=true)
  (A_law_ladder:PySem.W.nsIn K mainGlobals "_law_ladder"=some (some (.ref a_law_ladder)))
  (L_law_ladder:K.lookup a_law_ladder=some ⟨oc_law_ladder,od_law_ladder,.func (PySem.W.fnOf "_law_ladder" "_law_ladder" (ZJ ZbD) (ZG ZbD) (Zj ZbD) .none kV_law_ladder dc_law_ladder pm_law_ladder an_law_ladder cd_law_ladder ct_law_ladder),sl_law_ladder⟩)
  (C_law_ladder:PySem.W.codeIn K cd_law_ladder "_law_ladder"=true) (k_law_ladder:PySem.W.keepIn K (.ref a_law_ladder)=true)
  (A_law_is_value:PySem.W.nsIn K mainGlobals "_law_is_value"=some (some (.ref a_law_is_value)))
  (L_law_is_value:K.lookup a_law_is_value=some ⟨oc_law_is_value,od_law_is_value,.func (PySem.W.fnOf "_law_is_value" "_law_is_value" (ZJ Zaz) (ZG Zaz) (Zj Zaz) .none kV_law_is_value dc_law_is_value pm_law_is_value an_law_is_value cd_law_is_value ct_law_is_value),sl_law_is_value⟩)
  (C_law_is_value:PySem.W.codeIn K cd_law_is_value "_law_is_value"=true) (k_law_is_value:PySem.W.keepIn K (.ref a_law_is_value)=true)
  (A_law_is_line:PySem.W.nsIn K mainGlobals "_law_is_line"=some (some (.ref a_law_is_line)))
  (L_law_is_line:K.lookup a_law_is_line=some ⟨oc_law_is_line,od_law_is_line,.func (PySem.W.fnOf "_law_is_line" "_law_is_line" (ZJ ZaH) (ZG ZaH) (Zj ZaH) .none kV_law_is_line dc_law_is_line pm_law_is_line an_law_is_line cd_law_is_line ct_law_is_line),sl_law_is_line⟩)
  (C_law_is_line:PySem.W.codeIn K cd_law_is_line "_law_is_line"=true) (k_law_is_line:PySem.W.keepIn K (.ref a_law_is_line)=true)
  (A_law_go_on:PySem.W.nsIn K mainGlobals "_law_go_on"=some (some (.ref a_law_go_on)))
  (L_law_go_on:K.lookup a_law_go_on=some ⟨oc_law_go_on,od_law_go_on,.func (PySem.W.fnOf "_law_go_on" "_law_go_on" (ZJ Zcb) (ZG Zcb) (Zj Zcb) .none kV_law_go_on dc_law_go_on pm_law_go_on an_law_go_on cd_law_go_on ct_law_go_on),sl_law_go_on⟩)
  (C_law_go_on:PySem.W.codeIn K cd_law_go_on "_law_go_on"=true) (k_law_go_on:PySem.W.keepIn K (.ref a_law_go_on)=true)
  (A_law_there:PySem.W.nsIn K mainGlobals "_law_there"=some (some (.ref a_law_there)))
  (L_law_there:K.lookup a_law_there=some ⟨oc_law_there,od_law_there,.func (PySem.W.fnOf "_law_there" "_law_there" (ZJ Zbv) (ZG Zbv) (Zj Zbv) .none kV_law_there dc_law_there pm_law_there an_law_there cd_law_there ct_law_there),sl_law_there⟩)
  (C_law_there:PySem.W.codeIn K cd_law_there "_law_there"=true) (k_law_there:PySem.W.keepIn K (.ref a_law_there)=true)
  (A_law_due:PySem.W.nsIn K mainGlobals "_law_due"=some (some (.ref a_law_due)))
  (L_law_due:K.lookup a_law_due=some ⟨oc_law_due,od_law_due,.func (PySem.W.fnOf "_law_due" "_law_due" (ZJ Zcq) (ZG Zcq) (Zj Zcq) .none kV_law_due dc_law_due pm_law_due an_law_due cd_law_due ct_law_due),sl_law_due⟩)
  (C_law_due:PySem.W.codeIn K cd_law_due "_law_due"=true) (k_law_due:PySem.W.keepIn K (.ref a_law_due)=true)
  (A_law_told:PySem.W.nsIn K mainGlobals "_law_told"=some (some (.ref a_law_told)))
  (L_law_told:K.lookup a_law_told=some ⟨oc_law_told,od_law_told,.func (PySem.W.fnOf "_law_told" "_law_told" (ZJ ZcK) (ZG ZcK) (Zj ZcK) .none kV_law_told dc_law_told pm_law_told an_law_told cd_law_told ct_law_told),sl_law_told⟩)
  (C_law_told:PySem.W.codeIn K cd_law_told "_law_told"=true) (k_law_told:PySem.W.keepIn K (.ref a_law_told)=true)
  (A_law_odd:PySem.W.nsIn K mainGlobals "_law_odd"=some (some (.ref a_law_odd)))
  (L_law_odd:K.lookup a_law_odd=some ⟨oc_law_odd,od_law_odd,.func (PySem.W.fnOf "_law_odd" "_law_odd" (ZJ Zc8) (ZG Zc8) (Zj Zc8) .none kV_law_odd dc_law_odd pm_law_odd an_law_odd cd_law_odd ct_law_odd),sl_law_odd⟩)
  (C_law_odd:PySem.W.codeIn K cd_law_odd "_law_odd"=true) (k_law_odd:PySem.W.keepIn K (.ref a_law_odd)=true)
  (A_law_drawn:PySem.W.nsIn K mainGlobals "_law_drawn"=some (some (.ref a_law_drawn)))
  (L_law_drawn:K.lookup a_law_drawn=some ⟨oc_law_drawn,od_law_drawn,.func (PySem.W.fnOf "_law_drawn" "_law_drawn" (ZJ Zb7) (ZG Zb7) (Zj Zb7) .none kV_law_drawn dc_law_drawn pm_law_drawn an_law_drawn cd_law_drawn ct_law_drawn),sl_law_drawn⟩)
  (C_law_drawn:PySem.W.codeIn K cd_law_drawn "_law_drawn"=true) (k_law_drawn:PySem.W.keepIn K (.ref a_law_drawn)=true)
  (A_law:PySem.W.nsIn K mainGlobals "law"=some (some (.ref a_law)))
  (L_law:K.lookup a_law=some ⟨oc_law,od_law,.func (PySem.W.fnOf "law" "law" (ZJ Zg3) (ZG Zg3) (Zj Zg3) .none kV_law dc_law pm_law an_law cd_law ct_law),sl_law⟩)
  (C_law:PySem.W.codeIn K cd_law "law"=true) (k_law:PySem.W.keepIn K (.ref a_law)=true)
  (N_ValueError:PySem.W.nsIn K mainGlobals "ValueError"=some none)
  (N_all:PySem.W.nsIn K mainGlobals "all"=some none)
  (N_any:PySem.W.nsIn K mainGlobals "any"=some none)
  (N_bool:PySem.W.nsIn K mainGlobals "bool"=some none)
  (N_enumerate:PySem.W.nsIn K mainGlobals "enumerate"=some none)
  (N_int:PySem.W.nsIn K mainGlobals "int"=some none)
  (N_isinstance:PySem.W.nsIn K mainGlobals "isinstance"=some none)
  (N_len:PySem.W.nsIn K mainGlobals "len"=some none)
  (N_list:PySem.W.nsIn K mainGlobals "list"=some none)
  (N_max:PySem.W.nsIn K mainGlobals "max"=some none)
  (N_min:PySem.W.nsIn K mainGlobals "min"=some none)
  (N_range:PySem.W.nsIn K mainGlobals "range"=some none)
  (N_sorted:PySem.W.nsIn K mainGlobals "sorted"=some none)
  (N_str:PySem.W.nsIn K mainGlobals "str"=some none)
  (N_tuple:PySem.W.nsIn K mainGlobals "tuple"=some none)
  (G_FIGURES:PySem.W.nsIn K mainGlobals "FIGURES"=some (some (.str "0123456789" t_FIGURES)))
  (G_LETTERS:PySem.W.nsIn K mainGlobals "LETTERS"=some (some (.str "abcdefghijklmnopqrstuvwxyz" t_LETTERS)))
  (G_LONGEST_LINE:PySem.W.nsIn K mainGlobals "LONGEST_LINE"=some (some (.int (4) t_LONGEST_LINE)))
  (G_LONGEST_WORD:PySem.W.nsIn K mainGlobals "LONGEST_WORD"=some (some (.int (12) t_LONGEST_WORD)))
  (G_MOST_LINES:PySem.W.nsIn K mainGlobals "MOST_LINES"=some (some (.int (40) t_MOST_LINES)))
  (A_CubeError:PySem.W.nsIn K mainGlobals "CubeError"=some (some (.ref a_CubeError)))
  (A_NoGrain:PySem.W.nsIn K mainGlobals "NoGrain"=some (some (.ref a_NoGrain)))
  (A_NoLadder:PySem.W.nsIn K mainGlobals "NoLadder"=some (some (.ref a_NoLadder)))
  (A_NoPick:PySem.W.nsIn K mainGlobals "NoPick"=some (some (.ref a_NoPick)))
  (A_NoRow:PySem.W.nsIn K mainGlobals "NoRow"=some (some (.ref a_NoRow)))
  (A_NoSuch:PySem.W.nsIn K mainGlobals "NoSuch"=some (some (.ref a_NoSuch)))
  (A_NoText:PySem.W.nsIn K mainGlobals "NoText"=some (some (.ref a_NoText)))
  (A_NoValue:PySem.W.nsIn K mainGlobals "NoValue"=some (some (.ref a_NoValue)))
  (A_TooMuch:PySem.W.nsIn K mainGlobals "TooMuch"=some (some (.ref a_TooMuch)))
  (Y_CubeError:PySem.W.typeIn K (.ref a_CubeError)=some (.type "type")) (Z_CubeError:PySem.W.clsIn K a_CubeError=some cd_CubeError)
  (Y_NoGrain:PySem.W.typeIn K (.ref a_NoGrain)=some (.type "type")) (Z_NoGrain:PySem.W.clsIn K a_NoGrain=some cd_NoGrain)
  (Y_NoLadder:PySem.W.typeIn K (.ref a_NoLadder)=some (.type "type")) (Z_NoLadder:PySem.W.clsIn K a_NoLadder=some cd_NoLadder)
  (Y_NoPick:PySem.W.typeIn K (.ref a_NoPick)=some (.type "type")) (Z_NoPick:PySem.W.clsIn K a_NoPick=some cd_NoPick)
  (Y_NoRow:PySem.W.typeIn K (.ref a_NoRow)=some (.type "type")) (Z_NoRow:PySem.W.clsIn K a_NoRow=some cd_NoRow)
  (Y_NoSuch:PySem.W.typeIn K (.ref a_NoSuch)=some (.type "type")) (Z_NoSuch:PySem.W.clsIn K a_NoSuch=some cd_NoSuch)
  (Y_NoText:PySem.W.typeIn K (.ref a_NoText)=some (.type "type")) (Z_NoText:PySem.W.clsIn K a_NoText=some cd_NoText)
  (Y_NoValue:PySem.W.typeIn K (.ref a_NoValue)=some (.type "type")) (Z_NoValue:PySem.W.clsIn K a_NoValue=some cd_NoValue)
  (Y_TooMuch:PySem.W.typeIn K (.ref a_TooMuch)=some (.type "type")) (Z_TooMuch:PySem.W.clsIn K a_TooMuch=some cd_TooMuch)
  (B_CubeError:PySem.W.subIn K (.ref a_CubeError) (.type "BaseException")=some true)
  (L_NoValue:K.lookup a_NoValue=some (excClassObj nm_NoValue qn_NoValue a_NoValue N_NoValue bs_NoValue bm_NoValue hd_NoValue sn_NoValue sb_NoValue ab_NoValue co_NoValue dd_NoValue k0_NoValue k1_NoValue k2_NoValue k3_NoValue k5_NoValue "ValueError.__new__"))
  (E_NoValue:PySem.W.excIn K a_NoValue bmV "ValueError.__new__"=true)
  (f0_NoValue:PySem.W.findIn K (.ref a_NoValue) "__getattribute__"=some (some (.builtin "BaseException.__getattribute__")))
  (f1_NoValue:PySem.W.findIn K (.ref a_NoValue) "__class__"=some (some (.builtin "object.__class__")))
  (f2_NoValue:PySem.W.findIn K (.ref a_NoValue) "__getattr__"=some none)
  (f3_NoValue:PySem.W.subIn K (.ref a_NoValue) (.type "BaseException")=some true)
  (f4_NoValue:PySem.W.subIn K (.ref a_NoValue) (.type "object")=some true)
  (f5_NoValue:PySem.W.typeIn K (.ref a_NoValue)=some (.type "type")) (f6_NoValue:PySem.W.clsIn K a_NoValue=some cd2_NoValue)
  (S_NoValue_CubeError:PySem.W.subIn K (.ref a_NoValue) (.ref a_CubeError)=some true)
  (S_NoValue_NoGrain:PySem.W.subIn K (.ref a_NoValue) (.ref a_NoGrain)=some false)
  (D_NoValue_NoGrain:(Value.ref a_NoValue==Value.ref a_NoGrain)=false)
  (S_NoValue_NoLadder:PySem.W.subIn K (.ref a_NoValue) (.ref a_NoLadder)=some false)
  (D_NoValue_NoLadder:(Value.ref a_NoValue==Value.ref a_NoLadder)=false)
  (S_NoValue_NoPick:PySem.W.subIn K (.ref a_NoValue) (.ref a_NoPick)=some false)
  (D_NoValue_NoPick:(Value.ref a_NoValue==Value.ref a_NoPick)=false)
  (S_NoValue_NoRow:PySem.W.subIn K (.ref a_NoValue) (.ref a_NoRow)=some false)
  (D_NoValue_NoRow:(Value.ref a_NoValue==Value.ref a_NoRow)=false)
  (S_NoValue_NoSuch:PySem.W.subIn K (.ref a_NoValue) (.ref a_NoSuch)=some false)
  (D_NoValue_NoSuch:(Value.ref a_NoValue==Value.ref a_NoSuch)=false)
  (S_NoValue_NoText:PySem.W.subIn K (.ref a_NoValue) (.ref a_NoText)=some false)
  (D_NoValue_NoText:(Value.ref a_NoValue==Value.ref a_NoText)=false)
  (S_NoValue_NoValue:PySem.W.subIn K (.ref a_NoValue) (.ref a_NoValue)=some true)
  (S_NoValue_TooMuch:PySem.W.subIn K (.ref a_NoValue) (.ref a_TooMuch)=some false)
  (D_NoValue_TooMuch:(Value.ref a_NoValue==Value.ref a_TooMuch)=false)
  (V_NoValue:PySem.W.subIn K (.ref a_NoValue) (.type "ValueError")=some true) :
  ∃ fd:FuncData,(∀ (s:Shared) (v:Value),BindsTo s fd ⟨[v],[]⟩ [("_law_script",v)])∧∀ base:Heap,K.In base→base.Ns mainGlobals mg→FnOk l.prog w K mg base CX0 12 fa fd ["_law_script"] (ZjG K):=by
 have e:=hfa.symm.trans (PySem.W.mg_of X G A_law)
 cases e
 have F_is_whole:=Z0 (st:=ZcE) L_is_whole C_is_whole k_is_whole
 have F_is_word:=Z0 (st:=Zcw) L_is_word C_is_word k_is_word
 have F_is_value:=Z0 (st:=ZcH) L_is_value C_is_value k_is_value
 have F_value_rank:=Z0 (st:=ZbC) L_value_rank C_value_rank k_value_rank
 have F_key_rank:=Z0 (st:=ZbM) L_key_rank C_key_rank k_key_rank
 have F_in_order:=Z0 (st:=ZcG) L_in_order C_in_order k_in_order
 have F_is_line:=Z0 (st:=Zcu) L_is_line C_is_line k_is_line
 have F_go_together:=Z0 (st:=ZaJ) L_go_together C_go_together k_go_together
 have F_is_ladder:=Z0 (st:=Zca) L_is_ladder C_is_ladder k_is_ladder
 have F_whole_of:=Z0 (st:=ZcJ) L_whole_of C_whole_of k_whole_of
 have F_line_at:=Z0 (st:=Zc9) L_line_at C_line_at k_line_at
 have F_values_in_order:=Z0 (st:=Zab) L_values_in_order C_values_in_order k_values_in_order
 have F_beneath:=Z0 (st:=Zcv) L_beneath C_beneath k_beneath
 have F_is_value_at:=Z0 (st:=Zbc) L_is_value_at C_is_value_at k_is_value_at
 have F_has_parents:=Z0 (st:=Za7) L_has_parents C_has_parents k_has_parents
 have F_regrouped:=Z0 (st:=ZaT) L_regrouped C_regrouped k_regrouped
 have F_law_cell_at:=Z0 (st:=Za9) L_law_cell_at C_law_cell_at k_law_cell_at
 have F_law_stream:=Z0 (st:=ZbB) L_law_stream C_law_stream k_law_stream
 have F_law_word:=Z0 (st:=ZcB) L_law_word C_law_word k_law_word
 have F_law_value:=Z0 (st:=Zb5) L_law_value C_law_value k_law_value
 have F_law_ladder:=Z0 (st:=ZbD) L_law_ladder C_law_ladder k_law_ladder
 have F_law_is_value:=Z0 (st:=Zaz) L_law_is_value C_law_is_value k_law_is_value
 have F_law_is_line:=Z0 (st:=ZaH) L_law_is_line C_law_is_line k_law_is_line
 have F_law_go_on:=Z0 (st:=Zcb) L_law_go_on C_law_go_on k_law_go_on
 have F_law_there:=Z0 (st:=Zbv) L_law_there C_law_there k_law_there
 have F_law_due:=Z0 (st:=Zcq) L_law_due C_law_due k_law_due
 have F_law_told:=Z0 (st:=ZcK) L_law_told C_law_told k_law_told
 have F_law_odd:=Z0 (st:=Zc8) L_law_odd C_law_odd k_law_odd
 have F_law_drawn:=Z0 (st:=Zb7) L_law_drawn C_law_drawn k_law_drawn
 have F_law:=Z0 (st:=Zg3) L_law C_law k_law
 have T:Tx K mg ⟨a_is_whole,_,a_is_word,_,a_is_value,_,a_value_rank,_,a_key_rank,_,a_in_order,_,a_is_line,_,a_go_together,_,a_is_ladder,_,a_whole_of,_,a_line_at,_,a_values_in_order,_,a_beneath,_,a_is_value_at,_,a_has_parents,_,a_regrouped,_,a_law_cell_at,_,a_law_stream,_,a_law_word,_,a_law_value,_,a_law_ladder,_,a_law_is_value,_,a_law_is_line,_,a_law_go_on,_,a_law_there,_,a_law_due,_,a_law_told,_,a_law_odd,_,a_law_drawn,_,fa,_,a_CubeError,a_NoGrain,a_NoLadder,a_NoPick,a_NoRow,a_NoSuch,a_NoText,a_NoValue,a_TooMuch⟩:={
  m_is_whole:=PySem.W.mg_of X G A_is_whole
  F_is_whole:=F_is_whole
  b_is_whole:=F_is_whole.binds fun _ _ _ _ _ _ us hl=>match us,hl with | [_],_=>rfl
  m_is_word:=PySem.W.mg_of X G A_is_word
  F_is_word:=F_is_word
  b_is_word:=F_is_word.binds fun _ _ _ _ _ _ us hl=>match us,hl with | [_],_=>rfl
  m_is_value:=PySem.W.mg_of X G A_is_value
  F_is_value:=F_is_value
  b_is_value:=F_is_value.binds fun _ _ _ _ _ _ us hl=>match us,hl with | [_],_=>rfl
  m_value_rank:=PySem.W.mg_of X G A_value_rank
  F_value_rank:=F_value_rank
  b_value_rank:=F_value_rank.binds fun _ _ _ _ _ _ us hl=>match us,hl with | [_],_=>rfl
  m_key_rank:=PySem.W.mg_of X G A_key_rank
  F_key_rank:=F_key_rank
  b_key_rank:=F_key_rank.binds fun _ _ _ _ _ _ us hl=>match us,hl with | [_],_=>rfl
  m_in_order:=PySem.W.mg_of X G A_in_order
  F_in_order:=F_in_order
  b_in_order:=F_in_order.binds fun _ _ _ _ _ _ us hl=>match us,hl with | [_],_=>rfl
  m_is_line:=PySem.W.mg_of X G A_is_line
  F_is_line:=F_is_line
  b_is_line:=F_is_line.binds fun _ _ _ _ _ _ us hl=>match us,hl with | [_],_=>rfl
  m_go_together:=PySem.W.mg_of X G A_go_together
  F_go_together:=F_go_together
  b_go_together:=F_go_together.binds fun _ _ _ _ _ _ us hl=>match us,hl with | [_],_=>rfl
  m_is_ladder:=PySem.W.mg_of X G A_is_ladder
  F_is_ladder:=F_is_ladder
  b_is_ladder:=F_is_ladder.binds fun _ _ _ _ _ _ us hl=>match us,hl with | [_],_=>rfl
  m_whole_of:=PySem.W.mg_of X G A_whole_of
  F_whole_of:=F_whole_of
  b_whole_of:=F_whole_of.binds fun _ _ _ _ _ _ us hl=>match us,hl with | [_],_=>rfl
  m_line_at:=PySem.W.mg_of X G A_line_at
  F_line_at:=F_line_at
  b_line_at:=F_line_at.binds fun _ _ _ _ _ _ us hl=>match us,hl with | [_,_],_=>rfl
  m_values_in_order:=PySem.W.mg_of X G A_values_in_order
  F_values_in_order:=F_values_in_order
  b_values_in_order:=F_values_in_order.binds fun _ _ _ _ _ _ us hl=>match us,hl with | [_],_=>rfl
  m_beneath:=PySem.W.mg_of X G A_beneath
  F_beneath:=F_beneath
  b_beneath:=F_beneath.binds fun _ _ _ _ _ _ us hl=>match us,hl with | [_,_,_],_=>rfl
  m_is_value_at:=PySem.W.mg_of X G A_is_value_at
  F_is_value_at:=F_is_value_at
  b_is_value_at:=F_is_value_at.binds fun _ _ _ _ _ _ us hl=>match us,hl with | [_,_,_],_=>rfl
  m_has_parents:=PySem.W.mg_of X G A_has_parents
  F_has_parents:=F_has_parents
  b_has_parents:=F_has_parents.binds fun _ _ _ _ _ _ us hl=>match us,hl with | [_,_],_=>rfl
  m_regrouped:=PySem.W.mg_of X G A_regrouped
  F_regrouped:=F_regrouped
  b_regrouped:=F_regrouped.binds fun _ _ _ _ _ _ us hl=>match us,hl with | [_,_,_,_],_=>rfl
  m_law_cell_at:=PySem.W.mg_of X G A_law_cell_at
  F_law_cell_at:=F_law_cell_at
  b_law_cell_at:=F_law_cell_at.binds fun _ _ _ _ _ _ us hl=>match us,hl with | [_,_],_=>rfl
  m_law_stream:=PySem.W.mg_of X G A_law_stream
  F_law_stream:=F_law_stream
  b_law_stream:=F_law_stream.binds fun _ _ _ _ _ _ us hl=>match us,hl with | [_,_],_=>rfl
  m_law_word:=PySem.W.mg_of X G A_law_word
  F_law_word:=F_law_word
  b_law_word:=F_law_word.binds fun _ _ _ _ _ _ us hl=>match us,hl with | [_,_],_=>rfl
  m_law_value:=PySem.W.mg_of X G A_law_value
  F_law_value:=F_law_value
  b_law_value:=F_law_value.binds fun _ _ _ _ _ _ us hl=>match us,hl with | [_,_,_],_=>rfl
  m_law_ladder:=PySem.W.mg_of X G A_law_ladder
  F_law_ladder:=F_law_ladder
  b_law_ladder:=F_law_ladder.binds fun _ _ _ _ _ _ us hl=>match us,hl with | [_,_,_],_=>rfl
  m_law_is_value:=PySem.W.mg_of X G A_law_is_value
  F_law_is_value:=F_law_is_value
  b_law_is_value:=F_law_is_value.binds fun _ _ _ _ _ _ us hl=>match us,hl with | [_],_=>rfl
  m_law_is_line:=PySem.W.mg_of X G A_law_is_line
  F_law_is_line:=F_law_is_line
  b_law_is_line:=F_law_is_line.binds fun _ _ _ _ _ _ us hl=>match us,hl with | [_],_=>rfl
  m_law_go_on:=PySem.W.mg_of X G A_law_go_on
  F_law_go_on:=F_law_go_on
  b_law_go_on:=F_law_go_on.binds fun _ _ _ _ _ _ us hl=>match us,hl with | [_],_=>rfl
  m_law_there:=PySem.W.mg_of X G A_law_there
  F_law_there:=F_law_there
  b_law_there:=F_law_there.binds fun _ _ _ _ _ _ us hl=>match us,hl with | [_,_,_],_=>rfl
  m_law_due:=PySem.W.mg_of X G A_law_due
  F_law_due:=F_law_due
  b_law_due:=F_law_due.binds fun _ _ _ _ _ _ us hl=>match us,hl with | [_,_,_,_],_=>rfl
  m_law_told:=PySem.W.mg_of X G A_law_told
  F_law_told:=F_law_told
  b_law_told:=F_law_told.binds fun _ _ _ _ _ _ us hl=>match us,hl with | [_,_,_,_],_=>rfl
  m_law_odd:=PySem.W.mg_of X G A_law_odd
  F_law_odd:=F_law_odd
  b_law_odd:=F_law_odd.binds fun _ _ _ _ _ _ us hl=>match us,hl with | [_,_],_=>rfl
  m_law_drawn:=PySem.W.mg_of X G A_law_drawn
  F_law_drawn:=F_law_drawn
  b_law_drawn:=F_law_drawn.binds fun _ _ _ _ _ _ us hl=>match us,hl with | [_,_],_=>rfl
  m_law:=PySem.W.mg_of X G A_law
  F_law:=F_law
  b_law:=F_law.binds fun _ _ _ _ _ _ us hl=>match us,hl with | [_],_=>rfl
  m_CubeError:=PySem.W.mg_of X G A_CubeError
  q_CubeError:=A_CubeError
  m_NoGrain:=PySem.W.mg_of X G A_NoGrain
  q_NoGrain:=A_NoGrain
  m_NoLadder:=PySem.W.mg_of X G A_NoLadder
  q_NoLadder:=A_NoLadder
  m_NoPick:=PySem.W.mg_of X G A_NoPick
  q_NoPick:=A_NoPick
  m_NoRow:=PySem.W.mg_of X G A_NoRow
  q_NoRow:=A_NoRow
  m_NoSuch:=PySem.W.mg_of X G A_NoSuch
  q_NoSuch:=A_NoSuch
  m_NoText:=PySem.W.mg_of X G A_NoText
  q_NoText:=A_NoText
  m_NoValue:=PySem.W.mg_of X G A_NoValue
  q_NoValue:=A_NoValue
  m_TooMuch:=PySem.W.mg_of X G A_TooMuch
  q_TooMuch:=A_TooMuch
  k_NoValue:=Zto L_NoValue E_NoValue
  f_NoValue:=⟨f0_NoValue,f1_NoValue,f2_NoValue,f3_NoValue,f4_NoValue,f5_NoValue,⟨_,f6_NoValue⟩⟩
  p_NoValue_NoGrain:=Zez D_NoValue_NoGrain Z_NoGrain Y_NoGrain S_NoValue_NoGrain
  p_NoValue_NoLadder:=Zez D_NoValue_NoLadder Z_NoLadder Y_NoLadder S_NoValue_NoLadder
  p_NoValue_NoPick:=Zez D_NoValue_NoPick Z_NoPick Y_NoPick S_NoValue_NoPick
  p_NoValue_NoRow:=Zez D_NoValue_NoRow Z_NoRow Y_NoRow S_NoValue_NoRow
  p_NoValue_NoSuch:=Zez D_NoValue_NoSuch Z_NoSuch Y_NoSuch S_NoValue_NoSuch
  p_NoValue_NoText:=Zez D_NoValue_NoText Z_NoText Y_NoText S_NoValue_NoText
  p_NoValue_NoValue:=Zol
  p_NoValue_TooMuch:=Zez D_NoValue_TooMuch Z_TooMuch Y_TooMuch S_NoValue_TooMuch
  p_NoValue_ValueError:=ZtK V_NoValue
  x_NoValue_CubeError:=ZsN B_CubeError Z_CubeError Y_CubeError S_NoValue_CubeError
  n_ValueError:=PySem.W.mg_none_of X G N_ValueError
  n_all:=PySem.W.mg_none_of X G N_all
  n_any:=PySem.W.mg_none_of X G N_any
  n_bool:=PySem.W.mg_none_of X G N_bool
  n_enumerate:=PySem.W.mg_none_of X G N_enumerate
  n_int:=PySem.W.mg_none_of X G N_int
  n_isinstance:=PySem.W.mg_none_of X G N_isinstance
  n_len:=PySem.W.mg_none_of X G N_len
  n_list:=PySem.W.mg_none_of X G N_list
  n_max:=PySem.W.mg_none_of X G N_max
  n_min:=PySem.W.mg_none_of X G N_min
  n_range:=PySem.W.mg_none_of X G N_range
  n_sorted:=PySem.W.mg_none_of X G N_sorted
  n_str:=PySem.W.mg_none_of X G N_str
  n_tuple:=PySem.W.mg_none_of X G N_tuple
  g_FIGURES:=⟨_,PySem.W.mg_of X G G_FIGURES,⟨_,rfl⟩⟩
  g_LETTERS:=⟨_,PySem.W.mg_of X G G_LETTERS,⟨_,rfl⟩⟩
  g_LONGEST_LINE:=⟨_,PySem.W.mg_of X G G_LONGEST_LINE,⟨_,rfl⟩⟩
  g_LONGEST_WORD:=⟨_,PySem.W.mg_of X G G_LONGEST_WORD,⟨_,rfl⟩⟩
  g_MOST_LINES:=⟨_,PySem.W.mg_of X G G_MOST_LINES,⟨_,rfl⟩⟩
 }
 exact ⟨_,fun s v=>.of_eq rfl,fun base _ _=>ZrL (Zq7 T) ZnT⟩
theorem walk {l:PySem.W.OpenLaw} {q:Program} {loose:List Str} {XP:(Str→Option Value)→Heap→Prop} {YP:World→Heap→Prop} {d:DefRec} {K:Params→PySem.W.Frag} (hn:l.most=some 63) (hdf:d.params.defaults=[])
  (hY:∀ (w:World) (h:Heap),YP w h→(K w.params).In h)
  (F:∀ (w:World) (mg:Str→Option Value) (fa:Addr) (h:Heap),(K w.params).In h→h.Ns mainGlobals mg→mg d.name=some (.ref fa) →
   ∃ fd:FuncData,(∀ (s:Shared) (u:Value),BindsTo s fd ⟨[u],[]⟩ [("_law_script",u)])∧∀ base:Heap,(K w.params).In base→base.Ns mainGlobals mg→FnOk l.prog w (K w.params) mg base CX0 12 fa fd ["_law_script"] (ZjG (K w.params))) :
  PySem.W.WalkO q loose XP YP l.row.toRowW d [] (fun f vs=>PySem.call f vs) :=
 L2.walk_of (n:=63) (k:=12) (x:="_law_script") (CX:=fun _=>CX0) (sp:=fun w=>ZjG (K w.params)) hn (by decide) hdf ⟨rfl,by decide,by decide⟩ hY F (fun _ _ a ns hl _ hS=>⟨a,ns,rfl,hS,hl,fun _=>rfl⟩) fun _ _ _ _ _ z=>z
end K13
def PySem.W.Fast.tw14516914478059338325 : Unit := ()
def PySem.W.Fast.tw17586915549636466510 : Unit := ()
def PySem.W.Fast.tw17711591326078182383 : Unit := ()
def PySem.W.Fast.tw7529222397010793789 : Unit := ()
def PySem.W.Fast.tw15272268674332449240 : Unit := ()
def PySem.W.Fast.tw13704933362781893362 : Unit := ()
def PySem.W.Fast.tw335305732529895730 : Unit := ()
def PySem.W.Fast.tw13911411017303566596 : Unit := ()
def PySem.W.Fast.tw14033180403989474087 : Unit := ()
def PySem.W.Fast.tw8567386947231476163 : Unit := ()
def PySem.W.Fast.tw8823065146650770384 : Unit := ()
def PySem.W.Fast.tw15435407430959161741 : Unit := ()
def PySem.W.Fast.tw13493655484205959577 : Unit := ()
def PySem.W.Fast.tw7135029592698435226 : Unit := ()
def PySem.W.Fast.tw6782904805137147539 : Unit := ()
def PySem.W.Fast.tw1197569322586279153 : Unit := ()
def PySem.W.Fast.tw7559623063506744271 : Unit := ()
def PySem.W.Fast.tw8053906850939813669 : Unit := ()
def PySem.W.Fast.tw11495183868955718144 : Unit := ()
def PySem.W.Fast.tw9558569136629451806 : Unit := ()
def PySem.W.Fast.tw13742817527223279156 : Unit := ()
def PySem.W.Fast.tw6865699006134743421 : Unit := ()
def PySem.W.Fast.tw9471451805421279960 : Unit := ()
def PySem.W.Fast.tw8662488454129529537 : Unit := ()
def PySem.W.Fast.tw5506111674243127451 : Unit := ()
def PySem.W.Fast.tw12179567666048890550 : Unit := ()
def PySem.W.Fast.tw7513814110914023628 : Unit := ()
def PySem.W.Fast.tw8505130576301726367 : Unit := ()
def PySem.W.Fast.tw17781749624418383037 : Unit := ()
def PySem.W.Fast.tw3287596987899679704 : Unit := ()
def PySem.W.Fast.tw666601895442050596 : Unit := ()
open PySem PySem.W PyProof.Rows
set_option maxRecDepth 100000 in
set_option maxHeartbeats 0 in
theorem PySem.Challenge.cw_cubebook_k13_regrouped_holds : PySem.Challenge.rw_cubebook_k13_regrouped.Holds := by
 w_on;o_law;k_head;(case hw=>w_witness2)
 k_fill
 refine K13.walk (l:=PySem.Challenge.rw_cubebook_k13_regrouped) rfl rfl (fun w h Y=>PySem.W.kIn_of Y) ?F
 case F =>
  intro w mg fa h KX G hmg
  refine' K13.all_mk KX G hmg ?A_is_whole ?L_is_whole ?C_is_whole ?k_is_whole ?A_is_word ?L_is_word ?C_is_word ?k_is_word ?A_is_value ?L_is_value ?C_is_value ?k_is_value ?A_value_rank ?L_value_rank ?C_value_rank ?k_value_rank ?A_key_rank ?L_key_rank ?C_key_rank ?k_key_rank ?A_in_order ?L_in_order ?C_in_order ?k_in_order ?A_is_line ?L_is_line ?C_is_line ?k_is_line ?A_go_together ?L_go_together ?C_go_together ?k_go_together ?A_is_ladder ?L_is_ladder ?C_is_ladder ?k_is_ladder ?A_whole_of ?L_whole_of ?C_whole_of ?k_whole_of ?A_line_at ?L_line_at ?C_line_at ?k_line_at ?A_values_in_order ?L_values_in_order ?C_values_in_order ?k_values_in_order ?A_beneath ?L_beneath ?C_beneath ?k_beneath ?A_is_value_at ?L_is_value_at ?C_is_value_at ?k_is_value_at ?A_has_parents ?L_has_parents ?C_has_parents ?k_has_parents ?A_regrouped ?L_regrouped ?C_regrouped ?k_regrouped ?A_law_cell_at ?L_law_cell_at ?C_law_cell_at ?k_law_cell_at ?A_law_stream ?L_law_stream ?C_law_stream ?k_law_stream ?A_law_word ?L_law_word ?C_law_word ?k_law_word ?A_law_value ?L_law_value ?C_law_value ?k_law_value ?A_law_ladder ?L_law_ladder ?C_law_ladder ?k_law_ladder ?A_law_is_value ?L_law_is_value ?C_law_is_value ?k_law_is_value ?A_law_is_line ?L_law_is_line ?C_law_is_line ?k_law_is_line ?A_law_go_on ?L_law_go_on ?C_law_go_on ?k_law_go_on ?A_law_there ?L_law_there ?C_law_there ?k_law_there ?A_law_due ?L_law_due ?C_law_due ?k_law_due ?A_law_told ?L_law_told ?C_law_told ?k_law_told ?A_law_odd ?L_law_odd ?C_law_odd ?k_law_odd ?A_law_drawn ?L_law_drawn ?C_law_drawn ?k_law_drawn ?A_law ?L_law ?C_law ?k_law ?N_ValueError ?N_all ?N_any ?N_bool ?N_enumerate ?N_int ?N_isinstance ?N_len ?N_list ?N_max ?N_min ?N_range ?N_sorted ?N_str ?N_tuple ?G_FIGURES ?G_LETTERS ?G_LONGEST_LINE ?G_LONGEST_WORD ?G_MOST_LINES ?A_CubeError ?A_NoGrain ?A_NoLadder ?A_NoPick ?A_NoRow ?A_NoSuch ?A_NoText ?A_NoValue ?A_TooMuch ?Y_CubeError ?Z_CubeError ?Y_NoGrain ?Z_NoGrain ?Y_NoLadder ?Z_NoLadder ?Y_NoPick ?Z_NoPick ?Y_NoRow ?Z_NoRow ?Y_NoSuch ?Z_NoSuch ?Y_NoText ?Z_NoText ?Y_NoValue ?Z_NoValue ?Y_TooMuch ?Z_TooMuch ?B_CubeError ?L_NoValue ?E_NoValue ?f0_NoValue ?f1_NoValue ?f2_NoValue ?f3_NoValue ?f4_NoValue ?f5_NoValue ?f6_NoValue ?S_NoValue_CubeError ?S_NoValue_NoGrain ?D_NoValue_NoGrain ?S_NoValue_NoLadder ?D_NoValue_NoLadder ?S_NoValue_NoPick ?D_NoValue_NoPick ?S_NoValue_NoRow ?D_NoValue_NoRow ?S_NoValue_NoSuch ?D_NoValue_NoSuch ?S_NoValue_NoText ?D_NoValue_NoText ?S_NoValue_NoValue ?S_NoValue_TooMuch ?D_NoValue_TooMuch ?V_NoValue
  (case A_is_whole=>k_is)
  (case L_is_whole=>k_is)
  (case C_is_whole=>k_is)
  (case k_is_whole=>k_is)
  (case A_is_word=>k_is)
  (case L_is_word=>k_is)
  (case C_is_word=>k_is)
  (case k_is_word=>k_is)
  (case A_is_value=>k_is)
  (case L_is_value=>k_is)
  (case C_is_value=>k_is)
  (case k_is_value=>k_is)
  (case A_value_rank=>k_is)
  (case L_value_rank=>k_is)
  (case C_value_rank=>k_is)
  (case k_value_rank=>k_is)
  (case A_key_rank=>k_is)
  (case L_key_rank=>k_is)
  (case C_key_rank=>k_is)
  (case k_key_rank=>k_is)
  (case A_in_order=>k_is)
  (case L_in_order=>k_is)
  (case C_in_order=>k_is)
  (case k_in_order=>k_is)
  (case A_is_line=>k_is)
  (case L_is_line=>k_is)
  (case C_is_line=>k_is)
  (case k_is_line=>k_is)
  (case A_go_together=>k_is)
  (case L_go_together=>k_is)
  (case C_go_together=>k_is)
  (case k_go_together=>k_is)
  (case A_is_ladder=>k_is)
  (case L_is_ladder=>k_is)
  (case C_is_ladder=>k_is)
  (case k_is_ladder=>k_is)
  (case A_whole_of=>k_is)
  (case L_whole_of=>k_is)
  (case C_whole_of=>k_is)
  (case k_whole_of=>k_is)
  (case A_line_at=>k_is)
  (case L_line_at=>k_is)
  (case C_line_at=>k_is)
  (case k_line_at=>k_is)
  (case A_values_in_order=>k_is)
  (case L_values_in_order=>k_is)
  (case C_values_in_order=>k_is)
  (case k_values_in_order=>k_is)
  (case A_beneath=>k_is)
  (case L_beneath=>k_is)
  (case C_beneath=>k_is)
  (case k_beneath=>k_is)
  (case A_is_value_at=>k_is)
  (case L_is_value_at=>k_is)
  (case C_is_value_at=>k_is)
  (case k_is_value_at=>k_is)
  (case A_has_parents=>k_is)
  (case L_has_parents=>k_is)
  (case C_has_parents=>k_is)
  (case k_has_parents=>k_is)
  (case A_regrouped=>k_is)
  (case L_regrouped=>k_is)
  (case C_regrouped=>k_is)
  (case k_regrouped=>k_is)
  (case A_law_cell_at=>k_is)
  (case L_law_cell_at=>k_is)
  (case C_law_cell_at=>k_is)
  (case k_law_cell_at=>k_is)
  (case A_law_stream=>k_is)
  (case L_law_stream=>k_is)
  (case C_law_stream=>k_is)
  (case k_law_stream=>k_is)
  (case A_law_word=>k_is)
  (case L_law_word=>k_is)
  (case C_law_word=>k_is)
  (case k_law_word=>k_is)
  (case A_law_value=>k_is)
  (case L_law_value=>k_is)
  (case C_law_value=>k_is)
  (case k_law_value=>k_is)
  (case A_law_ladder=>k_is)
  (case L_law_ladder=>k_is)
  (case C_law_ladder=>k_is)
  (case k_law_ladder=>k_is)
  (case A_law_is_value=>k_is)
  (case L_law_is_value=>k_is)
  (case C_law_is_value=>k_is)
  (case k_law_is_value=>k_is)
  (case A_law_is_line=>k_is)
  (case L_law_is_line=>k_is)
  (case C_law_is_line=>k_is)
  (case k_law_is_line=>k_is)
  (case A_law_go_on=>k_is)
  (case L_law_go_on=>k_is)
  (case C_law_go_on=>k_is)
  (case k_law_go_on=>k_is)
  (case A_law_there=>k_is)
  (case L_law_there=>k_is)
  (case C_law_there=>k_is)
  (case k_law_there=>k_is)
  (case A_law_due=>k_is)
  (case L_law_due=>k_is)
  (case C_law_due=>k_is)
  (case k_law_due=>k_is)
  (case A_law_told=>k_is)
  (case L_law_told=>k_is)
  (case C_law_told=>k_is)
  (case k_law_told=>k_is)
  (case A_law_odd=>k_is)
  (case L_law_odd=>k_is)
  (case C_law_odd=>k_is)
  (case k_law_odd=>k_is)
  (case A_law_drawn=>k_is)
  (case L_law_drawn=>k_is)
  (case C_law_drawn=>k_is)
  (case k_law_drawn=>k_is)
  (case A_law=>k_is)
  (case L_law=>k_is)
  (case C_law=>k_is)
  (case k_law=>k_is)
  (case N_ValueError=>k_is)
  (case N_all=>k_is)
  (case N_any=>k_is)
  (case N_bool=>k_is)
  (case N_enumerate=>k_is)
  (case N_int=>k_is)
  (case N_isinstance=>k_is)
  (case N_len=>k_is)
  (case N_list=>k_is)
  (case N_max=>k_is)
  (case N_min=>k_is)
  (case N_range=>k_is)
  (case N_sorted=>k_is)
  (case N_str=>k_is)
  (case N_tuple=>k_is)
  (case G_FIGURES=>k_is)
  (case G_LETTERS=>k_is)
  (case G_LONGEST_LINE=>k_is)
  (case G_LONGEST_WORD=>k_is)
  (case G_MOST_LINES=>k_is)
  (case A_CubeError=>k_is)
  (case A_NoGrain=>k_is)
  (case A_NoLadder=>k_is)
  (case A_NoPick=>k_is)
  (case A_NoRow=>k_is)
  (case A_NoSuch=>k_is)
  (case A_NoText=>k_is)
  (case A_NoValue=>k_is)
  (case A_TooMuch=>k_is)
  (case Y_CubeError=>k_is)
  (case Z_CubeError=>k_is)
  (case Y_NoGrain=>k_is)
  (case Z_NoGrain=>k_is)
  (case Y_NoLadder=>k_is)
  (case Z_NoLadder=>k_is)
  (case Y_NoPick=>k_is)
  (case Z_NoPick=>k_is)
  (case Y_NoRow=>k_is)
  (case Z_NoRow=>k_is)
  (case Y_NoSuch=>k_is)
  (case Z_NoSuch=>k_is)
  (case Y_NoText=>k_is)
  (case Z_NoText=>k_is)
  (case Y_NoValue=>k_is)
  (case Z_NoValue=>k_is)
  (case Y_TooMuch=>k_is)
  (case Z_TooMuch=>k_is)
  (case B_CubeError=>k_is)
  (case L_NoValue=>k_is)
  (case E_NoValue=>k_exc)
  (case f0_NoValue=>k_is)
  (case f1_NoValue=>k_is)
  (case f2_NoValue=>k_is)
  (case f3_NoValue=>k_is)
  (case f4_NoValue=>k_is)
  (case f5_NoValue=>k_is)
  (case f6_NoValue=>k_is)
  (case S_NoValue_CubeError=>k_is)
  (case S_NoValue_NoGrain=>k_is)
  (case D_NoValue_NoGrain=>rfl)
  (case S_NoValue_NoLadder=>k_is)
  (case D_NoValue_NoLadder=>rfl)
  (case S_NoValue_NoPick=>k_is)
  (case D_NoValue_NoPick=>rfl)
  (case S_NoValue_NoRow=>k_is)
  (case D_NoValue_NoRow=>rfl)
  (case S_NoValue_NoSuch=>k_is)
  (case D_NoValue_NoSuch=>rfl)
  (case S_NoValue_NoText=>k_is)
  (case D_NoValue_NoText=>rfl)
  (case S_NoValue_NoValue=>k_is)
  (case S_NoValue_TooMuch=>k_is)
  (case D_NoValue_TooMuch=>rfl)
  (case V_NoValue=>k_is)
#print axioms PySem.Challenge.cw_cubebook_k13_regrouped_holds
