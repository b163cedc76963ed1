import PyProof.Rows.All
import Wide.All
import OpenK.AllK
import Wide.FinOn
import Lean
import PyProof.EqAt
import PyProof.EqKinds
import PyProof.TupleCall
import PyProof.TupleKey
import PyProof.DictRoadsH
import Wide.Seal
import PyProof.NeKinds
import PyProof.ZipIter
import PyProof.EnumMake
import PyProof.Rows.TupTab
import KE.KDictLaws
import PyProof.AutoListH
import PyProof.AttrMissHeap
import KE.KDictOf
import KE.KIntText
import PyProof.StrBlockL
import PyProof.StrLawsChain
import PyProof.FString
import PyProof.Rows.FStr
import OpenK.KOwn
import KE.KIsAll
import KE.KDictList
import PySem.Challenge.RW_cubebook_k32_table_of_rows
set_option Elab.async false
set_option linter.all false
set_option maxRecDepth 100000
namespace L2
open PySem PySem.Spec PyProof.Rows
abbrev Key:=Sum Int Str
def Zox:Key→Value→Bool
 | .inl k,v=>Value.isInt k v
 | .inr x,v=>Value.isStrOf x v
def Ztt (w:World):Key→Int
 | .inl k=>hashInt k
 | .inr x=>hashStr w x
theorem Zax:∀ {k:Key} {v:Value},Zox k v=true→(∃ i t,k=Sum.inl i∧v=Value.int i t)∨(∃ x t,k=Sum.inr x∧v=Value.str x t)
 | .inl i,v,h=>by
  obtain ⟨t,e⟩:=Value.isInt_shape (k:=i) (v:=v) h
  exact .inl ⟨i,t,rfl,e⟩
 | .inr x,v,h=>by
  obtain ⟨t,e⟩:=Value.isStrOf_shape (x:=x) (v:=v) h
  exact .inr ⟨x,t,rfl,e⟩
theorem Zsf (a b:Int):decide ((Sum.inl a:Key)=Sum.inl b)=(a==b):=by
 by_cases e:a=b
 ·subst e;simp
 ·have h:¬ (Sum.inl a:Key)=Sum.inl b:=fun q=>e (Sum.inl.inj q)
  rw [decide_eq_false h]
  exact (beq_eq_false_iff_ne.mpr e).symm
theorem ZqK (a b:Str):decide ((Sum.inr a:Key)=Sum.inr b)=decide (a=b):=by
 by_cases e:a=b
 ·subst e;simp
 ·have h:¬ (Sum.inr a:Key)=Sum.inr b:=fun q=>e (Sum.inr.inj q)
  rw [decide_eq_false h,decide_eq_false e]
theorem ZqX (a:Int) (b:Str):decide ((Sum.inl a:Key)=Sum.inr b)=false:=decide_eq_false (fun q=>nomatch q)
theorem Zp8 (a:Str) (b:Int):decide ((Sum.inr a:Key)=Sum.inl b)=false:=decide_eq_false (fun q=>nomatch q)
def Zg3 (prog:Program) (w:World):PySem.KeyKind prog w Key where
 is:=Zox
 hash:=Ztt w
 inj:=fun v a b ha hb=>by
  rcases Zax ha with ⟨i,t,rfl,rfl⟩ | ⟨x,t,rfl,rfl⟩
  ·rcases Zax hb with ⟨j,u,rfl,e⟩ | ⟨y,u,rfl,e⟩
   ·injection e with e1 _;rw [e1]
   ·exact nomatch e
  ·rcases Zax hb with ⟨j,u,rfl,e⟩ | ⟨y,u,rfl,e⟩
   ·exact nomatch e
   ·injection e with e1 _;rw [e1]
 byValue:=fun k v h=>by
  rcases Zax h with ⟨i,t,rfl,rfl⟩ | ⟨x,t,rfl,rfl⟩<;>rfl
 pyHash:=fun hv h=>by
  rcases Zax hv with ⟨i,t,rfl,rfl⟩ | ⟨x,t,rfl,rfl⟩
  ·exact wpAny_pyHash_int h
  ·exact wpAny_pyHash_str h
 eqBool:=fun hu hv h=>by
  rcases Zax hu with ⟨i,t,rfl,rfl⟩ | ⟨x,t,rfl,rfl⟩
  ·rcases Zax hv with ⟨j,u,rfl,rfl⟩ | ⟨y,u,rfl,rfl⟩
   ·rw [Zsf] at h;exact wpAny_eqBool_int h
   ·rw [ZqX] at h;exact SeqAt.EqAt.int_str i t y u _ _ _ _ h
  ·rcases Zax hv with ⟨j,u,rfl,rfl⟩ | ⟨y,u,rfl,rfl⟩
   ·rw [Zp8] at h;exact SeqAt.EqAt.str_int x t j u _ _ _ _ h
   ·rw [ZqK] at h;exact wpAny_eqBool_str h
 «strs»:=fun k x t v h=>by
  rcases Zax h with ⟨i,u,rfl,e⟩ | ⟨y,u,rfl,e⟩
  ·exact nomatch e
  ·injection e with e1 _
   subst e1
   cases v<;>rfl
end L2
namespace L2
open PySem PySem.Spec PyProof.Rows
inductive V where
 | non | bl (b:Bool) | int (i:Int) | str (x:Str) | byt (b:Array UInt8) | flt (b:UInt64) | ref (a:Addr) | ty (n:String)
 deriving DecidableEq
def RelV:V→Value→Prop
 | .non,u=>u=Value.none
 | .bl b,u=>u=Value.bool b
 | .int i,u=>∃ t,u=Value.int i t
 | .str x,u=>∃ t,u=Value.str x t
 | .byt b,u=>∃ t,u=Value.bytes b t
 | .flt b,u=>∃ t,u=Value.float b t
 | .ref a,u=>u=Value.ref a
 | .ty n,u=>u=Value.type n
abbrev Vals:List V→List Value→Prop:=Paired RelV
theorem Vals.length {xs:List V} {us:List Value} (r:Vals xs us):xs.length=us.length:=Paired.length r
theorem Vals.get:∀ {xs:List V} {us:List Value} {i:Nat} {x:V},Vals xs us→xs[i]?=some x→∃ u,us[i]?=some u∧RelV x u
 | _,_,_,_,.nil,e=>by simp at e
 | _,_,0,_,.cons r _,e=>by simp at e;subst e;exact ⟨_,rfl,r⟩
 | _,_,i+1,x,.cons _ t,e=>by
  obtain ⟨u,h1,h2⟩:=Vals.get (i:=i) (x:=x) t (by simpa using e)
  exact ⟨u,by simpa using h1,h2⟩
theorem Vals.set {x:V} {u:Value} (r:RelV x u):∀ {xs:List V} {us:List Value} (i:Nat),Vals xs us→Vals (xs.set i x) (us.set i u)
 | _,_,_,.nil=>.nil
 | _,_,0,.cons _ t=>.cons r t
 | _,_,i+1,.cons q t=>.cons q (Vals.set r i t)
theorem Vals.append:∀ {xs ys:List V} {us ws:List Value},Vals xs us→Vals ys ws→Vals (xs++ys) (us++ws)
 | _,_,_,_,.nil,s=>s
 | _,_,_,_,.cons r t,s=>.cons r (Vals.append t s)
theorem Vals.take:∀ {xs:List V} {us:List Value} (n:Nat),Vals xs us→Vals (xs.take n) (us.take n)
 | _,_,0,_=>.nil
 | _,_,_+1,.nil=>.nil
 | _,_,n+1,.cons r t=>.cons r (Vals.take n t)
theorem Vals.drop:∀ {xs:List V} {us:List Value} (n:Nat),Vals xs us→Vals (xs.drop n) (us.drop n)
 | _,_,0,r=>r
 | _,_,_+1,.nil=>.nil
 | _,_,n+1,.cons _ t=>Vals.drop n t
def RelO:Option V→Option Value→Prop
 | some v,some u=>RelV v u
 | none,none=>True
 | _,_=>False
def KV {κ:Type}:List (κ×V)→List (κ×Value)→Prop:=Paired fun (p:κ×V) (q:κ×Value)=>p.1=q.1∧RelV p.2 q.2
def kV:Key→V
 | .inl i=>.int i
 | .inr x=>.str x
inductive At where
 | non | int (i:Int) | str (x:Str)
 deriving DecidableEq
def Zfw:At→Value→Bool
 | .non,.none=>true
 | .int k,v=>Value.isInt k v
 | .str x,v=>Value.isStrOf x v
 | _,_=>false
def atH (w:World):At→Int
 | .non=>reduceHash 4238894112
 | .int k=>hashInt k
 | .str x=>hashStr w x
theorem Za8:∀ {k:At} {v:Value},Zfw k v=true→(k=.non∧v=.none)∨(∃ i t,k=.int i∧v=Value.int i t)∨(∃ x t,k=.str x∧v=Value.str x t)
 | .non,v,h=>by cases v<;>first | exact .inl ⟨rfl,rfl⟩ | exact absurd h Bool.false_ne_true
 | .int i,v,h=>by obtain ⟨t,e⟩:=Value.isInt_shape (k:=i) (v:=v) h;exact .inr (.inl ⟨i,t,rfl,e⟩)
 | .str x,v,h=>by obtain ⟨t,e⟩:=Value.isStrOf_shape (x:=x) (v:=v) h;exact .inr (.inr ⟨x,t,rfl,e⟩)
theorem Zon (i:Int) (t:Tok):Zfw (.int i) (.int i t)=true:=by simp [Zfw,Value.isInt]
theorem Zos (x:Str) (t:Tok):Zfw (.str x) (.str x t)=true:=by simp [Zfw,Value.isStrOf]
theorem ZmH {prog:Program} {w:World} {A:Around} {E:Value→Shared→Prop} {s:Shared} {Q:Int→Shared→Prop} (h:Q (reduceHash 4238894112) { s with toks:=s.toks+1 }) :
  wpAny (model prog w) A (PySem.pyHash .none) Q E s :=
 PySem.W.pyHash_slot (T:="NoneType") rfl F.slot_NoneType_hash F.entry_NoneType_hash (F.args_NoneType_hash_1 _) (beq_builtin_none _) (.inl rfl) (wpAny_bind (wpAny_pure (wpAny_bind (wpAny_mkInt (wpAny_pure ⟨_,_,rfl,h⟩)))))
theorem Zl5 (a b:Int):decide ((At.int a)=.int b)=(a==b):=by
 by_cases e:a=b
 ·subst e;simp
 ·rw [decide_eq_false (fun q=>e (by injection q))];exact (beq_eq_false_iff_ne.mpr e).symm
theorem ZlX (a b:Str):decide ((At.str a)=.str b)=decide (a=b):=by
 by_cases e:a=b
 ·subst e;simp
 ·rw [decide_eq_false (fun q=>e (by injection q)),decide_eq_false e]
def ZV (prog:Program) (w:World):PySem.KeyKind prog w At where
 is:=Zfw
 hash:=atH w
 inj:=fun v a b ha hb=>by
  rcases Za8 ha with ⟨rfl,rfl⟩ | ⟨i,t,rfl,rfl⟩ | ⟨x,t,rfl,rfl⟩<;>rcases Za8 hb with ⟨rfl,e⟩ | ⟨j,u,rfl,e⟩ | ⟨y,u,rfl,e⟩ <;>
   first | rfl | (cases e;done) | (cases e;rfl)
 byValue:=fun k v h=>by
  rcases Za8 h with ⟨rfl,rfl⟩ | ⟨i,t,rfl,rfl⟩ | ⟨x,t,rfl,rfl⟩<;>rfl
 pyHash:=fun hv h=>by
  rcases Za8 hv with ⟨rfl,rfl⟩ | ⟨i,t,rfl,rfl⟩ | ⟨x,t,rfl,rfl⟩
  ·exact ZmH h
  ·exact wpAny_pyHash_int h
  ·exact wpAny_pyHash_str h
 eqBool:=fun hu hv h=>by
  rcases Za8 hu with ⟨rfl,rfl⟩ | ⟨i,t,rfl,rfl⟩ | ⟨x,t,rfl,rfl⟩<;>rcases Za8 hv with ⟨rfl,rfl⟩ | ⟨j,u,rfl,rfl⟩ | ⟨y,u,rfl,rfl⟩
  ·exact SeqAt.EqAt.same Value.none _ _ _ _ h
  ·exact SeqAt.EqAt.none_int j u _ _ _ _ h
  ·exact SeqAt.EqAt.none_str y u _ _ _ _ h
  ·exact SeqAt.EqAt.int_none i t _ _ _ _ h
  ·rw [Zl5] at h;exact wpAny_eqBool_int h
  ·exact SeqAt.EqAt.int_str i t y u _ _ _ _ h
  ·exact SeqAt.EqAt.str_none x t _ _ _ _ h
  ·exact SeqAt.EqAt.str_int x t j u _ _ _ _ h
  ·rw [ZlX] at h;exact wpAny_eqBool_str h
 «strs»:=fun k x t v h=>by
  rcases Za8 h with ⟨rfl,e⟩ | ⟨i,u,rfl,e⟩ | ⟨y,u,rfl,e⟩
  ·exact nomatch e
  ·exact nomatch e
  ·injection e with e1 _
   subst e1
   cases v<;>rfl
inductive KT where
 | at (a:At) | tup (l:List At)
 deriving DecidableEq
def KT.hash (w:World):KT→Int
 | .at a=>atH w a
 | .tup l=>reduceHash (Builtin.Tuple.tupleHashOf (l.map (atH w)))
def atV:At→V
 | .non=>.non
 | .int i=>.int i
 | .str x=>.str x
def ktV:KT→V→Prop
 | .at a,v=>v=atV a
 | .tup _,v=>∃ p,v=.ref p
def Ze0 (w:World):List KT→List V→List DictEntry→Prop
 | [],vs,es=>vs=[]∧es=[]
 | k::ks,vs,es=>∃ kv v r e t,vs=kv::v::r∧es=e::t∧RelV kv e.key∧RelV v e.val∧e.hash=k.hash w∧ktV k kv∧Ze0 w ks r t
inductive HO where
 | lst (xs:List V)
 | tup (xs:List V)
 | dK (kvs:List (Key×V)) | dT (kvs:List (List Key×V))
 | dct (ks:List KT) (vs:List V)
 | set (S:Int→Bool) (n:Nat)
 | ins (C dx:Addr) (fs:List (Str×V))
 | own (x:Addr)
 | xd (fs:List (Str×V))
 | met (f x:Addr)
 | rng (lo hi:Int)
 | frz (o:Obj) (u:HO)
 | tbl (ps:Array Value)
 | ext (φ:Heap→Prop)
abbrev Hp:=Addr→Option HO
def upd (H:Hp) (a:Addr) (o:HO):Hp:=fun b=>if b=a then some o else H b
theorem Zam {H:Hp} {a:Addr} {o:HO}:upd H a o a=some o:=by unfold upd;rw [if_pos rfl]
theorem Zs {H:Hp} {a b:Addr} {o:HO} (h:b≠a):upd H a o b=H b:=by unfold upd;rw [if_neg h]
theorem ZpG {H:Hp} {a:Addr} {o u:HO}:upd (upd H a o) a u=upd H a u:=by
 funext b;unfold upd;split<;>rfl
theorem Z3 {H:Hp} {a b:Addr} {o:HO} (h:H a=some o) (h':H b=none):a≠b:=by
 intro e;subst e;rw [h] at h';cases h'
section
variable (P:Program) (w:World)
def ObjOk (H:Hp) (h:Heap) (a:Addr):HO→Prop
 | .lst xs=>xs.length≤sizeLine∧∃ (its:List Value) (n:Nat),Vals xs its∧h.get? a=some { cls:=.type "list",data:=.seq its.toArray n }
 | .tup xs=>xs.length≤sizeLine∧∃ its:List Value,Vals xs its∧IsTup h a its.toArray
 | .dK kvs=>kvs.length≤sizeLine∧(a==sysModules)=false∧∃ vs,KV kvs vs∧h.DictOf (Zg3 P w) a vs
 | .dT kvs=>kvs.length≤sizeLine∧(a==sysModules)=false∧∃ xs:List (List Key×Addr×Value),
   Paired (fun (p:List Key×V) (q:List Key×Addr×Value)=>p.1=q.1∧H q.2.1=some (.tup (p.1.map kV))∧RelV p.2 q.2.2) kvs xs ∧
   ∃ o es ep,h.get? a=some o∧o.ExactDict∧o.data=.dict es ep∧es.toList=xs.map (entryOfKey (tupleKind (Zg3 P w)))∧(xs.map (·.1)).Nodup
 | .dct ks vs=>ks.length≤sizeLine∧(a==sysModules)=false∧ks.Nodup∧∃ o es ep,h.get? a=some o∧o.ExactDict∧o.data=.dict es ep∧Ze0 w ks vs es.toList
 | .set S n=>h.SetOf (intKind P w) a S n
 | .ins C dx fs=>H dx=some (.own a)∧fs.length≤1000∧dx≠a∧h.get? a=some (PySem.W.instObj C dx) ∧
   ∃ mA,h.Ns1 dx mA∧(∀ f,RelO (fs.lookup f) (mA f))∧PySem.Within mA (fs.map (·.1))
 | .own _=>∃ o,h.get? a=some o
 | .xd fs=>∃ mA,h.Ns1 a mA∧∀ f,RelO (fs.lookup f) (mA f)
 | .rng lo hi=>∃ t u v,h.get? a=some { cls:=.type "range",data:=.fields #[.int lo t,.int hi u,.int 1 v] }
 | .frz o u=>h.get? a=some o∧ObjOk H h a u
 | .tbl ps=>h.get? a=some { cls:=.none,data:=.fields ps }
 | .met f x=>h.get? a=some (PySem.W.methodObj (.ref f) (.ref x))
 | .ext φ=>φ h∧(∃ o,h.get? a=some o)∧∀ h1 h2:Heap,φ h1→(∀ o,h1.get? a=some o→h2.get? a=some o)→φ h2
def HOk (H:Hp) (h:Heap):Prop:=∀ a o,H a=some o→ObjOk P w H h a o
end
section
variable {P:Program} {w:World} {H H':Hp} {h h':Heap} {a:Addr} {o:HO}
theorem ObjOk.lt (x:ObjOk P w H h a o):a<h.objs.size:=by
 cases o with
 | lst xs=>obtain ⟨_,_,_,_,e⟩:=x;exact Heap.lt_size e
 | tup xs=>obtain ⟨_,_,_,p⟩:=x;exact p.lt
 | dK kvs=>obtain ⟨_,_,_,_,o,_,_,e,_⟩:=x;exact Heap.lt_size e
 | dT kvs=>obtain ⟨_,_,_,_,o,_,_,e,_⟩:=x;exact Heap.lt_size e
 | dct ks vs=>obtain ⟨_,_,_,o,_,_,e,_⟩:=x;exact Heap.lt_size e
 | set S n=>obtain ⟨o,_,_,_,e,_⟩:=x;exact Heap.lt_size e
 | ins C dx fs=>obtain ⟨_,_,_,e,_⟩:=x;exact Heap.lt_size e
 | own y=>obtain ⟨_,e⟩:=x;exact Heap.lt_size e
 | xd fs=>obtain ⟨_,⟨_,_,_,e,_⟩,_⟩:=x;exact Heap.lt_size e
 | rng lo hi=>obtain ⟨_,_,_,e⟩:=x;exact Heap.lt_size e
 | frz ob u=>obtain ⟨e,_⟩:=x;exact Heap.lt_size e
 | tbl ps=>exact Heap.lt_size (show h.get? a=some _ from x)
 | met f y=>exact Heap.lt_size (show h.get? a=some _ from x)
 | ext φ=>obtain ⟨_,⟨_,e⟩,_⟩:=x;exact Heap.lt_size e
theorem Paired.mapP {α β:Type} {F G:α→β→Prop}:∀ {l₁:List α} {l₂:List β},Paired F l₁ l₂→(∀ a b,F a b→G a b)→Paired G l₁ l₂
 | _,_,.nil,_=>.nil
 | _,_,.cons r t,f=>.cons (f _ _ r) (Paired.mapP t f)
theorem ObjOk.stay (x:ObjOk P w H h a o) (k:∀ b u,(b=a∨H b=some (.own a))→h.get? b=some u→h'.get? b=some u)
  (ho:∀ b,H b=some (.own a)→H' b=some (.own a)) (ht:∀ b xs,H b=some (.tup xs)→H' b=some (.tup xs)):ObjOk P w H' h' a o:=by
 induction o with
 | lst xs=>obtain ⟨z,its,n,r,e⟩:=x;exact ⟨z,its,n,r,k _ _ (.inl rfl) e⟩
 | tup xs=>obtain ⟨z,its,r,ob,e,c⟩:=x;exact ⟨z,its,r,ob,k _ _ (.inl rfl) e,c⟩
 | dK kvs=>obtain ⟨z,y,vs,r,ob,es,ep,e,c⟩:=x;exact ⟨z,y,vs,r,ob,es,ep,k _ _ (.inl rfl) e,c⟩
 | dT kvs =>
  obtain ⟨z,y,xs,r,ob,es,ep,e,c⟩:=x
  exact ⟨z,y,xs,Paired.mapP r fun p q z=>⟨z.1,ht _ _ z.2.1,z.2.2⟩,ob,es,ep,k _ _ (.inl rfl) e,c⟩
 | dct ks vs=>obtain ⟨z,y,n,ob,es,ep,e,c⟩:=x;exact ⟨z,y,n,ob,es,ep,k _ _ (.inl rfl) e,c⟩
 | set S n=>obtain ⟨ob,es,ep,t,e,c⟩:=x;exact ⟨ob,es,ep,t,k _ _ (.inl rfl) e,c⟩
 | ins C dx fs =>
  obtain ⟨d,z,ne,e,mA,⟨od,es,ep,e2,c⟩,r⟩:=x
  exact ⟨ho _ d,z,ne,k _ _ (.inl rfl) e,mA,⟨od,es,ep,k _ _ (.inr d) e2,c⟩,r⟩
 | own y=>obtain ⟨ob,e⟩:=x;exact ⟨ob,k _ _ (.inl rfl) e⟩
 | xd fs=>obtain ⟨mA,⟨od,es,ep,e,c⟩,r⟩:=x;exact ⟨mA,⟨od,es,ep,k _ _ (.inl rfl) e,c⟩,r⟩
 | rng lo hi=>obtain ⟨t,u,v,e⟩:=x;exact ⟨t,u,v,k _ _ (.inl rfl) e⟩
 | frz ob u ih=>obtain ⟨e,q⟩:=x;exact ⟨k _ _ (.inl rfl) e,ih q⟩
 | tbl ps =>
  have e:h.get? a=some { cls:=.none,data:=.fields ps }:=x
  show h'.get? a=some { cls:=.none,data:=.fields ps }
  exact k a _ (.inl rfl) e
 | met f y =>
  have e:h.get? a=some (PySem.W.methodObj (.ref f) (.ref y)):=x
  show h'.get? a=some (PySem.W.methodObj (.ref f) (.ref y))
  exact k a _ (.inl rfl) e
 | ext φ=>obtain ⟨p,⟨o,e⟩,st⟩:=x;exact ⟨st _ _ p fun o q=>k _ _ (.inl rfl) q,⟨o,k _ _ (.inl rfl) e⟩,st⟩
theorem HOk.lt (x:HOk P w H h) (e:H a=some o):a<h.objs.size:=(x a o e).lt
theorem HOk.fresh (x:HOk P w H h) (e:h.objs.size≤a):H a=none:=by
 cases q:H a with
 | none=>rfl
 | some u=>exact absurd (Nat.lt_of_lt_of_le (x.lt q) e) (Nat.lt_irrefl _)
theorem HOk.kept (x:HOk P w H h) (k:∀ b u,h.get? b=some u→h'.get? b=some u):HOk P w H h':=fun a o e =>
 (x a o e).stay (fun b u _ q=>k b u q) (fun _ q=>q) fun _ _ q=>q
theorem HOk.laid (x:HOk P w H h) (k:∀ b u,h.get? b=some u→h'.get? b=some u) (hp:h.objs.size≤a) (new:ObjOk P w (upd H a o) h' a o):HOk P w (upd H a o) h':=fun b u e=>by
 have hn:=x.fresh hp
 by_cases hb:b=a
 ·subst hb;rw [Zam] at e;cases e;exact new
 ·rw [Zs hb] at e
  exact (x b u e).stay (fun c v _ q=>k c v q) (fun c q=>by rw [Zs (Z3 q hn)];exact q) fun c xs q=>by rw [Zs (Z3 q hn)];exact q
end
def Rd (H:Hp) (a:Addr) (u:HO):Prop:=H a=some u∨∃ o,H a=some (.frz o u)
theorem Rd.of {H:Hp} {a:Addr} {u:HO} (h:H a=some u):Rd H a u:=.inl h
theorem Rd.ok {P:Program} {w:World} {H:Hp} {h:Heap} {a:Addr} {u:HO} (r:Rd H a u) (x:HOk P w H h):ObjOk P w H h a u:=by
 rcases r with r | ⟨o,r⟩
 ·exact x a u r
 ·obtain ⟨_,q⟩:=x a _ r
  exact q
def Mut:Option HO→Prop
 | some (.lst _)=>True
 | some (.dK _)=>True
 | some (.dT _)=>True
 | some (.dct _ _)=>True
 | some (.set _ _)=>True
 | some (.ins _ _ _)=>True
 | some (.ext _)=>True
 | _=>False
section
variable {P:Program} {w:World} {H:Hp} {h h':Heap} {x e:Addr} {o':HO}
theorem HOk.write (ok:HOk P w H h) (mu:Mut (H x)) (he:e=x∨H e=some (.own x)) (k:∀ b u,b≠e→h.get? b=some u→h'.get? b=some u) (heo:∃ u,h'.get? e=some u)
  (new:ObjOk P w (upd H x o') h' x o'):HOk P w (upd H x o') h':=fun b u q=>by
 have nown:∀ c y,H c=some (.own y)→c≠x:=fun c y r z=>by subst z;rw [r] at mu;exact mu
 have ntup:∀ c xs,H c=some (.tup xs)→c≠x:=fun c xs r z=>by subst z;rw [r] at mu;exact mu
 by_cases hb:b=x
 ·subst hb;rw [Zam] at q;cases q;exact new
 ·rw [Zs hb] at q
  by_cases hbe:b=e
  ·have q':H b=some (.own x):=by
    rcases he with z | z
    ·exact absurd (hbe.trans z) hb
    ·rw [hbe];exact z
   rw [q] at q';cases q'
   obtain ⟨v,hv⟩:=heo
   exact ⟨v,by rw [hbe];exact hv⟩
  ·refine (ok b u q).stay (fun c v hc r=>k c v ?_ r) (fun c r=>by rw [Zs (nown c b r)];exact r) fun c xs r=>by rw [Zs (ntup c xs r)];exact r
   rcases hc with rfl | hc
   ·exact hbe
   ·rintro rfl
    rcases he with z | z
    ·exact nown c b hc z
    ·rw [hc] at z;cases z;exact hb rfl
end
structure Un (fs ex:List Addr) (H H':Hp) (h h':Heap):Prop where
 keep:∀ b o,h.get? b=some o→H b=none→b∉fs→b∉ex→h'.get? b=some o
 slot:∀ b o,h.get? b=some o→H b=none→b∈fs→b∉ex→∃ sl,h'.get? b=some { o with slots:=sl }
 free:∀ b o,h.get? b=some o→H b=none→b∉ex→H' b=none
 there:∀ b o,h.get? b=some o→b∉ex→∃ o',h'.get? b=some o'
 tups:∀ b xs,H b=some (.tup xs)→H' b=some (.tup xs)
 frzs:∀ b o u,H b=some (.frz o u)→H' b=some (.frz o u)
 tbls:∀ b ps,H b=some (.tbl ps)→∃ more,H' b=some (.tbl (ps++more))
section
variable {fs fs' ex ex':List Addr} {H H1 H2:Hp} {h h1 h2 h':Heap} {a x e:Addr} {o:HO}
theorem Un.any (u:Un fs ex H H1 h h1) {b:Addr} {ob:Obj} (q:h.get? b=some ob) (n:H b=none) (hx:b∉ex):∃ sl,h1.get? b=some { ob with slots:=sl }:=by
 by_cases hb:b∈fs
 ·exact u.slot b ob q n hb hx
 ·exact ⟨ob.slots,u.keep b ob q n hb hx⟩
theorem Un.trans (a:Un fs ex H H1 h h1) (b:Un fs ex H1 H2 h1 h2):Un fs ex H H2 h h2 where
 keep:=fun c ob q n hc hx=>b.keep c ob (a.keep c ob q n hc hx) (a.free c ob q n hx) hc hx
 slot:=fun c ob q n hc hx=>by
  obtain ⟨sl,e1⟩:=a.slot c ob q n hc hx
  obtain ⟨sl',e2⟩:=b.slot c _ e1 (a.free c ob q n hx) hc hx
  exact ⟨sl',e2⟩
 free:=fun c ob q n hx=>by
  obtain ⟨o',e1⟩:=a.there c ob q hx
  exact b.free c o' e1 (a.free c ob q n hx) hx
 there:=fun c ob q hx=>by
  obtain ⟨o',e1⟩:=a.there c ob q hx
  exact b.there c o' e1 hx
 tups:=fun c xs q=>b.tups c xs (a.tups c xs q)
 frzs:=fun c ob xs q=>b.frzs c ob xs (a.frzs c ob xs q)
 tbls:=fun c ps q=>by
  obtain ⟨m1,e1⟩:=a.tbls c ps q
  obtain ⟨m2,e2⟩:=b.tbls c _ e1
  exact ⟨m1++m2,by rw [e2,Array.append_assoc]⟩
theorem Un.kept (k:∀ b u,h.get? b=some u→h'.get? b=some u):Un fs ex H H h h' :=
 ⟨fun b ob q _ _ _=>k b ob q,fun b ob q _ _ _=>⟨ob.slots,k b ob q⟩,fun _ _ _ n _=>n,fun b ob q _=>⟨ob,k b ob q⟩,fun _ _ q=>q,fun _ _ _ q=>q,fun _ ps q=>⟨#[],by rw [q];simp⟩⟩
theorem Un.refl:Un fs ex H H h h:=Un.kept fun _ _ q=>q
theorem Un.laid (k:∀ b u,h.get? b=some u→h'.get? b=some u) (hp:h.objs.size≤a) (hn:H a=none):Un fs ex H (upd H a o) h h' where
 keep:=fun b u q _ _ _=>k b u q
 slot:=fun b u q _ _ _=>⟨u.slots,k b u q⟩
 free:=fun b u q n _=>by rw [Zs (Nat.ne_of_lt (Nat.lt_of_lt_of_le (Heap.lt_size q) hp))];exact n
 there:=fun b u q _=>⟨u,k b u q⟩
 tups:=fun b xs q=>by rw [Zs (Z3 q hn)];exact q
 frzs:=fun b u xs q=>by rw [Zs (Z3 q hn)];exact q
 tbls:=fun b ps q=>⟨#[],by rw [Zs (Z3 q hn),q];simp⟩
theorem Un.write (mu:Mut (H x)) (he:e=x∨H e=some (.own x)) (k:∀ b u,b≠e→h.get? b=some u→h'.get? b=some u) (heo:∃ u,h'.get? e=some u):Un fs ex H (upd H x o) h h':=by
 have hx:∀ b,H b=none→b≠x:=fun b n z=>by subst z;rw [n] at mu;exact mu
 have hb:∀ b,H b=none→b≠e:=fun b n z=>by
  subst z
  rcases he with r | r
  ·exact hx b n r
  ·rw [n] at r;cases r
 have hm:∀ b u,H b=some u→¬ Mut (some u)→b≠x:=fun b u q nm z=>by subst z;rw [q] at mu;exact nm mu
 refine ⟨fun b u q n _ _=>k b u (hb b n) q,fun b u q n _ _=>⟨u.slots,k b u (hb b n) q⟩,fun b u q n _=>by rw [Zs (hx b n)];exact n,fun b u q _=>?_,
  fun b xs q=>by rw [Zs (hm b _ q fun z=>z)];exact q,fun b u xs q=>by rw [Zs (hm b _ q fun z=>z)];exact q,fun b ps q=>⟨#[],by rw [Zs (hm b _ q fun z=>z),q];simp⟩⟩
 by_cases hbe:b=e
 ·subst hbe;exact heo
 ·exact ⟨u,k b u hbe q⟩
theorem Un.mono (u:Un fs ex H H1 h h1) (hs:∀ b∈fs,b∈fs') (hx:∀ b∈ex,b∈ex'):Un fs' ex' H H1 h h1 :=
 ⟨fun b ob q n hb he=>u.keep b ob q n (fun z=>hb (hs b z)) fun z=>he (hx b z),fun _ _ q n _ he=>u.any q n fun z=>he (hx _ z),fun b ob q n he=>u.free b ob q n fun z=>he (hx b z),fun b ob q he=>u.there b ob q fun z=>he (hx b z),u.tups,u.frzs,u.tbls⟩
end
def trk (h:Heap) (H:Hp):List Addr:=(List.range h.objs.size).filter fun a=>(H a).isSome
def Zfa (h:Heap) (H:Hp):Heap:=PySem.W.hideAll h (trk h H)
theorem ZmK (h:Heap) (H:Hp):(Zfa h H).objs.size=h.objs.size:=PySem.W.hideAll_size _ _
theorem ZnA {h:Heap} {H:Hp} {b:Addr} {o:Obj} (e:h.get? b=some o) (n:H b=none):(Zfa h H).get? b=some o :=
 PySem.W.hideAll_get _ e fun hm=>by
  have q:(H b).isSome=true:=(List.mem_filter.mp hm).2
  rw [n] at q;simp at q
theorem Zo3 {h:Heap} {H:Hp} {b:Addr} {o:Obj} (e:(Zfa h H).get? b=some o):h.get? b=some o∧H b=none:=by
 have e':h.get? b=some o:=PySem.W.of_hideAll (trk h H) e
 refine ⟨e',?_⟩
 cases q:H b with
 | none=>rfl
 | some x =>
  have hm:b∈trk h H:=List.mem_filter.mpr ⟨List.mem_range.mpr (Heap.lt_size e'),by simp [q]⟩
  have z:(Zfa h H).get? b=none:=PySem.W.hideAll_none (trk h H) hm
  rw [z] at e;cases e
def Zpq (g h:Heap) (L:Addr):List (Addr×Obj):=(List.range h.objs.size).filterMap fun a=>if a=L∨(g.get? a).isSome=true then none else (h.get? a).map fun o=>(a,o)
def ZZ (g h:Heap) (L d:Addr):List (Addr×Obj):=(Zpq g h L).filter fun p=>decide (p.1≠d)
end L2
namespace L2
open PySem PySem.Spec PyProof.Rows
structure Mod (K:PySem.W.Frag) (mg:Str→Option Value) (base:Heap):Prop where
 kin:K.In base
 glob:base.Ns mainGlobals mg
 blt:∃ mb,base.Ns builtinsNs mb∧∀ x:Str,x≠"__name__"→mb x=bootBuiltins x
 nolimit:base.NoLimit
structure Cx where
 prog:Program
 w:World
 K:PySem.W.Frag
 mg:Str→Option Value
 base:Heap
 A:Around
 N:List Str
 s₀:Shared
 H₀:Hp
 env:Env
 outer:List Env
 stack:List Env
 ex:List Addr
 fn:Str→Bool
 calm:Bool
 pn:List (Addr×Obj)
 xe:Value→Shared→Prop
def frs (l:List Env):List Addr:=l.filterMap (·.frame)
abbrev Cx.fs (X:Cx):List Addr:=frs X.outer
def Vis (sc:Scope) (x:Str):Prop:=sc.names.lookup x=some .local∨sc.names.lookup x=some .cell∨sc.names.lookup x=some .free
def Loc (sc:Scope) (x:Str):Prop:=sc.names.lookup x=some .local∨sc.names.lookup x=some .cell
def Zty (env:Env) (h:Heap) (m:Str→Option Value) (x:Str) (u:Value):Prop :=
 (env.kindOf x=some .local∧m x=some u)∨((env.kindOf x=some .cell∨env.kindOf x=some .free)∧∃ c,env.cells.lookup x=some c∧h.IsCell c (some u))
structure Cx.Ok (X:Cx):Prop where
 mod:Mod X.K X.mg X.base
 kind:X.env.scope.kind=.function
 glob:X.env.globals=mainGlobals
 blt:X.env.builtins=builtinsNs
 above:X.s₀.heap.objs.size≤X.env.locals
 inj:∀ x y c,X.env.cells.lookup x=some c→X.env.cells.lookup y=some c→x=y
 has:∀ x,(X.env.kindOf x=some .cell∨X.env.kindOf x=some .free)→∃ c,X.env.cells.lookup x=some c
 cab:∀ x c,X.fn x=true→X.env.cells.lookup x=some c→X.s₀.heap.objs.size≤c
 hd:X.calm=true→X.A.handled=none
 frames:X.A.frames=some X.stack
 stk:X.stack=X.outer∨(X.stack=X.env::X.outer∧X.env.frame=some X.env.locals)
 exf:∀ b∈X.ex,b≠X.env.locals∧∀ x c,X.env.cells.lookup x=some c→c≠b
 bs:∀ b o,X.base.get? b=some o→X.s₀.heap.get? b=some o∧X.H₀ b=none
 bsz:X.base.objs.size≤X.s₀.heap.objs.size
 noex:∀ b o,X.base.get? b=some o→b∉X.ex
 exfs:∀ b∈X.ex,b∉X.fs
 funs:X.s₀.heap.FunFrames X.base X.outer
 frf:∀ b∈X.fs,X.H₀ b=none
structure Inv (X:Cx) (pins:List (Addr×Obj)) (σ:List (Option V)) (H:Hp) (s:Shared):Prop where
 ok:X.Ok
 os:s.os=X.s₀.os
 bare:AllBare s.gens
 base:Un X.fs X.ex X.H₀ H X.s₀.heap s.heap
 loc:∃ m,s.heap.Ns X.env.locals m∧∀ (i:Nat) (x:Str) (v:V),X.N[i]?=some x→σ[i]?=some (some v)→Vis X.env.scope x→∃ u,RelV v u∧Zty X.env s.heap m x u
 cell:∀ x c,X.env.cells.lookup x=some c→∃ v,s.heap.IsCell c v
 free:H X.env.locals=none
 freeC:∀ x c,X.env.cells.lookup x=some c→H c=none
 pin:∀ p∈X.pn++pins,s.heap.get? p.1=some p.2∧H p.1=none∧p.1≠X.env.locals∧p.1∉X.fs∧∀ v,p.2.data≠.cell v
 hok:HOk X.prog X.w H s.heap
 len:σ.length=X.N.length
section
variable {X:Cx} {pins:List (Addr×Obj)} {σ:List (Option V)} {H H':Hp} {s:Shared} {h':Heap}
theorem Cx.Ok.nofr (ok:X.Ok) {b:Addr} {o:Obj} (e:X.base.get? b=some o):b∉X.fs:=fun hb=>by
 have:=(ok.funs.mem hb).1
 rw [e] at this;cases this
theorem Inv.bs (I:Inv X pins σ H s):∀ b o,X.base.get? b=some o→s.heap.get? b=some o∧H b=none:=fun b o e =>
 ⟨I.base.keep b o (I.ok.bs b o e).1 (I.ok.bs b o e).2 (I.ok.nofr e) (I.ok.noex b o e),I.base.free b o (I.ok.bs b o e).1 (I.ok.bs b o e).2 (I.ok.noex b o e)⟩
theorem Inv.bk (I:Inv X pins σ H s):∀ b o,X.base.get? b=some o→s.heap.get? b=some o:=fun b o e=>(I.bs b o e).1
theorem Inv.mod (I:Inv X pins σ H s):Mod X.K X.mg X.base:=I.ok.mod
theorem Inv.kIn (I:Inv X pins σ H s):X.K.In s.heap:=I.ok.mod.kin.keeps I.bk
theorem Inv.nolimit (I:Inv X pins σ H s):s.heap.NoLimit:=I.ok.mod.nolimit.keeps I.bk
theorem Inv.fr (I:Inv X pins σ H s):∃ m,Fr X.base X.env.locals s.heap m :=
 let ⟨m,hn,_⟩:=I.loc
 ⟨m,hn,I.bk,Nat.le_trans I.ok.bsz I.ok.above⟩
theorem Inv.lt (I:Inv X pins σ H s):X.env.locals<s.heap.objs.size:=let ⟨_,hn,_⟩:=I.loc;hn.lt
theorem Inv.sz (I:Inv X pins σ H s):X.s₀.heap.objs.size≤s.heap.objs.size:=Nat.le_trans I.ok.above (Nat.le_of_lt I.lt)
theorem Inv.nofs (I:Inv X pins σ H s) {a:Addr} (h:s.heap.objs.size≤a):a∉X.fs:=fun hb=>by
 obtain ⟨_,o,ho,_⟩:=I.ok.funs.mem hb
 exact absurd (Nat.lt_of_lt_of_le (Heap.lt_size ho) (Nat.le_trans I.sz h)) (Nat.lt_irrefl _)
theorem Inv.cne (I:Inv X pins σ H s):∀ x c,X.env.cells.lookup x=some c→c≠X.env.locals:=fun x c e z=>by
 obtain ⟨v,o,ho,hd⟩:=I.cell x c e
 obtain ⟨m,⟨o',es,ep,ho',hd',_⟩,_⟩:=I.loc
 rw [z,ho'] at ho;cases ho;rw [hd'] at hd;cases hd
theorem Inv.funs (I:Inv X pins σ H s):s.heap.FunFrames X.base X.outer:=by
 have all:∀ (l:List Env),(∀ b∈frs l,b∈X.fs)→X.s₀.heap.FunFrames X.base l→s.heap.FunFrames X.base l:=by
  intro l
  induction l with
  | nil=>intro _ _;trivial
  | cons env r ih =>
   intro hs hl
   obtain ⟨hk,⟨L,o,hf,hn,ho,hd⟩,hr⟩:=hl
   have hL:L∈X.fs:=hs L (by unfold frs;rw [List.filterMap_cons,hf];exact List.mem_cons_self)
   obtain ⟨sl,e⟩:=I.base.slot L o ho (I.ok.frf L hL) hL fun z=>I.ok.exfs L z hL
   exact ⟨hk,⟨L,_,hf,hn,e,hd⟩,ih (fun b hb=>hs b (by unfold frs;rw [List.filterMap_cons,hf];exact List.mem_cons_of_mem _ hb)) hr⟩
 exact all X.outer (fun _ hb=>hb) I.ok.funs
theorem Inv.stack (I:Inv X pins σ H s):s.heap.FunFrames X.base X.stack:=by
 rcases I.ok.stk with e | ⟨e,hf⟩
 ·rw [e];exact I.funs
 ·rw [e]
  obtain ⟨m,hn,_⟩:=I.loc
  refine .cons (by rw [I.ok.kind];decide) hf hn ?_ I.funs
  exact Heap.get?_none_of_le (Nat.le_trans I.ok.bsz I.ok.above)
theorem Inv.stkSub (I:Inv X pins σ H s):∀ b∈frs X.stack,b∈X.env.locals::X.fs:=fun b hb=>by
 rcases I.ok.stk with e | ⟨e,hf⟩
 ·rw [e] at hb;exact List.mem_cons_of_mem _ hb
 ·rw [e] at hb
  unfold frs at hb
  rw [List.filterMap_cons,hf] at hb
  exact hb
theorem Inv.stkFree (I:Inv X pins σ H s):∀ b∈frs X.stack,H b=none:=fun b hb=>by
 rcases List.mem_cons.mp (I.stkSub b hb) with e | hb
 ·rw [e];exact I.free
 ·obtain ⟨_,o,ho,_⟩:=I.ok.funs.mem hb
  exact I.base.free b o ho (I.ok.frf b hb) fun z=>I.ok.exfs b z hb
theorem Inv.step {g':Array GenState} {t':Nat} {d':Drawn} {ch:List Addr} (I:Inv X pins σ H s)
  (hch:∀ b∈ch,(b∈X.ex∨X.s₀.heap.objs.size≤b)∧b≠X.env.locals∧(∀ x c,X.env.cells.lookup x=some c→c≠b)∧∀ p∈X.pn++pins,p.1≠b)
  (keep:∀ b o,b≠X.env.locals→b∉X.fs→b∉ch→s.heap.get? b=some o→H b=none→h'.get? b=some o)
  (slot:∀ b o,b≠X.env.locals→b∈X.fs→b∉ch→s.heap.get? b=some o→H b=none→∃ sl,h'.get? b=some { o with slots:=sl }) (free:∀ b o,b∉ch→s.heap.get? b=some o→H b=none→H' b=none)
  (there:∀ b o,b∉ch→s.heap.get? b=some o→∃ o',h'.get? b=some o')
  (tups:∀ b xs,H b=some (.tup xs)→H' b=some (.tup xs)) (frzs:∀ b o u,H b=some (.frz o u)→H' b=some (.frz o u)) (tbls:∀ b ps,H b=some (.tbl ps)→∃ more,H' b=some (.tbl (ps++more)))
  (ns:∀ m,s.heap.Ns X.env.locals m→h'.Ns X.env.locals m) (hok:HOk X.prog X.w H' h') (hg:AllBare g') :
  Inv X pins σ H' { s with heap:=h',gens:=g',drawn:=d',toks:=t' }:=by
 have neL:∀ b o,X.s₀.heap.get? b=some o→b≠X.env.locals:=fun b o e=>Nat.ne_of_lt (Nat.lt_of_lt_of_le (Heap.lt_size e) I.ok.above)
 have neC:∀ b o,X.s₀.heap.get? b=some o→b∉X.ex→b∉ch:=fun b o e hx hb=>by
  rcases (hch b hb).1 with z | z
  ·exact hx z
  ·exact absurd (Nat.lt_of_lt_of_le (Heap.lt_size e) z) (Nat.lt_irrefl _)
 have cellK:∀ x c,X.env.cells.lookup x=some c→∀ v,s.heap.IsCell c v→h'.IsCell c v:=fun x c e v ⟨o,ho,hd⟩=>by
  have nch:c∉ch:=fun z=>(hch c z).2.2.1 x c e rfl
  by_cases hc:c∈X.fs
  ·obtain ⟨sl,q⟩:=slot c o (I.cne x c e) hc nch ho (I.freeC x c e)
   exact ⟨_,q,hd⟩
  ·exact ⟨o,keep c o (I.cne x c e) hc nch ho (I.freeC x c e),hd⟩
 refine ⟨I.ok,I.os,hg,⟨fun b o e n hb hx=>?_,fun b o e n hb hx=>?_,fun b o e n hx=>?_,fun b o e hx=>?_,fun b xs e=>tups b xs (I.base.tups b xs e),fun b o xs e=>frzs b o xs (I.base.frzs b o xs e),fun b ps e=>?_⟩,?_,fun x c e=>?_,?_,fun x c e=>?_,fun p hp=>?_,hok,I.len⟩
 ·exact keep b o (neL b o e) hb (neC b o e hx) (I.base.keep b o e n hb hx) (I.base.free b o e n hx)
 ·obtain ⟨sl,e1⟩:=I.base.slot b o e n hb hx
  obtain ⟨sl',e2⟩:=slot b _ (neL b o e) hb (neC b o e hx) e1 (I.base.free b o e n hx)
  exact ⟨sl',e2⟩
 ·obtain ⟨o',e1⟩:=I.base.there b o e hx
  exact free b o' (neC b o e hx) e1 (I.base.free b o e n hx)
 ·obtain ⟨o',e1⟩:=I.base.there b o e hx
  exact there b o' (neC b o e hx) e1
 ·obtain ⟨m1,e1⟩:=I.base.tbls b ps e
  obtain ⟨m2,e2⟩:=tbls b _ e1
  exact ⟨m1++m2,by rw [e2,Array.append_assoc]⟩
 ·obtain ⟨m,hn,hl⟩:=I.loc
  refine ⟨m,ns m hn,fun i x v e1 e2 e3=>?_⟩
  obtain ⟨u,r,l⟩:=hl i x v e1 e2 e3
  refine ⟨u,r,?_⟩
  rcases l with l | ⟨k,c,e,z⟩
  ·exact .inl l
  ·exact .inr ⟨k,c,e,cellK x c e _ z⟩
 ·obtain ⟨v,z⟩:=I.cell x c e
  exact ⟨v,cellK x c e v z⟩
 ·obtain ⟨m,⟨o,_,_,ho,_⟩,_⟩:=I.loc
  exact free _ o (fun z=>(hch _ z).2.1 rfl) ho I.free
 ·obtain ⟨v,o,ho,hd⟩:=I.cell x c e
  exact free c o (fun z=>(hch c z).2.2.1 x c e rfl) ho (I.freeC x c e)
 ·obtain ⟨e,n,ne,nf,d⟩:=I.pin p hp
  have nch:p.1∉ch:=fun z=>(hch p.1 z).2.2.2 p hp rfl
  exact ⟨keep p.1 p.2 ne nf nch e n,free p.1 p.2 nch e n,ne,nf,d⟩
theorem Inv.un {t':Nat} (I:Inv X pins σ H s) (u:Un X.fs [] H H' s.heap h') (hok:HOk X.prog X.w H' h'):Inv X pins σ H' { s with heap:=h',toks:=t' }:=by
 obtain ⟨m,⟨o,es,ep,ho,r⟩,_⟩:=id I.loc
 obtain ⟨sl,hL⟩:=u.any ho I.free (by simp)
 exact I.step (g':=s.gens) (d':=s.drawn) (ch:=[]) (fun _ z=>nomatch z) (fun b o _ hb _ e n=>u.keep b o e n hb (by simp)) (fun b o _ hb _ e n=>u.slot b o e n hb (by simp)) (fun b o _ e n=>u.free b o e n (by simp)) (fun b o _ e=>u.there b o e (by simp)) u.tups u.frzs u.tbls (fun m' hm=>by
  obtain ⟨o',es',ep',ho',r'⟩:=hm
  rw [ho] at ho';cases ho'
  exact ⟨_,es',ep',hL,r'⟩) hok I.bare
theorem Inv.call {g':Array GenState} {t':Nat} {d':Drawn} {ch:List Addr} (I:Inv X pins σ H s) (u:Un (frs X.stack) ch H H' s.heap h') (hok:HOk X.prog X.w H' h') (hg:AllBare g')
  (hch:∀ b∈ch,(b∈X.ex∨X.s₀.heap.objs.size≤b)∧b≠X.env.locals∧(∀ x c,X.env.cells.lookup x=some c→c≠b)∧∀ p∈X.pn++pins,p.1≠b) :
  Inv X pins σ H' { s with heap:=h',gens:=g',drawn:=d',toks:=t' }:=by
 obtain ⟨m,⟨o,es,ep,ho,r⟩,_⟩:=id I.loc
 obtain ⟨sl,hL⟩:=u.any ho I.free fun z=>(hch _ z).2.1 rfl
 exact I.step (ch:=ch) hch (fun b o hL hb hc e n=>u.keep b o e n (fun z=>(List.mem_cons.mp (I.stkSub b z)).elim hL hb) hc) (fun b o _ _ hc e n=>u.any e n hc) (fun b o hc e n=>u.free b o e n hc) (fun b o hc e=>u.there b o e hc) u.tups u.frzs u.tbls (fun m' hm=>by
  obtain ⟨o',es',ep',ho',r'⟩:=hm
  rw [ho] at ho';cases ho'
  exact ⟨_,es',ep',hL,r'⟩) hok hg
theorem Inv.turned {t':Nat} {it:Addr} (I:Inv X pins σ H s) (k:∀ b o,b≠it→s.heap.get? b=some o→h'.get? b=some o) (hn:H it=none) (hL:it≠X.env.locals)
  (h1:it∈X.ex∨X.s₀.heap.objs.size≤it) (h2:∀ x c,X.env.cells.lookup x=some c→c≠it) (h3:∀ p∈X.pn++pins,p.1≠it):Inv X pins σ H { s with heap:=h',toks:=t' }:=by
 have nit:∀ b u,H b=some u→b≠it:=fun b u e z=>by rw [z,hn] at e;cases e
 refine I.step (g':=s.gens) (d':=s.drawn) (ch:=[it]) (fun b hb=>?_) (fun b o _ _ hc e _=>k b o (fun z=>hc (by simp [z])) e) (fun b o _ _ hc e _=>⟨o.slots,k b o (fun z=>hc (by simp [z])) e⟩) (fun _ _ _ _ n=>n)
  (fun b o hc e=>⟨o,k b o (fun z=>hc (by simp [z])) e⟩) (fun _ _ e=>e) (fun _ _ _ e=>e) (fun b ps e=>⟨#[],by rw [e];simp⟩) (fun m hm=>?_) (fun b u e=>?_) I.bare
 ·have e:b=it:=by simpa using hb
  subst e
  exact ⟨h1,hL,h2,h3⟩
 ·obtain ⟨o,es,ep,ho,r⟩:=hm
  exact ⟨o,es,ep,k _ o (Ne.symm hL) ho,r⟩
 ·refine (I.hok b u e).stay (fun c v hc q=>k c v ?_ q) (fun _ q=>q) fun _ _ q=>q
  rcases hc with z | z
  ·rw [z];exact nit b u e
  ·exact nit c _ z
theorem Inv.tok (I:Inv X pins σ H s) (t:Nat):Inv X pins σ H { s with toks:=t }:=I.un (h':=s.heap) (t':=t) Un.refl I.hok
theorem Inv.kept {t':Nat} (I:Inv X pins σ H s) (k:∀ b u,s.heap.get? b=some u→h'.get? b=some u):Inv X pins σ H { s with heap:=h',toks:=t' }:=I.un (Un.kept k) (I.hok.kept k)
theorem Inv.laid {a:Addr} {o:HO} {t':Nat} (I:Inv X pins σ H s) (k:∀ b u,s.heap.get? b=some u→h'.get? b=some u) (hp:s.heap.objs.size≤a) (new:ObjOk X.prog X.w (upd H a o) h' a o) :
  Inv X pins σ (upd H a o) { s with heap:=h',toks:=t' }:=I.un (Un.laid k hp (I.hok.fresh hp)) (I.hok.laid k hp new)
theorem Inv.write {x e:Addr} {o:HO} {t':Nat} (I:Inv X pins σ H s) (mu:Mut (H x)) (he:e=x∨H e=some (.own x)) (k:∀ b u,b≠e→s.heap.get? b=some u→h'.get? b=some u) (heo:∃ u,h'.get? e=some u)
  (new:ObjOk X.prog X.w (upd H x o) h' x o):Inv X pins σ (upd H x o) { s with heap:=h',toks:=t' }:=I.un (Un.write mu he k heo) (I.hok.write mu he k heo new)
theorem Inv.weak {σ':List (Option V)} (I:Inv X pins σ H s) (hl:σ'.length=σ.length) (w:∀ (i:Nat) v,σ'[i]?=some (some v)→σ[i]?=some (some v)):Inv X pins σ' H s :=
 ⟨I.ok,I.os,I.bare,I.base,let ⟨m,hn,hl'⟩:=I.loc;⟨m,hn,fun i x v e1 e2 e3=>hl' i x v e1 (w i v e2) e3⟩,I.cell,I.free,I.freeC,I.pin,I.hok,hl.trans I.len⟩
theorem Inv.pins_of {pins':List (Addr×Obj)} (I:Inv X pins σ H s) (h:∀ p∈pins',s.heap.get? p.1=some p.2∧H p.1=none∧p.1≠X.env.locals∧p.1∉X.fs∧∀ v,p.2.data≠.cell v):Inv X pins' σ H s :=
 ⟨I.ok,I.os,I.bare,I.base,I.loc,I.cell,I.free,I.freeC,fun p hp=>(List.mem_append.mp hp).elim (fun z=>I.pin p (List.mem_append_left _ z)) (h p),I.hok,I.len⟩
theorem ZiG {N:List Str} (hN:N.Nodup) {i j:Nat} {x:Str} (a:N[i]?=some x) (b:N[j]?=some x):i=j:=by
 obtain ⟨h1,e1⟩:=List.getElem?_eq_some_iff.mp a
 obtain ⟨h2,e2⟩:=List.getElem?_eq_some_iff.mp b
 exact (List.getElem_inj hN).mp (e1.trans e2.symm)
theorem ZhH {M:Model} {A:Around} {E:Value→Shared→Prop} {i:Nat} {x:Str} {v:V} {u:Value} {Q:Unit→Shared→Prop} (I:Inv X pins σ H s) (hN:X.N.Nodup) (hi:X.N[i]?=some x) (hx:Loc X.env.scope x) (r:RelV v u)
  (h:∀ s',Inv X pins (σ.set i (some v)) H s'→(∃ a,Heap.SameBut a s.heap s'.heap∧(a=X.env.locals∨X.env.cells.lookup x=some a))→Q () s') (hf:X.fn x=true∨X.env.scope.names.lookup x=some .local:=by first | exact .inl rfl | exact .inr rfl | assumption):wpAny M A (storeName X.env x u) Q E s:=by
 obtain ⟨m,hn,hl⟩:=id I.loc
 have hcls:(X.env.scope.kind==.class||(X.env.scope.kind==.module&&X.env.locals != X.env.globals))=false:=by rw [I.ok.kind];rfl
 have hiσ:i<σ.length:=by rw [I.len];exact (List.getElem?_eq_some_iff.mp hi).1
 have cne:=I.cne
 have tracked:∀ {a:Addr} {h':Heap},(∃ o,s.heap.get? a=some o∧H a=none)→Heap.SameBut a s.heap h'→HOk X.prog X.w H h':=fun {a h'} ha hs b ob e=>by
  obtain ⟨_,_,hfree⟩:=ha
  refine (I.hok b ob e).stay (fun c w' hc q=>(hs.2 c ?_).trans q) (fun _ q=>q) fun _ _ q=>q
  rintro rfl
  rcases hc with rfl | hc
  ·rw [hfree] at e;cases e
  ·rw [hfree] at hc;cases hc
 rcases hx with hk | hk
 ·refine wpAny_storeName_local hk hn (fun h' hn' hs=>?_) hcls
  obtain ⟨oL,_,_,hoL,_⟩:=id hn
  refine h _ ⟨I.ok,I.os,I.bare,⟨fun b o e n hb hx=>?_,fun b o e n hb hx=>?_,I.base.free,fun b o e hx=>?_,I.base.tups,I.base.frzs,I.base.tbls⟩,⟨_,hn',fun j y v' e1 e2 e3=>?_⟩,fun y c e=>?_,I.free,I.freeC,fun p hp=>?_,tracked ⟨oL,hoL,I.free⟩ hs,by simpa using I.len⟩ ⟨_,hs,.inl rfl⟩
  ·exact (hs.2 b (Nat.ne_of_lt (Nat.lt_of_lt_of_le (Heap.lt_size e) I.ok.above))).trans (I.base.keep b o e n hb hx)
  ·obtain ⟨sl,e1⟩:=I.base.slot b o e n hb hx
   exact ⟨sl,(hs.2 b (Nat.ne_of_lt (Nat.lt_of_lt_of_le (Heap.lt_size e) I.ok.above))).trans e1⟩
  ·obtain ⟨o',e1⟩:=I.base.there b o e hx
   exact ⟨o',(hs.2 b (Nat.ne_of_lt (Nat.lt_of_lt_of_le (Heap.lt_size e) I.ok.above))).trans e1⟩
  ·by_cases hj:j=i
   ·subst hj
    rw [hi] at e1;cases e1
    rw [List.getElem?_set_self hiσ] at e2
    cases e2
    exact ⟨u,r,.inl ⟨hk,by simp⟩⟩
   ·rw [List.getElem?_set_ne (Ne.symm hj)] at e2
    obtain ⟨u',r',q⟩:=hl j y v' e1 e2 e3
    refine ⟨u',r',?_⟩
    rcases q with ⟨k,e⟩ | ⟨k,c,e,z⟩
    ·refine .inl ⟨k,?_⟩
     have:y≠x:=fun e=>hj (ZiG hN e1 (e ▸ hi))
     simp [this,e]
    ·exact .inr ⟨k,c,e,z.sameBut hs (cne y c e)⟩
  ·obtain ⟨w',z⟩:=I.cell y c e
   exact ⟨w',z.sameBut hs (cne y c e)⟩
  ·obtain ⟨e,n,ne,nf,d⟩:=I.pin p hp
   exact ⟨(hs.2 p.1 ne).trans e,n,ne,nf,d⟩
 ·have hfn:X.fn x=true:=by
   rcases hf with z | z
   ·exact z
   ·rw [z] at hk;cases hk
  obtain ⟨c,hc⟩:=I.ok.has x (.inl hk)
  obtain ⟨w',z⟩:=I.cell x c hc
  refine wpAny_storeName_cell I.ok.kind hk hc z (fun h' hc' hs=>?_)
  obtain ⟨oc,hoc,hocd⟩:=id z
  refine h { s with heap:=h' } ⟨I.ok,I.os,I.bare,⟨fun b o e n hb hx=>?_,fun b o e n hb hx=>?_,I.base.free,fun b o e hx=>?_,I.base.tups,I.base.frzs,I.base.tbls⟩,⟨m,hn.sameBut hs (Ne.symm (cne x c hc)),fun j y v' e1 e2 e3=>?_⟩,fun y c' e=>?_,I.free,I.freeC,fun p hp=>?_,tracked ⟨oc,hoc,I.freeC x c hc⟩ hs,by simpa using I.len⟩ ⟨c,hs,.inr hc⟩
  ·exact (hs.2 b (Nat.ne_of_lt (Nat.lt_of_lt_of_le (Heap.lt_size e) (I.ok.cab x c hfn hc)))).trans (I.base.keep b o e n hb hx)
  ·obtain ⟨sl,e1⟩:=I.base.slot b o e n hb hx
   exact ⟨sl,(hs.2 b (Nat.ne_of_lt (Nat.lt_of_lt_of_le (Heap.lt_size e) (I.ok.cab x c hfn hc)))).trans e1⟩
  ·obtain ⟨o',e1⟩:=I.base.there b o e hx
   exact ⟨o',(hs.2 b (Nat.ne_of_lt (Nat.lt_of_lt_of_le (Heap.lt_size e) (I.ok.cab x c hfn hc)))).trans e1⟩
  ·by_cases hj:j=i
   ·subst hj
    rw [hi] at e1;cases e1
    rw [List.getElem?_set_self hiσ] at e2
    cases e2
    exact ⟨u,r,.inr ⟨.inl hk,c,hc,hc'⟩⟩
   ·rw [List.getElem?_set_ne (Ne.symm hj)] at e2
    obtain ⟨u',r',q⟩:=hl j y v' e1 e2 e3
    refine ⟨u',r',?_⟩
    rcases q with q | ⟨k,c',e,z'⟩
    ·exact .inl q
    ·refine .inr ⟨k,c',e,z'.sameBut hs ?_⟩
     rintro rfl
     exact hj (ZiG hN e1 (I.ok.inj _ _ _ e hc ▸ hi))
  ·by_cases hcc:c'=c
   ·subst hcc;exact ⟨_,hc'⟩
   ·obtain ⟨w2,z2⟩:=I.cell y c' e
    exact ⟨w2,z2.sameBut hs hcc⟩
  ·obtain ⟨e,n,ne,nf,d⟩:=I.pin p hp
   refine ⟨(hs.2 p.1 ?_).trans e,n,ne,nf,d⟩
   intro q
   rw [q,hoc] at e
   have q':oc=p.2:=Option.some.inj e
   exact d w' (by rw [← q'];exact hocd)
theorem Zjw {M:Model} {A:Around} {E:Value→Shared→Prop} {i:Nat} {x:Str} {v:V} {u:Value} {Q:Unit→Shared→Prop} (I:Inv X pins σ H s) (hN:X.N.Nodup) (hi:X.N[i]?=some x) (hx:Loc X.env.scope x) (r:RelV v u)
  (h:∀ s',Inv X pins (σ.set i (some v)) H s'→Q () s') (hf:X.fn x=true∨X.env.scope.names.lookup x=some .local:=by first | exact .inl rfl | exact .inr rfl | assumption):wpAny M A (storeName X.env x u) Q E s :=
 ZhH I hN hi hx r (fun s' I' _=>h s' I') hf
theorem Inv.call' {s':Shared} {ch:List Addr} (I:Inv X pins σ H s) (ho:s'.os=s.os) (u:Un (frs X.stack) ch H H' s.heap s'.heap) (hok:HOk X.prog X.w H' s'.heap) (hg:AllBare s'.gens)
  (hch:∀ b∈ch,(b∈X.ex∨X.s₀.heap.objs.size≤b)∧b≠X.env.locals∧(∀ x c,X.env.cells.lookup x=some c→c≠b)∧∀ p∈X.pn++pins,p.1≠b):Inv X pins σ H' s':=by
 obtain ⟨h',g',d',t',o'⟩:=s'
 have e:o'=s.os:=ho
 subst e
 exact I.call (g':=g') (t':=t') (d':=d') u hok hg hch
end
abbrev XK:=Value→Option Addr→Hp→Prop
abbrev St:=List (Option V)
abbrev VK:=V→Hp→Prop
abbrev TE:=St→Hp→VK→Prop
abbrev TT:=St→Hp→(Bool→Hp→Prop)→Prop
abbrev TA:=St→Hp→(List V→Hp→Prop)→Prop
structure Ends where
 nx:St→Hp→Prop
 rt:VK
 bk:St→Hp→Prop:=fun _ _=>False
 ct:St→Hp→Prop:=fun _ _=>False
abbrev TS:=Ends→St→Hp→Prop
def EP (X:Cx) (pins:List (Addr×Obj)) (σ:St) (Q:VK) (u:Value) (s':Shared):Prop:=∃ v H',Inv X pins σ H' s'∧RelV v u∧Q v H'
def TP (X:Cx) (pins:List (Addr×Obj)) (σ:St) (Q:Bool→Hp→Prop) (b:Bool) (s':Shared):Prop:=∃ H',Inv X pins σ H' s'∧Q b H'
def AP (X:Cx) (pins:List (Addr×Obj)) (σ:St) (Q:List V→Hp→Prop) (us:List Value) (s':Shared):Prop:=∃ vs H',Inv X pins σ H' s'∧Vals vs us∧Q vs H'
def SP (X:Cx) (pins:List (Addr×Obj)) (D:Ends) (f:Flow) (s':Shared):Prop :=
 match f with
 | .next=>∃ σ' H',Inv X pins σ' H' s'∧D.nx σ' H'
 | .brk=>∃ σ' H',Inv X pins σ' H' s'∧D.bk σ' H'
 | .cont=>∃ σ' H',Inv X pins σ' H' s'∧D.ct σ' H'
 | .ret u=>∃ v σ' H',Inv X pins σ' H' s'∧RelV v u∧D.rt v H'
def PE (X:Cx) (e:Expr) (t:TE):Prop :=
 ∀ (pins:List (Addr×Obj)) (s:Shared) (σ:St) (H:Hp) (Q:VK),Inv X pins σ H s→t σ H Q→wpAny (model X.prog X.w) X.A (eval e X.env) (EP X pins σ Q) X.xe s
def PT (X:Cx) (e:Expr) (t:TT):Prop :=
 ∀ (pins:List (Addr×Obj)) (s:Shared) (σ:St) (H:Hp) (Q:Bool→Hp→Prop),Inv X pins σ H s→t σ H Q→wpAny (model X.prog X.w) X.A (isTrue e X.env (eval e X.env)) (TP X pins σ Q) X.xe s
def PW (X:Cx) (e:Expr) (t:TT):Prop :=
 ∀ (whole:Sem Value) (pins:List (Addr×Obj)) (s:Shared) (σ:St) (H:Hp) (Q:Bool→Hp→Prop),Inv X pins σ H s→t σ H Q→wpAny (model X.prog X.w) X.A (isTrue e X.env whole) (TP X pins σ Q) X.xe s
theorem PW.pt {X:Cx} {e:Expr} {t:TT} (h:PW X e t):PT X e t:=h _
def PA (X:Cx) (es:List Expr) (t:TA):Prop :=
 ∀ (pos:Pos) (pins:List (Addr×Obj)) (s:Shared) (σ:St) (H:Hp) (Q:List V→Hp→Prop),Inv X pins σ H s→t σ H Q→wpAny (model X.prog X.w) X.A (spliced (backTo pos (starEach es X.env))) (AP X pins σ Q) X.xe s
def PS (X:Cx) (st:Stmt) (t:TS):Prop :=
 ∀ (pins:List (Addr×Obj)) (s:Shared) (σ:St) (H:Hp) (D:Ends),Inv X pins σ H s→t D σ H→wpAny (model X.prog X.w) X.A (exec st X.env) (SP X pins D) X.xe s
def PSs (X:Cx) (st:List Stmt) (t:TS):Prop :=
 ∀ (pins:List (Addr×Obj)) (s:Shared) (σ:St) (H:Hp) (D:Ends),Inv X pins σ H s→t D σ H→wpAny (model X.prog X.w) X.A (execs st X.env) (SP X pins D) X.xe s
theorem thn {α:Type} {t:Sem α} {Q Q':α→Shared→Prop} {M:Model} {A:Around} {E:Value→Shared→Prop} {s:Shared} (h:wpAny M A t Q E s) (hQ:∀ a s,Q a s→Q' a s):wpAny M A t Q' E s:=wpAny_mono h hQ fun _ _ x=>x
end L2
namespace L2
open PySem PySem.Spec PyProof.Rows
section
variable {X:Cx}
theorem bin {a b:Expr} {ta tb:TE} (ha:PE X a ta) (hb:PE X b tb) {pins:List (Addr×Obj)} {s:Shared} {σ:St} {H:Hp} {R:V→V→Hp→Prop} (I:Inv X pins σ H s) (h:ta σ H fun x H1=>tb σ H1 fun y H2=>R x y H2)
  {α:Type} {Q:α→Shared→Prop} {f:Value→Value→Sem α}
  (hf:∀ v u s2 x y H2,Inv X pins σ H2 s2→RelV x v→RelV y u→R x y H2→wpAny (model X.prog X.w) X.A (f v u) Q X.xe s2) :
  wpAny (model X.prog X.w) X.A (eval a X.env) (fun v s₁=>wpAny (model X.prog X.w) X.A (eval b X.env) (fun u s₂=>wpAny (model X.prog X.w) X.A (f v u) Q X.xe s₂) X.xe s₁) X.xe s:=by
 refine thn (ha pins s σ H _ I h) fun v s1 ⟨x,H1,I1,r1,q1⟩=>?_
 refine thn (hb pins s1 σ H1 _ I1 q1) fun u s2 ⟨y,H2,I2,r2,q2⟩=>?_
 exact hf v u s2 x y H2 I2 r1 r2 q2
def Ztv (i:Nat):TE:=fun σ H Q=>∃ v,σ[i]?=some (some v)∧Q v H
def tC (v:V):TE:=fun _ H Q=>Q v H
theorem Zc4 {i:Nat} {x:Str} {pos:Pos} (hN:X.N[i]?=some x) (hv:Vis X.env.scope x) (hd:(x==("__debug__":Str))=false:=by decide) (hcd:(x==("__classdict__":Str))=false:=by decide):PE X (.Name x pos) (Ztv i):=by
 intro pins s σ H Q I h
 obtain ⟨v,e,h⟩:=h
 obtain ⟨m,hn,hl⟩:=I.loc
 obtain ⟨u,r,l⟩:=hl i x v hN e hv
 have fin:EP X pins σ Q u s:=⟨v,H,I,r,h⟩
 rcases l with ⟨hk,hm⟩ | ⟨hk,c,hc,hcell⟩
 ·exact wpAny_Name (wpAny_loadName_local I.ok.kind hk hn hm fin) hd
 ·rcases hk with hk | hk
  ·exact wpAny_Name (wpAny_loadName_cell I.ok.kind hk hc hcell fin) hd
  ·exact wpAny_Name (wpAny_loadName_free I.ok.kind hk hc hcell fin hcd) hd
theorem ZrT {i j pos}:PE X (.Constant (.int i) j pos) (tC (.int i)):=fun _ _ _ H _ I h=>wpAny_Constant_int ⟨.int i,H,I.tok _,⟨_,rfl⟩,h⟩
theorem Zs4 {b j pos}:PE X (.Constant (.bool b) j pos) (tC (.bl b)):=fun _ _ _ H _ I h=>Constant_bool ⟨.bl b,H,I,rfl,h⟩
theorem Zro {j pos}:PE X (.Constant .none j pos) (tC .non):=fun _ _ _ H _ I h=>Constant_none ⟨.non,H,I,rfl,h⟩
theorem ZrE {x j pos}:PE X (.Constant (.str x) j pos) (tC (.str x)):=fun _ _ _ H _ I h=>Calls.Constant_str ⟨.str x,H,I.tok _,⟨_,rfl⟩,h⟩
def Gl (X:Cx) (x:Str):Prop:=X.env.kindOf x=some .globalImplicit
theorem Zj8 {E:Value→Shared→Prop} {pins:List (Addr×Obj)} {s:Shared} {σ:St} {H:Hp} {x:Str} {u:Value} {pos:Pos} {Q:Value→Shared→Prop} (I:Inv X pins σ H s) (hg:Gl X x) (hm:X.mg x=some u) (h:Q u s)
  (hd:(x==("__debug__":Str))=false:=by decide):wpAny (model X.prog X.w) X.A (eval (.Name x pos) X.env) Q E s :=
 Calls.Name_function_global I.ok.kind hg (Calls.loadGlobal_global (by rw [I.ok.glob];exact I.mod.glob.keeps I.bk) hm h) hd
theorem ZbR {E:Value→Shared→Prop} {pins:List (Addr×Obj)} {s:Shared} {σ:St} {H:Hp} {x:Str} {u:Value} {pos:Pos} {Q:Value→Shared→Prop} (I:Inv X pins σ H s) (hg:Gl X x) (hm:X.mg x=none) (hv:bootBuiltins x=some u) (h:Q u s)
  (hn:x≠"__name__":=by decide) (hd:(x==("__debug__":Str))=false:=by decide):wpAny (model X.prog X.w) X.A (eval (.Name x pos) X.env) Q E s:=by
 obtain ⟨mb,h1,h2⟩:=I.mod.blt
 exact Calls.Name_function_global I.ok.kind hg (Calls.loadGlobal_builtin (by rw [I.ok.glob];exact I.mod.glob.keeps I.bk) hm (by rw [I.ok.blt];exact h1.keeps I.bk) ((h2 x hn).trans hv) h) hd
theorem ZkE {x:Str} {v:V} {u:Value} {pos:Pos} (hg:Gl X x) (hm:X.mg x=some u) (r:RelV v u) (hd:(x==("__debug__":Str))=false:=by decide):PE X (.Name x pos) (tC v) :=
 fun _ _ _ H _ I h=>Zj8 I hg hm ⟨v,H,I,r,h⟩ hd
theorem Zp4 {x:Str} {v:V} {u:Value} {pos:Pos} (hg:Gl X x) (hm:X.mg x=none) (hv:bootBuiltins x=some u) (r:RelV v u) (hn:x≠"__name__":=by decide) (hd:(x==("__debug__":Str))=false:=by decide):PE X (.Name x pos) (tC v) :=
 fun _ _ _ H _ I h=>ZbR I hg hm hv ⟨v,H,I,r,h⟩ hn hd
variable {a b:Expr} {ta tb:TE} {pos:Pos}
def PC (X:Cx) (op:CmpOp) (a b:Expr) (t:TE):Prop :=
 ∀ (pins:List (Addr×Obj)) (s:Shared) (σ:St) (H:Hp) (Q:VK),Inv X pins σ H s→t σ H Q →
  wpAny (model X.prog X.w) X.A (eval a X.env) (fun v s₁=>wpAny (model X.prog X.w) X.A (eval b X.env) (fun u s₂=>wpAny (model X.prog X.w) X.A (compareOp op v u) (EP X pins σ Q) X.xe s₂) X.xe s₁) X.xe s
theorem ZcI (b:Expr) {op:CmpOp} (h:op≠.In) (h2:op≠.NotIn):behindInMarks op b=false:=by
 have e1:(op==CmpOp.In)=false:=by cases op<;>first | rfl | exact absurd rfl h
 have e2:(op==CmpOp.NotIn)=false:=by cases op<;>first | rfl | exact absurd rfl h2
 cases b<;>simp [behindInMarks,e1,e2]
def Ztp (ta:TE):TE:=fun σ H Q=>ta σ H fun x H1=>Q (.bl (decide (x=.non))) H1
theorem RelV.none_iff {x:V} {v:Value} (r:RelV x v):(v==Value.none)=decide (x=.non):=by
 cases x with
 | non=>cases r;rfl
 | bl _=>cases r;rfl
 | int _=>obtain ⟨t,rfl⟩:=r;rfl
 | str _=>obtain ⟨t,rfl⟩:=r;rfl
 | byt _=>obtain ⟨t,rfl⟩:=r;rfl
 | flt _=>obtain ⟨t,rfl⟩:=r;rfl
 | ref _=>cases r;rfl
 | ty _=>cases r;rfl
theorem Zr2 {j pos'} (ha:PE X a ta):PC X .Is a (.Constant .none j pos') (Ztp ta):=by
 intro pins s σ H Q I h
 refine thn (ha pins s σ H _ I h) fun v s1 ⟨x,H1,I1,r1,q1⟩=>?_
 exact Constant_none (is_none_gen ⟨.bl _,H1,I1,by rw [r1.none_iff];rfl,q1⟩)
def tB (t:TE):TT:=fun σ H Q=>t σ H fun x H1=>∃ c,x=.bl c∧Q c H1
theorem Zsb {op:CmpOp} {t:TE} (h:PC X op a b t) (h1:behindInMarks op b=false:=by first | exact ZcI _ (by decide) (by decide) | rfl):PT X (.Compare a [op] [b] pos) (tB t):=by
 intro pins s σ H Q I hw
 refine wpAny_isTrue_Compare1 (thn (h pins s σ H _ I hw) fun v s1 h1=>thn h1 fun u s2 h2=>thn h2 fun c s3 ⟨x,H1,I1,r1,q1⟩=>?_) h1
 obtain ⟨d,rfl,q⟩:=q1
 cases r1
 exact wpAny_truthy_bool ⟨H1,I1,q⟩
variable {tA tB':TT} {ZZ:List Expr}
def tOr (t u:TT):TT:=fun σ H Q=>t σ H fun c H1=>if c=true then Q true H1 else u σ H1 Q
def Ztq (t:TT):TT:=fun σ H Q=>t σ H fun c H1=>Q (!c) H1
theorem ZqY (ha:PT X a tA):PW X (.BoolOp .Or [a] pos) tA:=by
 intro wh pins s σ H Q I h
 refine isTrue_or (thn (ha pins s σ H Q I h) fun c s1 e=>?_)
 cases c with
 | false=>exact isTrue_or_nil e
 | true=>exact e
theorem Zsx (ha:PT X a tA) (hb:PW X (.BoolOp .Or (b::ZZ) pos) tB'):PW X (.BoolOp .Or (a::b::ZZ) pos) (tOr tA tB'):=by
 intro wh pins s σ H Q I h
 refine isTrue_or (thn (ha pins s σ H _ I h) fun c s1 ⟨H1,I1,q1⟩=>?_)
 cases c with
 | true=>exact ⟨H1,I1,q1⟩
 | false=>exact hb wh pins s1 σ H1 Q I1 q1
theorem ZqO (ha:PT X a tA):PT X (.UnaryOp .Not a pos) (Ztq tA):=by
 intro pins s σ H Q I h
 exact isTrue_not (ha pins s σ H (fun c H1=>Q (!c) H1) I h)
def ZsS (ta tb:TE):TE:=fun σ H Q=>ta σ H fun x H1=>∃ c,x=.bl c∧if c=true then tb σ H1 Q else Q (.bl false) H1
def ZsD (ta:TE):TE:=fun σ H Q=>ta σ H fun x H1=>∃ c,x=.bl c∧Q (.bl (!c)) H1
theorem ZqH {op} {t:TE} (h:PE X a t):PE X (.BoolOp op [a] pos) t:=fun pins s σ H Q I hw=>BoolOp_one (h pins s σ H Q I hw)
theorem ZqC (ha:PE X a ta) (hb:PE X (.BoolOp .And (b::ZZ) pos) tb):PE X (.BoolOp .And (a::b::ZZ) pos) (ZsS ta tb):=by
 intro pins s σ H Q I h
 refine BoolOp_and (thn (ha pins s σ H _ I h) fun v s1 ⟨x,H1,I1,r1,q1⟩=>?_)
 obtain ⟨c,rfl,q1⟩:=q1
 cases r1
 refine wpAny_truthy_bool ?_
 cases c with
 | true=>exact hb pins s1 σ H1 Q I1 q1
 | false=>exact ⟨.bl false,H1,I1,rfl,q1⟩
theorem Zsa (ha:PE X a ta):PE X (.UnaryOp .Not a pos) (ZsD ta):=by
 intro pins s σ H Q I h
 refine UnaryOp_ (thn (ha pins s σ H _ I h) fun v s1 ⟨x,H1,I1,r1,q1⟩=>?_)
 obtain ⟨c,rfl,q1⟩:=q1
 cases r1
 exact not_of (wpAny_truthy_bool ⟨.bl (!c),H1,I1,rfl,q1⟩)
def tIf (t:TT) (ta tb:TE):TE:=fun σ H Q=>t σ H fun c H1=>if c=true then ta σ H1 Q else tb σ H1 Q
theorem Zof {c:Expr} (hc:PT X c tA) (ha:PE X a ta) (hb:PE X b tb):PE X (.IfExp c a b pos) (tIf tA ta tb):=by
 intro pins s σ H Q I h
 refine wpAny_IfExp (thn (hc pins s σ H _ I h) fun d s1 ⟨H1,I1,q1⟩=>?_)
 cases d with
 | true=>exact ha pins s1 σ H1 Q I1 q1
 | false=>exact hb pins s1 σ H1 Q I1 q1
end
end L2
namespace L2
open PySem PySem.Spec PyProof.Rows
def SqL (K:PySem.W.Frag) (H:Hp) (a:Addr) (xs:List V):Prop :=
 Rd H a (.lst xs) ∨
  ∃ (o:Obj) (its:Array Value) (n:Nat),K.lookup a=some o∧o.cls=.type "list"∧o.dict=none∧o.data=.seq its n∧its.size≤sizeLine∧Vals xs its.toList
def SqT (K:PySem.W.Frag) (H:Hp) (a:Addr) (xs:List V):Prop :=
 Rd H a (.tup xs) ∨
  ∃ (o:Obj) (its:Array Value) (n:Nat),K.lookup a=some o∧o.cls=.type "tuple"∧o.data=.seq its n∧its.size≤sizeLine∧Vals xs its.toList
def Ztl:Value→Option V
 | .none=>some .non
 | .bool b=>some (.bl b)
 | .int i _=>some (.int i)
 | .str x _=>some (.str x)
 | .bytes b _=>some (.byt b)
 | .float b _=>some (.flt b)
 | .ref a=>some (.ref a)
 | .type n=>some (.ty n)
 | _=>none
theorem RelV.abs {x:V} {u:Value} (r:RelV x u):Ztl u=some x:=by
 cases x with
 | non=>cases r;rfl
 | bl _=>cases r;rfl
 | int _=>obtain ⟨t,rfl⟩:=r;rfl
 | str _=>obtain ⟨t,rfl⟩:=r;rfl
 | byt _=>obtain ⟨t,rfl⟩:=r;rfl
 | flt _=>obtain ⟨t,rfl⟩:=r;rfl
 | ref _=>cases r;rfl
 | ty _=>cases r;rfl
theorem RelV.inj {x y:V} {u:Value} (r:RelV x u) (q:RelV y u):x=y:=Option.some.inj (r.abs.symm.trans q.abs)
theorem Vals.inj:∀ {xs ys:List V} {us:List Value},Vals xs us→Vals ys us→xs=ys
 | _,_,_,.nil,.nil=>rfl
 | _,_,_,.cons r t,.cons r' t'=>by rw [r.inj r',Vals.inj t t']
section
variable {X:Cx} {pins:List (Addr×Obj)} {σ:St} {H:Hp} {s:Shared} {a:Addr} {xs ys:List V}
theorem SqL.of {K:PySem.W.Frag} (h:H a=some (.lst xs)):SqL K H a xs:=.inl (.inl h)
theorem SqT.of {K:PySem.W.Frag} (h:H a=some (.tup xs)):SqT K H a xs:=.inl (.inl h)
theorem Inv.list (I:Inv X pins σ H s) (h:SqL X.K H a xs):∃ its:List Value,Vals xs its∧PlainL s.heap a its.toArray∧xs.length≤sizeLine:=by
 rcases h with h | ⟨o,its,n,hk,hc,hd,hs,hz,r⟩
 ·obtain ⟨z,its,n,r,e⟩:=h.ok I.hok
  exact ⟨its,r,⟨_,n,e,rfl,rfl,rfl⟩,z⟩
 ·refine ⟨its.toList,r,⟨o,n,I.kIn a o hk,hc,hd,by simpa using hs⟩,?_⟩
  have e:=r.length
  simp only [Array.length_toList] at e
  omega
theorem Inv.tuple (I:Inv X pins σ H s) (h:SqT X.K H a xs):∃ its:List Value,Vals xs its∧IsTup s.heap a its.toArray∧xs.length≤sizeLine:=by
 rcases h with h | ⟨o,its,n,hk,hc,hs,hz,r⟩
 ·obtain ⟨z,its,r,p⟩:=h.ok I.hok
  exact ⟨its,r,p,z⟩
 ·refine ⟨its.toList,r,⟨o,I.kIn a o hk,hc,n,by simpa using hs⟩,?_⟩
  have e:=r.length
  simp only [Array.length_toList] at e
  omega
theorem Inv.list_inj (I:Inv X pins σ H s) (h:SqL X.K H a xs) (h':SqL X.K H a ys):xs=ys:=by
 obtain ⟨its,r,⟨o,n,e,_,_,d⟩,_⟩:=I.list h
 obtain ⟨its',r',⟨o',n',e',_,_,d'⟩,_⟩:=I.list h'
 rw [e] at e';cases e'
 rw [d] at d'
 injection d' with d1 _
 have:its=its':=by simpa using congrArg Array.toList d1
 subst this
 exact r.inj r'
theorem Inv.tuple_inj (I:Inv X pins σ H s) (h:SqT X.K H a xs) (h':SqT X.K H a ys):xs=ys:=by
 obtain ⟨its,r,⟨o,e,_,n,d⟩,_⟩:=I.tuple h
 obtain ⟨its',r',⟨o',e',_,n',d'⟩,_⟩:=I.tuple h'
 rw [e] at e';cases e'
 rw [d] at d'
 injection d' with d1 _
 have:its=its':=by simpa using congrArg Array.toList d1
 subst this
 exact r.inj r'
end
abbrev Cx.wish (X:Cx) (E:Value→Shared→Prop):Cx:={ X with xe:=E }
abbrev Cx.nox (X:Cx):Cx:=X.wish fun _ _=>False
theorem Cx.Ok.wish {X:Cx} (ok:X.Ok) (E:Value→Shared→Prop):(X.wish E).Ok :=
 ⟨ok.mod,ok.kind,ok.glob,ok.blt,ok.above,ok.inj,ok.has,ok.cab,ok.hd,ok.frames,ok.stk,ok.exf,ok.bs,ok.bsz,ok.noex,ok.exfs,ok.funs,ok.frf⟩
theorem Cx.Ok.unwish {X:Cx} {E:Value→Shared→Prop} (ok:(X.wish E).Ok):X.Ok :=
 ⟨ok.mod,ok.kind,ok.glob,ok.blt,ok.above,ok.inj,ok.has,ok.cab,ok.hd,ok.frames,ok.stk,ok.exf,ok.bs,ok.bsz,ok.noex,ok.exfs,ok.funs,ok.frf⟩
section
variable {X:Cx} {pins:List (Addr×Obj)} {σ:St} {H:Hp} {s:Shared} {E:Value→Shared→Prop}
theorem Inv.wish (I:Inv X pins σ H s) (E:Value→Shared→Prop):Inv (X.wish E) pins σ H s:=⟨I.ok.wish E,I.os,I.bare,I.base,I.loc,I.cell,I.free,I.freeC,I.pin,I.hok,I.len⟩
theorem Inv.unwish (I:Inv (X.wish E) pins σ H s):Inv X pins σ H s:=⟨I.ok.unwish,I.os,I.bare,I.base,I.loc,I.cell,I.free,I.freeC,I.pin,I.hok,I.len⟩
theorem SP.unwish {D:Ends} {f:Flow} {s':Shared} (h:SP (X.wish E) pins D f s'):SP X pins D f s':=by
 cases f with
 | next=>obtain ⟨σ',H',I,q⟩:=h;exact ⟨σ',H',I.unwish,q⟩
 | brk=>obtain ⟨σ',H',I,q⟩:=h;exact ⟨σ',H',I.unwish,q⟩
 | cont=>obtain ⟨σ',H',I,q⟩:=h;exact ⟨σ',H',I.unwish,q⟩
 | ret u=>obtain ⟨v,σ',H',I,r,q⟩:=h;exact ⟨v,σ',H',I.unwish,r,q⟩
theorem PE.nox {e:Expr} {t:TE} (h:PE X.nox e t):PE X e t:=fun pins s σ H Q I hw =>
 wpAny_mono (h pins s σ H Q (I.wish _) hw) (fun _ _ ⟨v,H',I',r,q⟩=>⟨v,H',I'.unwish,r,q⟩) fun _ _ z=>False.elim z
theorem PT.nox {e:Expr} {t:TT} (h:PT X.nox e t):PT X e t:=fun pins s σ H Q I hw =>
 wpAny_mono (h pins s σ H Q (I.wish _) hw) (fun _ _ ⟨H',I',q⟩=>⟨H',I'.unwish,q⟩) fun _ _ z=>False.elim z
theorem PSs.nox {st:List Stmt} {t:TS} (h:PSs X.nox st t):PSs X st t:=fun pins s σ H D I hw =>
 wpAny_mono (h pins s σ H D (I.wish _) hw) (fun _ _ q=>q.unwish) fun _ _ z=>False.elim z
end
section
variable {X:Cx} {st:Stmt} {ZZ:List Stmt} {t u:TS} {e:Expr} {te:TE} {pos:Pos}
def ZsO:TS:=fun D σ H=>D.nx σ H
def Zth (t u:TS):TS:=fun D σ H=>t { D with nx:=u D } σ H
theorem pss_nil:PSs X [] ZsO:=fun _ _ σ H _ I h=>wpAny_execs_nil ⟨σ,H,I,h⟩
theorem Zoo (h1:PS X st t) (h2:PSs X ZZ u):PSs X (st::ZZ) (Zth t u):=by
 intro pins s σ H D I h
 refine wpAny_execs_cons (thn (h1 pins s σ H { D with nx:=u D } I h) fun f s1 q=>?_)
 cases f with
 | next =>
  obtain ⟨σ',H',I',q⟩:=q
  exact h2 pins s1 σ' H' D I' q
 | ret v=>exact q
 | brk=>exact q
 | cont=>exact q
theorem Inv.quiet {pins:List (Addr×Obj)} {σ:St} {H:Hp} {s:Shared} (I:Inv X pins σ H s):interactive X.env=false:=by simp [interactive,I.ok.kind]
def ZsE (te:TE):TS:=fun D σ H=>te σ H fun _ H1=>D.nx σ H1
theorem Zo5 (he:PE X e te) (hs:swapsWith e none pos.line X.env=pure false:=by rfl):PS X (.Expr e pos) (ZsE te):=by
 intro pins s σ H D I h
 exact wpAny_Expr_any (thn (he pins s σ H _ I h) fun v s1 ⟨x,H1,I1,r1,q1⟩=>⟨σ,H1,I1,q1⟩) I.quiet hs
def Ztm (te:TE):TS:=fun D σ H=>te σ H D.rt
theorem ZgT (he:PE X e te):PS X (.Return (some e) pos) (Ztm te):=by
 intro pins s σ H D I h
 exact wpAny_Return_some (thn (he pins s σ H _ I h) fun v s1 ⟨x,H1,I1,r1,q1⟩=>⟨x,σ,H1,I1,r1,q1⟩)
def Zti (c:TT) (t u:TS):TS:=fun D σ H=>c σ H fun b H1=>if b=true then t D σ H1 else u D σ H1
theorem ZsP {c:Expr} {a b:List Stmt} {tc:TT} (hc:PT X c tc) (ha:PSs X a t) (hb:PSs X b u):PS X (.If c a b pos) (Zti tc t u):=by
 intro pins s σ H D I h
 refine wpAny_If (thn (hc pins s σ H _ I h) fun d s1 ⟨H1,I1,q1⟩=>?_)
 cases d with
 | true=>exact ha pins s1 σ H1 D I1 q1
 | false=>exact hb pins s1 σ H1 D I1 q1
end
abbrev TG:=V→St→Hp→(St→Hp→Prop)→Prop
abbrev TGs:=List V→St→Hp→(St→Hp→Prop)→Prop
def PG (X:Cx) (target:Expr) (t:TG):Prop :=
 ∀ (pins:List (Addr×Obj)) (s:Shared) (σ:St) (H:Hp) (v:V) (u:Value) (Q:St→Hp→Prop),Inv X pins σ H s→RelV v u→t v σ H Q →
  wpAny (model X.prog X.w) X.A (assign target X.env u) (fun _ s'=>∃ σ' H',Inv X pins σ' H' s'∧Q σ' H') X.xe s
def PGs (X:Cx) (ts:List Expr) (t:TGs):Prop :=
 ∀ (pins:List (Addr×Obj)) (s:Shared) (σ:St) (H:Hp) (vs:List V) (us:List Value) (Q:St→Hp→Prop),Inv X pins σ H s→Vals vs us→t vs σ H Q →
  wpAny (model X.prog X.w) X.A (assignInOrder ((assignEach ts X.env).map (·.2)) us) (fun _ s'=>∃ σ' H',Inv X pins σ' H' s'∧Q σ' H') X.xe s
abbrev Zlz:=V→V→V→Hp→(Hp→Prop)→Prop
def ZrQ (X:Cx) (t:Zlz):Prop :=
 ∀ (pins:List (Addr×Obj)) (s:Shared) (σ:St) (H:Hp) (o i v:V) (ov iv u:Value) (Q:Hp→Prop),Inv X pins σ H s→RelV o ov→RelV i iv→RelV v u→t o i v H Q →
  wpAny (model X.prog X.w) X.A (setItem ov iv u) (fun _ s'=>∃ H',Inv X pins σ H' s'∧Q H') X.xe s
section
variable {X:Cx} {pos:Pos}
def ZeW (i:Nat):TG:=fun v σ H Q=>Q (σ.set i (some v)) H
theorem Zp2 {i:Nat} {x:Str} (hN:X.N.Nodup) (hi:X.N[i]?=some x) (hx:Loc X.env.scope x) (hf:X.fn x=true∨X.env.scope.names.lookup x=some .local:=by first | exact .inl rfl | exact .inr rfl | assumption):PG X (.Name x pos) (ZeW i):=by
 intro pins s σ H v u Q I r h
 exact wpAny_assign_Name (Zjw I hN hi hx r (fun s' I'=>⟨_,H,I',h⟩) hf)
def Ztz:TGs:=fun vs σ H Q=>vs=[]∧Q σ H
def Ztb (t:TG) (u:TGs):TGs:=fun vs σ H Q=>∃ v r,vs=v::r∧t v σ H fun σ' H'=>u r σ' H' Q
theorem ZpL:PGs X [] Ztz:=by
 intro pins s σ H vs us Q I r h
 obtain ⟨e,h⟩:=h
 subst e
 cases r
 exact assignInOrder_nil ⟨σ,H,I,h⟩
theorem ZnR {e:Expr} {es:List Expr} {t:TG} {u:TGs} (h1:PG X e t) (h2:PGs X es u)
  (hs:(assignEach (e::es) X.env).map (·.2)=assign e X.env::(assignEach es X.env).map (·.2):=by rfl):PGs X (e::es) (Ztb t u):=by
 intro pins s σ H vs us Q I r h
 obtain ⟨v,vr,e1,h⟩:=h
 subst e1
 cases r with
 | cons r rr =>
  rw [hs]
  refine assignInOrder_cons (thn (h1 pins s σ H _ _ _ I r h) fun _ s1 ⟨σ1,H1,I1,q1⟩=>?_)
  exact h2 pins s1 σ1 H1 _ _ Q I1 rr q1
def ZtG (K:PySem.W.Frag) (n:Nat) (t:TGs):TG:=fun v σ H Q=>∃ a xs,v=.ref a∧SqT K H a xs∧xs.length=n∧t xs σ H Q
theorem Zr5 {es:List Expr} {k:Nat} {t:TGs} {n:Nat} (hc:X.calm=true) (h:PGs X es t)
  (hn:(assignEach es X.env).length=n:=by rfl) (hst:(assignEach es X.env).findIdx? (·.1)=none:=by rfl):PG X (.Tuple es k pos) (ZtG X.K n t):=by
 intro pins s σ H v u Q I r hw
 obtain ⟨a,xs,e1,hq,hl,hw⟩:=hw
 subst e1
 cases r
 obtain ⟨its,rv,ht,hz⟩:=I.tuple hq
 refine assign_Tuple_tuple (I.ok.hd hc) ht (by simp [hn,← hl,rv.length]) hst fun h' hx=>?_
 have I1:Inv X pins σ H { s with heap:=h' }:=I.kept (t':=s.toks) fun b o e=>hx b o (Nat.ne_of_lt (Heap.lt_size e)) e
 exact h pins _ σ H xs _ Q I1 (by simpa using rv) hw
def ZtO (to ti:TE) (t:Zlz):TG:=fun v σ H Q=>to σ H fun o H1=>ti σ H1 fun i H2=>t o i v H2 fun H3=>Q σ H3
theorem ZqL {o i:Expr} {to ti:TE} {t:Zlz} (ho:PE X o to) (hi:PE X i ti) (hs:ZrQ X t)
  (ha:∀ v,assign (.Subscript o i pos) X.env v=(do
   let ov ← holding [v] (eval o X.env)
   let iv ← holding [v,ov] (eval i X.env)
   standAt pos
   holding [v,ov,iv] (setItem ov iv v)
   release [v,ov,iv] []):=by intro _;rfl):PG X (.Subscript o i pos) (ZtO to ti t):=by
 intro pins s σ H v u Q I r h
 rw [ha]
 refine wpAny_bind (wpAny_holding (thn (ho pins s σ H _ I h) fun ov s1 ⟨x,H1,I1,r1,q1⟩=>?_))
 refine wpAny_bind (wpAny_holding (thn (hi pins s1 σ H1 _ I1 q1) fun iv s2 ⟨y,H2,I2,r2,q2⟩=>?_))
 refine wpAny_bind (wpAny_standAt (wpAny_bind (wpAny_holding (thn (hs pins s2 σ H2 x y v ov iv u _ I2 r1 r2 r q2) fun _ s3 ⟨H3,I3,q3⟩=>?_))))
 exact wpAny_release ⟨σ,H3,I3,q3⟩
def Zg7 (te:TE) (g:TG):TS:=fun D σ H=>te σ H fun x H1=>g x σ H1 D.nx
theorem Zqc {tg e:Expr} {te:TE} {g:TG} (he:PE X e te) (hg:PG X tg g) (hs:swapsWithSole [tg] e pos.line X.env=pure false:=by rfl) (hw:swappedStores [tg] e X.env=pure none:=by rfl)
  (h1:(assignEach [tg] X.env).map (·.2)=[assign tg X.env]:=by rfl):PS X (.Assign [tg] e pos) (Zg7 te g):=by
 intro pins s σ H D I h
 refine wpAny_Assign_stores (thn (he pins s σ H _ I h) fun v s1 ⟨x,H1,I1,r1,q1⟩=>?_) hs hw
 rw [h1]
 exact thn (hg pins s1 σ H1 x v _ I1 r1 q1) fun _ s2 q=>q
theorem Zil {i:Nat} {x:Str} {e:Expr} {te:TE} {pos':Pos} (hN:X.N.Nodup) (hi:X.N[i]?=some x) (hx:Loc X.env.scope x) (he:PE X e te) (hs:swapsWith e (some (.Name x pos')) pos.line X.env=pure false:=by rfl) (hf:X.fn x=true∨X.env.scope.names.lookup x=some .local:=by first | exact .inl rfl | exact .inr rfl | assumption) :
  PS X (.Assign [.Name x pos'] e pos) (Zg7 te (ZeW i)):=by
 intro pins s σ H D I h
 refine wpAny_Assign_Name (thn (he pins s σ H _ I h) fun v s1 ⟨y,H1,I1,r1,q1⟩=>?_) hs
 exact Zjw I1 hN hi hx r1 (fun s2 I2=>⟨_,H1,I2,q1⟩) hf
end
section
variable {X:Cx} {pos:Pos}
end
structure It where
 go:Nat→Hp→Prop
 yld:Nat→Hp→V→Hp→Prop
 stop:Nat→Hp→Prop
def ZcR (X:Cx) (pins:List (Addr×Obj)) (H:Hp) (b:Addr):Prop :=
 H b=none∧b≠X.env.locals∧b∉X.fs∧(b∈X.ex∨X.s₀.heap.objs.size≤b)∧(∀ x c,X.env.cells.lookup x=some c→c≠b)∧∀ p∈X.pn++pins,p.1≠b
theorem Inv.fpOk {X:Cx} {pins:List (Addr×Obj)} {σ:St} {H H':Hp} {s:Shared} {b:Addr} (I:Inv X pins σ H s) (hb:s.heap.objs.size≤b) (hn:H' b=none):ZcR X pins H' b:=by
 refine ⟨hn,Nat.ne_of_gt (Nat.lt_of_lt_of_le I.lt hb),I.nofs hb,.inr (Nat.le_trans I.sz hb),fun x c e z=>?_,fun p hp z=>?_⟩
 ·obtain ⟨v,q⟩:=I.cell x c e
  exact absurd (Nat.lt_of_lt_of_le q.lt (by rw [z];exact hb)) (Nat.lt_irrefl _)
 ·exact absurd (Nat.lt_of_lt_of_le (Heap.lt_size (I.pin p hp).1) (by rw [z];exact hb)) (Nat.lt_irrefl _)
structure Zeh (P:Program) (w:World) (K:PySem.W.Frag) (tg:Expr) (J:It) (fp:List Addr) (it:Addr) (tn:Nat→Heap→Prop):Prop where
 mem:it∈fp
 obj:∀ i h,tn i h→∀ b∈fp,∃ o,h.get? b=some o∧∀ v,o.data≠.cell v
 keep:∀ i h h',tn i h→(∀ b∈fp,∀ o,h.get? b=some o→h'.get? b=some o)→tn i h'
 item:∀ (X:Cx),X.prog=P→X.w=w→X.K=K→X.calm=true→∀ (i:Nat) (pins:List (Addr×Obj)) (s:Shared) (σ:St) (H:Hp) (E:Value→Shared→Prop),Inv X pins σ H s→(∀ b∈fp,ZcR X pins H b)→tn i s.heap→J.go i H →
  wpAny (model P w) X.A (pyNext (.ref it)) (fun r s1=>∃ u,r=some u ∧
   wpAny (model P w) X.A (letOwnedTupleGo tg (.ref it) u) (fun _ s2=>∃ x H',Inv X pins σ H' s2∧RelV x u∧J.yld i H x H'∧tn (i+1) s2.heap∧∀ b∈fp,H' b=none) E s1) E s
 done:∀ (X:Cx),X.prog=P→X.w=w→X.K=K→X.calm=true→∀ (i:Nat) (pins:List (Addr×Obj)) (s:Shared) (σ:St) (H:Hp) (E:Value→Shared→Prop),Inv X pins σ H s→(∀ b∈fp,ZcR X pins H b)→tn i s.heap→J.stop i H →
  wpAny (model P w) X.A (pyNext (.ref it)) (fun r s1=>r=none∧Inv X pins σ H s1) E s
 self:∀ (A:Around) (i:Nat) (s:Shared) (Q:Value→Shared→Prop) (E:Value→Shared→Prop),tn i s.heap→Q (.ref it) s→wpAny (model P w) A (pyIter (.ref it)) Q E s
abbrev TI:=St→Hp→(It→Hp→Prop)→Prop
def PIE (X:Cx) (pins:List (Addr×Obj)) (σ:St) (tg:Expr) (R:It→Hp→Prop) (itv:Value) (s2:Shared):Prop :=
 ∃ (it:Addr) (fp:List Addr) (tn:Nat→Heap→Prop) (J:It) (H':Hp),itv=.ref it∧Inv X pins σ H' s2∧Zeh X.prog X.w X.K tg J fp it tn∧tn 0 s2.heap∧(∀ b∈fp,ZcR X pins H' b)∧R J H'
def PI (X:Cx) (tg iter:Expr) (wi:TI):Prop :=
 ∀ (pins:List (Addr×Obj)) (s:Shared) (σ:St) (H:Hp) (R:It→Hp→Prop),Inv X pins σ H s→wi σ H R →
  wpAny (model X.prog X.w) X.A (eval iter X.env) (fun v s1=>wpAny (model X.prog X.w) X.A (pyIter v) (PIE X pins σ tg R) X.xe s1) X.xe s
theorem ZgG {M:Model} {A:Around} {E:Value→Shared→Prop} {s:Shared} {tg:Expr} {it:Addr} {u:Value} {o:Obj} {n:String} {vs:Array Value} {Q:Unit→Shared→Prop} (ho:s.heap.get? it=some o) (hc:o.cls=.type n) (hd:o.data=.fields vs)
  (hn:["enumerate","zip","dict_itemiterator","dict_reverseitemiterator","odict_iterator","itertools.zip_longest","itertools.pairwise"].contains n=false) (hQ:Q () s):wpAny M A (letOwnedTupleGo tg (.ref it) u) Q E s:=by
 unfold letOwnedTupleGo
 cases tg<;>first
  | exact wpAny_pure hQ
  | (cases u<;>first
    | exact wpAny_pure hQ
    | (refine wpAny_bind (wpAny_load ho ?_)
       rw [hc,hd]
       show wpAny M A (if (["enumerate","zip","dict_itemiterator","dict_reverseitemiterator","odict_iterator","itertools.zip_longest","itertools.pairwise"].contains n&&vs[0]?==some (rawInt _))=true then _ else _) Q E s
       rw [if_neg (by intro h;rw [hn,Bool.false_and] at h;cases h)]
       exact wpAny_pure hQ))
def Itl (K:PySem.W.Frag) (a:Addr):It :=
 ⟨fun i H=>∃ xs x,SqL K H a xs∧xs[i]?=some x,fun i H x H'=>H'=H∧∀ xs,SqL K H a xs→xs[i]?=some x,fun i H=>∃ xs,SqL K H a xs∧xs.length≤i⟩
def Itt (K:PySem.W.Frag) (a:Addr):It :=
 ⟨fun i H=>∃ xs x,SqT K H a xs∧xs[i]?=some x,fun i H x H'=>H'=H∧∀ xs,SqT K H a xs→xs[i]?=some x,fun i H=>∃ xs,SqT K H a xs∧xs.length≤i⟩
def Itr (lo:Int) (n:Nat):It:=⟨fun i _=>i<n,fun i H x H'=>H'=H∧x=.int (lo+i),fun i _=>n≤i⟩
theorem ZmV {P:Program} {w:World} {K:PySem.W.Frag} {tg:Expr} (a it:Addr):Zeh P w K tg (Itl K a) [it] it (fun i h=>h.IsListIter it a i) where
 mem:=by simp
 obj:=fun i h st b hb=>by
  have e:b=it:=by simpa using hb
  subst e
  obtain ⟨o,e,c,d⟩:=st
  exact ⟨o,e,fun v z=>by rw [d] at z;cases z⟩
 keep:=fun i h h' st k=>st.at fun o e=>k it (by simp) o e
 item:=by
  intro X hP hw hK hc i pins s σ H E I hf st hg
  subst hP hw hK
  obtain ⟨xs,x,hq,hx⟩:=hg
  obtain ⟨its,rv,p,hz⟩:=I.list hq
  obtain ⟨u,hu,ru⟩:=rv.get hx
  obtain ⟨f0,f1,f2,f3,f4,f5⟩:=hf it (by simp)
  refine wpAny_pyNext_list_item st p.isList (x:=u) (by simpa using hu) fun h' st' sb=>?_
  have I1:Inv X pins σ H { s with heap:=h' }:=I.turned (t':=s.toks) (fun b o hb e=>(sb.2 b hb).trans e) f0 f1 f3 f4 f5
  obtain ⟨o,e,c,d⟩:=id st'
  exact ⟨u,rfl,ZgG (s:={ s with heap:=h' }) e c d (by decide) ⟨x,H,I1,ru,⟨rfl,fun ys hy=>by rw [I.list_inj hy hq];exact hx⟩,st',fun b hb=>(hf b hb).1⟩⟩
 done:=by
  intro X hP hw hK hc i pins s σ H E I hf st hg
  subst hP hw hK
  obtain ⟨xs,hq,hx⟩:=hg
  obtain ⟨its,rv,p,hz⟩:=I.list hq
  obtain ⟨f0,f1,f2,f3,f4,f5⟩:=hf it (by simp)
  have hl:=rv.length
  exact wpAny_pyNext_list_end (I.ok.hd hc) st p.isList (by simp;omega) fun h' eb=>⟨rfl,I.turned (t':=s.toks) (fun b o hb e=>eb b o hb e) f0 f1 f3 f4 f5⟩
 self:=fun _ _ _ _ _ st h=>wpAny_pyIter_listiter st h
theorem Zk3 {P:Program} {w:World} {K:PySem.W.Frag} {tg:Expr} (a it:Addr):Zeh P w K tg (Itt K a) [it] it (fun i h=>h.IsTupleIter it a i) where
 mem:=by simp
 obj:=fun i h st b hb=>by
  have e:b=it:=by simpa using hb
  subst e
  obtain ⟨o,e,c,d⟩:=st
  exact ⟨o,e,fun v z=>by rw [d] at z;cases z⟩
 keep:=fun i h h' st k=>st.at fun o e=>k it (by simp) o e
 item:=by
  intro X hP hw hK hc i pins s σ H E I hf st hg
  subst hP hw hK
  obtain ⟨xs,x,hq,hx⟩:=hg
  obtain ⟨its,rv,p,hz⟩:=I.tuple hq
  obtain ⟨u,hu,ru⟩:=rv.get hx
  obtain ⟨f0,f1,f2,f3,f4,f5⟩:=hf it (by simp)
  refine wpAny_pyNext_tuple_item st (show s.heap.IsTuple a its.toArray from p) (x:=u) (by simpa using hu) fun h' st' sb=>?_
  have I1:Inv X pins σ H { s with heap:=h' }:=I.turned (t':=s.toks) (fun b o hb e=>(sb.2 b hb).trans e) f0 f1 f3 f4 f5
  obtain ⟨o,e,c,d⟩:=id st'
  exact ⟨u,rfl,ZgG (s:={ s with heap:=h' }) e c d (by decide) ⟨x,H,I1,ru,⟨rfl,fun ys hy=>by rw [I.tuple_inj hy hq];exact hx⟩,st',fun b hb=>(hf b hb).1⟩⟩
 done:=by
  intro X hP hw hK hc i pins s σ H E I hf st hg
  subst hP hw hK
  obtain ⟨xs,hq,hx⟩:=hg
  obtain ⟨its,rv,p,hz⟩:=I.tuple hq
  obtain ⟨f0,f1,f2,f3,f4,f5⟩:=hf it (by simp)
  have hl:=rv.length
  exact wpAny_pyNext_tuple_end (I.ok.hd hc) st (show s.heap.IsTuple a its.toArray from p) (by simp;omega) fun h' eb=>⟨rfl,I.turned (t':=s.toks) (fun b o hb e=>eb b o hb e) f0 f1 f3 f4 f5⟩
 self:=fun _ _ _ _ _ st h=>wpAny_pyIter_tupleiter st h
theorem Zk0 {P:Program} {w:World} {K:PySem.W.Frag} {tg:Expr} (it:Addr) (lo:Int) (n:Nat):Zeh P w K tg (Itr lo n) [it] it (fun i h=>IsRangeIter h it (lo+(i:Nat) * 1) ((n:Int)-(i:Nat)) 1) where
 mem:=by simp
 obj:=fun i h st b hb=>by
  have e:b=it:=by simpa using hb
  subst e
  exact ⟨_,st,fun v z=>by
   have z':Data.fields _=Data.cell v:=z
   cases z'⟩
 keep:=fun i h h' st k=>k it (by simp) _ st
 item:=by
  intro X hP hw hK hc i pins s σ H E I hf st hg
  subst hP hw hK
  obtain ⟨f0,f1,f2,f3,f4,f5⟩:=hf it (by simp)
  have W:=Walks.range (prog:=X.prog) (w:=X.w) (I.ok.hd hc) it lo 1 n
  refine W.item i s _ _ hg st fun v h' tk hv st' kk=>?_
  obtain ⟨t,rfl⟩:=hv
  have I1:Inv X pins σ H { s with heap:=h',toks:=tk }:=I.turned (fun b o hb e=>kk b o (by simpa using hb) e) f0 f1 f3 f4 f5
  refine ⟨_,rfl,ZgG (s:={ s with heap:=h',toks:=tk }) (n:="range_iterator") st' rfl rfl (by decide) ⟨.int (lo+i),H,I1,⟨t,?_⟩,⟨rfl,rfl⟩,st',fun b hb=>(hf b hb).1⟩⟩
  rw [Int.mul_one]
 done:=by
  intro X hP hw hK hc i pins s σ H E I hf st hg
  subst hP hw hK
  obtain ⟨f0,f1,f2,f3,f4,f5⟩:=hf it (by simp)
  exact wpAny_pyNext_range_end (I.ok.hd hc) st (by have:n≤i:=hg;omega) fun h' eb=>⟨rfl,I.turned (t':=s.toks) (fun b o hb e=>eb b o hb e) f0 f1 f3 f4 f5⟩
 self:=fun _ _ _ _ _ st h=>wpAny_pyIter_rangeiter st h
end L2
namespace L2
open PySem PySem.Spec PyProof.Rows
section
variable {X:Cx} {tg:Expr}
def Zsu (K:PySem.W.Frag) (tl:TE):TI:=fun σ H R=>tl σ H fun x H1=>∃ a,x=.ref a∧(∃ xs,SqL K H1 a xs)∧R (Itl K a) H1
def ZtF (K:PySem.W.Frag) (tl:TE):TI:=fun σ H R=>tl σ H fun x H1=>∃ a,x=.ref a∧(∃ xs,SqT K H1 a xs)∧R (Itt K a) H1
theorem Zph {l:Expr} {tl:TE} (hl:PE X l tl):PI X tg l (Zsu X.K tl):=by
 intro pins s σ H R I h
 refine thn (hl pins s σ H _ I h) fun v s1 ⟨x,H1,I1,r1,q1⟩=>?_
 obtain ⟨a,e,⟨xs,hq⟩,q⟩:=q1
 subst e
 cases r1
 obtain ⟨its,rv,p,hz⟩:=I1.list hq
 refine wpAny_pyIter_list p.isList ?_
 refine ⟨s1.heap.objs.size,[s1.heap.objs.size],_,_,H1,rfl,I1.kept (t':=s1.toks) fun b o e=>Heap.get?_push_of_some _ e,ZmV a _,⟨_,Heap.get?_push_size _ rfl,rfl,rfl⟩,fun b hb=>?_,q⟩
 have e:b=s1.heap.objs.size:=by simpa using hb
 subst e
 exact I1.fpOk (Nat.le_refl _) (I1.hok.fresh (Nat.le_refl _))
theorem Zsd {l:Expr} {tl:TE} (hl:PE X l tl):PI X tg l (ZtF X.K tl):=by
 intro pins s σ H R I h
 refine thn (hl pins s σ H _ I h) fun v s1 ⟨x,H1,I1,r1,q1⟩=>?_
 obtain ⟨a,e,⟨xs,hq⟩,q⟩:=q1
 subst e
 cases r1
 obtain ⟨its,rv,p,hz⟩:=I1.tuple hq
 refine wpAny_pyIter_tuple (show s1.heap.IsTuple a its.toArray from p) ?_
 refine ⟨s1.heap.objs.size,[s1.heap.objs.size],_,_,H1,rfl,I1.kept (t':=s1.toks) fun b o e=>Heap.get?_push_of_some _ e,Zk3 a _,⟨_,Heap.get?_push_size _ rfl,rfl,rfl⟩,fun b hb=>?_,q⟩
 have e:b=s1.heap.objs.size:=by simpa using hb
 subst e
 exact I1.fpOk (Nat.le_refl _) (I1.hok.fresh (Nat.le_refl _))
theorem ZiF {pins:List (Addr×Obj)} {σ:St} {H:Hp} {s:Shared} {R:It→Hp→Prop} {E:Value→Shared→Prop} {lo hi:Int} {t u v:Tok} {tk:Nat} (I:Inv X pins σ H s) (h1 : -(2^62)≤lo) (h2:lo<2^62) (h3 : -(2^62)≤hi) (h4:hi<2^62)
  (q:R (Itr lo (hi-lo).toNat) H):wpAny (model X.prog X.w) X.A (pyIter (.ref s.heap.objs.size)) (PIE X pins σ tg R) E { s with heap:=s.heap.push { cls:=.type "range",data:=.fields #[.int lo t,.int hi u,.int 1 v] },toks:=tk }:=by
 refine wpAny_pyIter_range (IsRange.new ..) (small_one h1 h2 h3 h4) ?_
 have I1:Inv X pins σ H { s with heap:=s.heap.push { cls:=.type "range",data:=.fields #[.int lo t,.int hi u,.int 1 v] },toks:=tk }:=I.kept fun b o e=>Heap.get?_push_of_some _ e
 refine ⟨(s.heap.push { cls:=.type "range",data:=.fields #[.int lo t,.int hi u,.int 1 v] }).objs.size,[(s.heap.push { cls:=.type "range",data:=.fields #[.int lo t,.int hi u,.int 1 v] }).objs.size],_,_,H,rfl,
  I1.kept (t':=tk) fun b o e=>Heap.get?_push_of_some _ e,Zk0 _ lo (hi-lo).toNat,?_,fun b hb=>?_,q⟩
 ·have e1:lo+((0:Nat):Int) * 1=lo:=by simp
  have e2:(((hi-lo).toNat:Nat):Int)-((0:Nat):Int)=Builtin.Range.rangeSize lo hi 1:=by rw [rangeSize_one];split<;>omega
  show IsRangeIter _ _ (lo+((0:Nat):Int) * 1) ((((hi-lo).toNat:Nat):Int)-((0:Nat):Int)) 1
  rw [e1,e2]
  exact Heap.get?_push_size _ rfl
 ·have e:b=(s.heap.push { cls:=.type "range",data:=.fields #[.int lo t,.int hi u,.int 1 v] }).objs.size:=by simpa using hb
  subst e
  exact I1.fpOk (Nat.le_refl _) (I1.hok.fresh (Nat.le_refl _))
def ZsL (ta:TA):TI:=fun σ H R=>ta σ H fun vs H1=>∃ j:Int,vs=[.int j] ∧ -(2^62)≤j∧j<2^62∧R (Itr 0 j.toNat) H1
def ZsR (ta:TA):TI:=fun σ H R=>ta σ H fun vs H1=>∃ i j:Int,vs=[.int i,.int j]∧(-(2^62)≤i∧i<2^62 ∧ -(2^62)≤j∧j<2^62)∧R (Itr i (j-i).toNat) H1
theorem Zmw {a:Expr} {ta:TA} {p pos:Pos} (hg:Gl X "range") (hm:X.mg "range"=none) (ha:PA X [a] ta) (hs:starEach [a] X.env=[(false,eval a X.env)]:=by rfl):PI X tg (.Call (.Name "range" p) [a] [] pos) (ZsL ta):=by
 intro pins s σ H R I h
 refine Call_ (ZbR I hg hm boot_range (PyProof.Rows.callWith_type1 (thn (ha pos pins s σ H _ I h) fun us s1 ⟨vs,H1,I1,r1,q1⟩=>?_) hs rfl))
 obtain ⟨j,e,q1,q2,q⟩:=q1
 subst e
 cases r1 with
 | cons r rr =>
  cases rr
  obtain ⟨t,rfl⟩:=r
  exact call_range_1 (ZiF I1 (by omega) (by omega) q1 q2 (by simpa using q))
theorem ZlR {a b:Expr} {ta:TA} {p pos:Pos} (hg:Gl X "range") (hm:X.mg "range"=none) (ha:PA X [a,b] ta) (hs:starEach [a,b] X.env=[(false,eval a X.env),(false,eval b X.env)]:=by rfl) (hs2:starEach [b] X.env=[(false,eval b X.env)]:=by rfl) :
  PI X tg (.Call (.Name "range" p) [a,b] [] pos) (ZsR ta):=by
 intro pins s σ H R I h
 refine Call_ (ZbR I hg hm boot_range (PyProof.Rows.callWith_type1 (thn (ha pos pins s σ H _ I h) fun us s1 ⟨vs,H1,I1,r1,q1⟩=>?_) (by rw [hs,hs2]) (by rw [hs2];rfl)))
 obtain ⟨i,j,e,⟨q1,q2,q3,q4⟩,q⟩:=q1
 subst e
 cases r1 with
 | cons r rr =>
  cases rr with
  | cons r' rr =>
   cases rr
   obtain ⟨t,rfl⟩:=r
   obtain ⟨t',rfl⟩:=r'
   exact call_range_2 (ZiF I1 q1 q2 q3 q4 q)
def ZrR (wi:TI) (g:TG) (tb:TS):TS:=fun D σ H=>wi σ H fun J H1=>∃ W:Nat→Nat→St→Hp→Prop,(∃ m,W 0 m σ H1)∧∀ i m σ H,W i m σ H →
 (J.stop i H∧D.nx σ H)∨(J.go i H∧∃ N:St→Hp→Prop,(∀ σ' H',N σ' H'→∃ m',m'<m∧W (i+1) m' σ' H')∧∀ x H',J.yld i H x H'→g x σ H' fun σ2 H2=>tb { D with nx:=N,ct:=N,bk:=D.nx } σ2 H2)
def ZdI (fp:List Addr) (h:Heap):List (Addr×Obj):=fp.filterMap fun b=>(h.get? b).map fun o=>(b,o)
theorem Zdj {fp:List Addr} {h:Heap} {b:Addr} {o:Obj} (hb:b∈fp) (e:h.get? b=some o):(b,o)∈ZdI fp h:=List.mem_filterMap.mpr ⟨b,hb,by rw [e];rfl⟩
theorem ZhI {fp:List Addr} {h:Heap} {p:Addr×Obj} (hp:p∈ZdI fp h):p.1∈fp∧h.get? p.1=some p.2:=by
 obtain ⟨b,hb,e⟩:=List.mem_filterMap.mp hp
 cases q:h.get? b with
 | none=>rw [q] at e;cases e
 | some o =>
  rw [q] at e
  have e':(b,o)=p:=Option.some.inj e
  subst e'
  exact ⟨hb,q⟩
theorem Inv.pinned {pins:List (Addr×Obj)} {σ:St} {H:Hp} {s:Shared} {fp:List Addr} (I:Inv X pins σ H s) (hf:∀ b∈fp,ZcR X pins H b) (ho:∀ b∈fp,∃ o,s.heap.get? b=some o∧∀ v,o.data≠.cell v):Inv X (pins++ZdI fp s.heap) σ H s :=
 I.pins_of fun p hp=>(List.mem_append.mp hp).elim (fun z=>I.pin p (List.mem_append_right _ z)) fun z=>by
  obtain ⟨hb,e⟩:=ZhI z
  obtain ⟨f0,f1,f2,_⟩:=hf p.1 hb
  obtain ⟨o,e',d⟩:=ho p.1 hb
  rw [e] at e';cases e'
  exact ⟨e,f0,f1,f2,d⟩
theorem Inv.unpinned {pins pl:List (Addr×Obj)} {σ:St} {H:Hp} {s:Shared} (I:Inv X (pins++pl) σ H s):Inv X pins σ H s:=I.pins_of fun p hp=>I.pin p (List.mem_append_right _ (List.mem_append_left _ hp))
theorem Zr0 {iter:Expr} {body:List Stmt} {wi:TI} {g:TG} {tb:TS} {pos:Pos} (hp:PassesOwn (model X.prog X.w) X.A X.env X.xe) (hc:X.calm=true) (hi:PI X tg iter wi) (hg:PG X tg g) (hb:PSs X body tb)
  (hs:∀ x,foldedSetIterable iter X.env x=pure x:=by intro _;rfl):PS X (.For tg iter body [] pos) (ZrR wi g tb):=by
 intro pins s σ H D I h
 refine wpAny_For (thn (hi pins s σ H _ I h) fun v s1 h1=>thn h1 fun itv s2 h2=>?_) hs
 obtain ⟨it,fp,tn,J,H2,e,I2,T,st2,f2,W,⟨m0,w0⟩,turn⟩:=h2
 subst e
 -- what stays true of the iterator's objects through the loop
 have stat:∀ {H':Hp},(∀ b∈fp,H' b=none)→∀ b∈fp,ZcR X pins H' b:=fun hn b hb=>⟨hn b hb,(f2 b hb).2⟩
 refine codeAny_forLoop_any (fun n s'=>∃ i σ' H',Inv X pins σ' H' s'∧tn i s'.heap∧(∀ b∈fp,H' b=none)∧W i n σ' H') ?_ m0 ⟨0,σ,H2,I2,st2,fun b hb=>(f2 b hb).1,w0⟩
 rintro n s3 ⟨i,σ3,H3,I3,st3,fr3,w3⟩
 rcases turn i n σ3 H3 w3 with ⟨stop,qn⟩ | ⟨go,N,hN,step⟩
 ·refine wpAny_passesOwn hp (thn (T.done X rfl rfl rfl hc i pins s3 σ3 H3 X.xe I3 (stat fr3) st3 stop) fun r s4 ⟨hr,I4⟩=>?_)
  subst hr
  exact wpAny_execs_nil ⟨σ3,H3,I4,qn⟩
 ·refine wpAny_passesOwn hp (thn (T.item X rfl rfl rfl hc i pins s3 σ3 H3 X.xe I3 (stat fr3) st3 go) fun r s4 ⟨u,hr,h4⟩=>?_)
  subst hr
  refine wpAny_passesOwn hp (thn h4 fun _ s5 ⟨x,H5,I5,r5,y5,st5,fr5⟩=>?_)
  have I5':=I5.pinned (stat fr5) (T.obj _ _ st5)
  refine wpAny_passesOwn hp (thn (hg _ s5 σ3 H5 x u _ I5' r5 (step x H5 y5)) fun _ s6 ⟨σ6,H6,I6,q6⟩=>?_)
  refine wpAny_passesOwn hp (thn (hb _ s6 σ6 H6 _ I6 q6) fun f s7 q7=>?_)
  have again:∀ {σ7:St} {H7:Hp},Inv X (pins++ZdI fp s5.heap) σ7 H7 s7→N σ7 H7→∃ m,m<n∧∃ i σ' H',Inv X pins σ' H' s7∧tn i s7.heap∧(∀ b∈fp,H' b=none)∧W i m σ' H':=fun {σ7 H7} I7 n7=>by
   obtain ⟨m',hm,w7⟩:=hN σ7 H7 n7
   refine ⟨m',hm,i+1,σ7,H7,I7.unpinned,T.keep _ _ _ st5 fun b hb o e=>(I7.pin (b,o) (List.mem_append_right _ (List.mem_append_right _ (Zdj hb e)))).1,fun b hb=>?_,w7⟩
   obtain ⟨o,e,d⟩:=T.obj _ _ st5 b hb
   exact (I7.pin (b,o) (List.mem_append_right _ (List.mem_append_right _ (Zdj hb e)))).2.1
  cases f with
  | next=>obtain ⟨σ7,H7,I7,n7⟩:=q7;exact again I7 n7
  | cont=>obtain ⟨σ7,H7,I7,n7⟩:=q7;exact again I7 n7
  | brk=>obtain ⟨σ7,H7,I7,q7⟩:=q7;exact ⟨σ7,H7,I7.unpinned,q7⟩
  | ret v=>obtain ⟨x7,σ7,H7,I7,r7,q7⟩:=q7;exact ⟨x7,σ7,H7,I7.unpinned,r7,q7⟩
end
end L2
namespace L2
open PySem PySem.Spec PyProof.Rows
abbrev R2:=V→V→Hp→VK→Prop
def OpR (X:Cx) (f:Value→Value→Sem Value) (r:R2):Prop :=
 ∀ (pins:List (Addr×Obj)) (s:Shared) (σ:St) (H:Hp) (x y:V) (v u:Value) (Q:VK),Inv X pins σ H s→RelV x v→RelV y u→r x y H Q →
  wpAny (model X.prog X.w) X.A (f v u) (EP X pins σ Q) X.xe s
def UnR (X:Cx) (f:Value→Sem Value) (r:V→Hp→VK→Prop):Prop :=
 ∀ (pins:List (Addr×Obj)) (s:Shared) (σ:St) (H:Hp) (x:V) (v:Value) (Q:VK),Inv X pins σ H s→RelV x v→r x H Q →
  wpAny (model X.prog X.w) X.A (f v) (EP X pins σ Q) X.xe s
def CallR (X:Cx) (f:Value) (r:List V→Hp→VK→Prop):Prop :=
 ∀ (pins:List (Addr×Obj)) (s:Shared) (σ:St) (H:Hp) (xs:List V) (us:List Value) (Q:VK),Inv X pins σ H s→Vals xs us→r xs H Q →
  wpAny (model X.prog X.w) X.A (call f us) (EP X pins σ Q) X.xe s
def Ztj (X:Cx) (r:V→Hp→(Bool→Hp→Prop)→Prop):Prop :=
 ∀ (pins:List (Addr×Obj)) (s:Shared) (σ:St) (H:Hp) (x:V) (v:Value) (Q:Bool→Hp→Prop),Inv X pins σ H s→RelV x v→r x H Q →
  wpAny (model X.prog X.w) X.A (truthy v) (TP X pins σ Q) X.xe s
def tOp (r:R2) (ta tb:TE):TE:=fun σ H Q=>ta σ H fun x H1=>tb σ H1 fun y H2=>r x y H2 Q
def tUn (r:V→Hp→VK→Prop) (ta:TE):TE:=fun σ H Q=>ta σ H fun x H1=>r x H1 Q
def rI (C:Int→Int→Prop) (g:Int→Int→V):R2:=fun x y H Q=>∃ i j,x=.int i∧y=.int j∧C i j∧Q (g i j) H
def rI0 (g:Int→Int→V):R2:=fun x y H Q=>∃ i j,x=.int i∧y=.int j∧Q (g i j) H
def rU (g:Int→V):V→Hp→VK→Prop:=fun x H Q=>∃ i,x=.int i∧Q (g i) H
section
variable {X:Cx} {a b c:Expr} {ta tb tc:TE} {pos:Pos}
theorem Zod (ha:PE X a ta) (hb:PE X b tb) {pins:List (Addr×Obj)} {s:Shared} {σ:St} {H:Hp} {R:V→V→Hp→Prop} (I:Inv X pins σ H s)
  (h:ta σ H fun x H1=>tb σ H1 fun y H2=>R x y H2) {Q:Value→Shared→Prop} {f:Value→Value→Sem Value}
  (hf:∀ v u s2 x y H2,Inv X pins σ H2 s2→RelV x v→RelV y u→R x y H2→wpAny (model X.prog X.w) X.A (f v u) Q X.xe s2) :
  wpAny (model X.prog X.w) X.A (eval a X.env) (fun v s₁=>wpAny (model X.prog X.w) X.A (eval b X.env) (fun u s₂=>wpAny (model X.prog X.w) X.A (f v u) Q X.xe s₂) X.xe s₁) X.xe s:=by
 refine thn (ha pins s σ H _ I h) fun v s1 ⟨x,H1,I1,r1,q1⟩=>?_
 refine thn (hb pins s1 σ H1 _ I1 q1) fun u s2 ⟨y,H2,I2,r2,q2⟩=>?_
 exact hf v u s2 x y H2 I2 r1 r2 q2
theorem ZsG {op:Operator} {r:R2} (ho:OpR X (binaryOp op) r) (ha:PE X a ta) (hb:PE X b tb):PE X (.BinOp a op b pos) (tOp r ta tb):=by
 intro pins s σ H Q I h
 exact wpAny_BinOp (Zod ha hb I h fun v u s2 x y H2 I2 rx ry q=>ho pins s2 σ H2 x y v u Q I2 rx ry q)
theorem Zsm {op:UnaryOp} {r:V→Hp→VK→Prop} (ho:UnR X (unaryOp op) r) (ha:PE X a ta):PE X (.UnaryOp op a pos) (tUn r ta):=by
 intro pins s σ H Q I h
 exact UnaryOp_ (thn (ha pins s σ H _ I h) fun v s1 ⟨x,H1,I1,r1,q1⟩=>ho pins s1 σ H1 x v Q I1 r1 q1)
theorem opI {f:Value→Value→Sem Value} {C:Int→Int→Prop} {g:Int→Int→Int}
  (rule:∀ (i j:Int) (t u:Tok) (s:Shared) (Q:Value→Shared→Prop) (E:Value→Shared→Prop),C i j→Q (.int (g i j) s.toks) { s with toks:=s.toks+1 }→wpAny (model X.prog X.w) X.A (f (.int i t) (.int j u)) Q E s) :
  OpR X f (rI C fun i j=>.int (g i j)):=by
 intro pins s σ H x y v u Q I rx ry h
 obtain ⟨i,j,rfl,rfl,hc,q⟩:=h
 obtain ⟨t,rfl⟩:=rx
 obtain ⟨t',rfl⟩:=ry
 exact rule i j t t' s _ _ hc ⟨.int (g i j),H,I.tok _,⟨_,rfl⟩,q⟩
theorem ZrL {f:Value→Value→Sem Value} {g:Int→Int→Int}
  (rule:∀ (i j:Int) (t u:Tok) (s:Shared) (Q:Value→Shared→Prop) (E:Value→Shared→Prop),Q (.int (g i j) s.toks) { s with toks:=s.toks+1 }→wpAny (model X.prog X.w) X.A (f (.int i t) (.int j u)) Q E s) :
  OpR X f (rI0 fun i j=>.int (g i j)):=by
 intro pins s σ H x y v u Q I rx ry h
 obtain ⟨i,j,rfl,rfl,q⟩:=h
 obtain ⟨t,rfl⟩:=rx
 obtain ⟨t',rfl⟩:=ry
 exact rule i j t t' s _ _ ⟨.int (g i j),H,I.tok _,⟨_,rfl⟩,q⟩
theorem ZtE {f:Value→Value→Sem Value} {g:Int→Int→Bool}
  (rule:∀ (i j:Int) (t u:Tok) (s:Shared) (Q:Value→Shared→Prop) (E:Value→Shared→Prop),Q (.bool (g i j)) s→wpAny (model X.prog X.w) X.A (f (.int i t) (.int j u)) Q E s) :
  OpR X f (rI0 fun i j=>.bl (g i j)):=by
 intro pins s σ H x y v u Q I rx ry h
 obtain ⟨i,j,rfl,rfl,q⟩:=h
 obtain ⟨t,rfl⟩:=rx
 obtain ⟨t',rfl⟩:=ry
 exact rule i j t t' s _ _ ⟨.bl (g i j),H,I,rfl,q⟩
def Zbj (i j:Int):Prop:=0<j∧j<1073741824
def Ze9 (i j:Int):Prop:=0≤j∧j≤1000000∧i.natAbs<2^64
def CMul (i j:Int):Prop:=(-(2^64)<i∧i<2^64)∨(-(2^64)<j∧j<2^64)
theorem CMul.ok {i j:Int} (h:CMul i j):IntMulOk i j:=by
 rcases h with ⟨h1,h2⟩ | ⟨h1,h2⟩
 ·exact .of_left (intBits_le_64 h1 h2)
 ·exact .of_right (intBits_le_64 h1 h2)
theorem op_add:OpR X (binaryOp .Add) (rI0 fun i j=>.int (i+j)):=ZrL fun _ _ _ _ _ _ _ q=>add_int q
theorem ZqI:OpR X (binaryOp .Sub) (rI0 fun i j=>.int (i-j)):=ZrL fun _ _ _ _ _ _ _ q=>sub_int q
theorem ZqS:OpR X (binaryOp .Mult) (rI CMul fun i j=>.int (i * j)):=opI fun _ _ _ _ _ _ _ hc q=>mul_int q hc.ok
theorem ZoU:OpR X (binaryOp .FloorDiv) (rI Zbj fun i j=>.int (i / j)):=opI fun i j _ _ _ _ _ hc q=>by
 have h1:(0:Int)<j:=hc.1
 have h2:j<1073741824:=hc.2
 exact floordiv_int (by omega) (by rw [Int.fdiv_eq_ediv_of_nonneg i (by omega)];exact q) (.inl (PyProof.noPylong_small (by omega)))
theorem Zr4:OpR X (binaryOp .Mod) (rI (fun _ j=>0<j) fun i j=>.int (i%j)):=opI fun i j _ _ _ _ _ hc q=>by
 have h1:(0:Int)<j:=hc
 exact mod_int' (by omega) (by rw [Int.fmod_eq_emod_of_nonneg i (by omega)];exact q)
theorem Zrv:OpR X (binaryOp .Pow) (rI Ze9 fun i j=>.int (i^j.toNat)):=opI fun _ _ _ _ _ _ _ hc q=>pow_int_small hc.1 hc.2.1 hc.2.2 q
theorem unI {f:Value→Sem Value} {g:Int→Int}
  (rule:∀ (i:Int) (t:Tok) (s:Shared) (Q:Value→Shared→Prop) (E:Value→Shared→Prop),Q (.int (g i) s.toks) { s with toks:=s.toks+1 }→wpAny (model X.prog X.w) X.A (f (.int i t)) Q E s) :
  UnR X f (rU fun i=>.int (g i)):=by
 intro pins s σ H x v Q I rx h
 obtain ⟨i,rfl,q⟩:=h
 obtain ⟨t,rfl⟩:=rx
 exact rule i t s _ _ ⟨.int (g i),H,I.tok _,⟨_,rfl⟩,q⟩
theorem Zq2:UnR X (unaryOp .USub) (rU fun i=>.int (-i)):=unI fun _ _ _ _ _ q=>neg_int q
end
section
variable {X:Cx} {a b c:Expr} {ta tb tc:TE} {pos:Pos}
theorem Zst:OpR X (compareOp .Gt) (rI0 fun i j=>.bl (decide (j<i))):=ZtE fun _ _ _ _ _ _ _ q=>gt_int q
theorem OpR.or {f:Value→Value→Sem Value} {r r':R2} (h:OpR X f r) (h':OpR X f r'):OpR X f (fun x y H Q=>r x y H Q∨r' x y H Q):=by
 intro pins s σ H x y v u Q I rx ry q
 rcases q with q | q
 ·exact h pins s σ H x y v u Q I rx ry q
 ·exact h' pins s σ H x y v u Q I rx ry q
theorem ZoO {op:CmpOp} {r:R2} (ho:OpR X (compareOp op) r) (ha:PE X a ta) (hb:PE X b tb) (hm:behindInMarks op b=false):PE X (.Compare a [op] [b] pos) (tOp r ta tb):=by
 intro pins s σ H Q I h
 exact wpAny_Compare1 (Zod ha hb I h fun v u s2 x y H2 I2 rx ry q=>ho pins s2 σ H2 x y v u Q I2 rx ry q) hm
def Zs9 (t:TE):TT:=fun σ H Q=>t σ H fun x H'=>∃ k,x=.bl k∧Q k H'
theorem Zpe {op:CmpOp} {r:R2} (ho:OpR X (compareOp op) r) (ha:PE X a ta) (hb:PE X b tb) (hm:behindInMarks op b=false):PT X (.Compare a [op] [b] pos) (Zs9 (tOp r ta tb)):=by
 intro pins s σ H Q I h
 refine wpAny_isTrue_Compare1 (thn (ha pins s σ H _ I h) fun v s1 ⟨x,H1,I1,r1,q1⟩=>thn (hb pins s1 σ H1 _ I1 q1) fun u s2 ⟨y,H2,I2,r2,q2⟩ =>
  thn (ho pins s2 σ H2 x y v u _ I2 r1 r2 q2) fun c s3 ⟨z,H3,I3,r3,k,e,q3⟩=>?_) hm
 subst e
 cases r3
 exact wpAny_truthy_bool ⟨H3,I3,q3⟩
def ZrA (K:PySem.W.Frag) (x:V) (H:Hp) (k:Bool):Prop :=
 match x with
 | .non=>k=false
 | .bl b=>k=b
 | .int i=>k=(i != 0)
 | .str y=>y.length≤sizeLine∧k=((y.length:Int) != 0)
 | .byt y=>y.size≤sizeLine∧k=((y.size:Int) != 0)
 | .ref p=>(∃ xs,SqL K H p xs∧k=!xs.isEmpty)∨(∃ xs,SqT K H p xs∧k=!xs.isEmpty)∨∃ kvs,H p=some (.dK kvs)∧k=!kvs.isEmpty
 | _=>False
theorem ZkX {κ:Type} {kvs:List (κ×V)} {vs:List (κ×Value)} (r:KV kvs vs):(!vs.isEmpty)=!kvs.isEmpty:=by
 cases r<;>rfl
theorem ZgQ {xs:List V} {its:List Value} (r:Vals xs its):(!its.toArray.isEmpty)=!xs.isEmpty:=by
 cases r<;>simp
theorem Zfx:(sizeLine:Nat)<2^63:=by rw [sizeLine_eq];decide
theorem Zq8:Ztj X (fun x H Q=>∃ k,ZrA X.K x H k∧Q k H):=by
 intro pins s σ H x v Q I rx h
 obtain ⟨k,e,q⟩:=h
 have hl:=Zfx
 have hs:sizeLine=16777216:=sizeLine_eq
 cases x with
 | non =>
  cases rx
  have e':k=false:=e
  subst e'
  exact truthy_none ⟨H,I,q⟩
 | bl b =>
  cases rx
  have e':k=b:=e
  subst e'
  exact wpAny_truthy_bool ⟨H,I,q⟩
 | int i =>
  obtain ⟨t,rfl⟩:=rx
  have e':k=(i != 0):=e
  subst e'
  exact PySem.P.truthy_int ⟨H,I,q⟩
 | str y =>
  obtain ⟨t,rfl⟩:=rx
  obtain ⟨hy,e'⟩:y.length≤sizeLine∧k=((y.length:Int) != 0):=e
  subst e'
  exact PySem.P.truthy_str (by omega) ⟨H,I.tok _,q⟩
 | byt y =>
  obtain ⟨t,rfl⟩:=rx
  obtain ⟨hy,e'⟩:y.size≤sizeLine∧k=((y.size:Int) != 0):=e
  subst e'
  exact PySem.W.truthy_bytes (by omega) ⟨H,I.tok _,q⟩
 | ref p =>
  cases rx
  have e':(∃ xs,SqL X.K H p xs∧k=!xs.isEmpty)∨(∃ xs,SqT X.K H p xs∧k=!xs.isEmpty)∨∃ kvs,H p=some (.dK kvs)∧k=!kvs.isEmpty:=e
  rcases e' with ⟨xs,hx,e'⟩ | ⟨xs,hx,e'⟩ | ⟨kvs,hx,e'⟩
  ·subst e'
   obtain ⟨its,r,pl,hz⟩:=I.list hx
   have hlen:=r.length
   exact wpAny_truthy_list pl.isList (by simp only [List.size_toArray];omega) ⟨H,I.tok _,by rw [ZgQ r];exact q⟩
  ·subst e'
   obtain ⟨its,r,pl,hz⟩:=I.tuple hx
   have hlen:=r.length
   exact truthy_tuple pl (by simp only [List.size_toArray];omega) ⟨H,I.tok _,by rw [ZgQ r];exact q⟩
  ·subst e'
   obtain ⟨hz,hS,vs,r,m⟩:kvs.length≤sizeLine∧(p==sysModules)=false∧∃ vs,KV kvs vs∧s.heap.DictOf (Zg3 X.prog X.w) p vs:=I.hok p _ hx
   have hlen:kvs.length=vs.length:=Paired.length r
   exact wpAny_truthy_dict hS m (by omega) ⟨H,I.tok _,by rw [ZkX r];exact q⟩
 | _=>exact (show False from e).elim
theorem Zol (ha:PE X a ta) (he:∀ whole,isTrue a X.env whole=(do let v ← whole;standAt a.pos;holding [v] (truthy v))) :
  PT X a (fun σ H Q=>ta σ H fun x H'=>∃ k,ZrA X.K x H' k∧Q k H'):=by
 intro pins s σ H Q I h
 exact isTrue_plain (thn (ha pins s σ H _ I h) fun v s1 ⟨x,H1,I1,r1,q1⟩=>Zq8 pins s1 σ H1 x v Q I1 r1 q1) (he _)
theorem op_add_str:OpR X (binaryOp .Add) (fun x y H Q=>∃ i j,x=.str i∧y=.str j∧i.length+j.length≤sizeLine∧Q (.str (i++j)) H):=by
 intro pins s σ H x y v u Q I rx ry h
 obtain ⟨i,j,rfl,rfl,hz,q⟩:=h
 obtain ⟨t,rfl⟩:=rx
 obtain ⟨t',rfl⟩:=ry
 exact add_str (fun t' tk=>⟨.str (i++j),H,I.tok _,⟨_,rfl⟩,q⟩) hz
theorem ZaK {x:V} {us:List Value} (r:Vals [x] us):∃ u,us=[u]∧RelV x u:=by
 cases r with
 | cons r1 r2=>cases r2;exact ⟨_,rfl,r1⟩
theorem Zh7 {x y:V} {us:List Value} (r:Vals [x,y] us):∃ u w',us=[u,w']∧RelV x u∧RelV y w':=by
 cases r with
 | cons r1 r2 =>
  cases r2 with
  | cons r3 r4=>cases r4;exact ⟨_,_,rfl,r1,r3⟩
theorem Zml (hc:X.calm=true):CallR X (.builtin "max") (fun xs H Q=>∃ i j,xs=[.int i,.int j]∧Q (.int (if j > i then j else i)) H):=by
 intro pins s σ H xs us Q I r h
 obtain ⟨i,j,rfl,q⟩:=h
 obtain ⟨u,w',rfl,⟨t,rfl⟩,⟨t',rfl⟩⟩:=Zh7 r
 refine max_two_ints (I.ok.hd hc) fun h' tk k=>⟨_,H,I.kept k,?_,q⟩
 by_cases hj:j > i
 ·rw [if_pos hj,if_pos hj];exact ⟨_,rfl⟩
 ·rw [if_neg hj,if_neg hj];exact ⟨_,rfl⟩
theorem ZlW (hc:X.calm=true):CallR X (.builtin "min") (fun xs H Q=>∃ i j,xs=[.int i,.int j]∧Q (.int (if j<i then j else i)) H):=by
 intro pins s σ H xs us Q I r h
 obtain ⟨i,j,rfl,q⟩:=h
 obtain ⟨u,w',rfl,⟨t,rfl⟩,⟨t',rfl⟩⟩:=Zh7 r
 refine min_two_ints (I.ok.hd hc) fun h' tk k=>⟨_,H,I.kept k,?_,q⟩
 by_cases hj:j<i
 ·rw [if_pos hj,if_pos hj];exact ⟨_,rfl⟩
 ·rw [if_neg hj,if_neg hj];exact ⟨_,rfl⟩
theorem Zmz:CallR X (.type "int") (fun xs H Q=>(∃ i,xs=[.int i]∧Q (.int i) H)∨∃ k,xs=[.bl k]∧Q (.int (if k then 1 else 0)) H):=by
 intro pins s σ H xs us Q I r h
 rcases h with ⟨i,rfl,q⟩ | ⟨k,rfl,q⟩
 ·obtain ⟨u,rfl,t,rfl⟩:=ZaK r
  exact call_int_int ⟨.int i,H,I,⟨_,rfl⟩,q⟩
 ·obtain ⟨u,rfl,r1⟩:=ZaK r
  cases r1
  exact call_int_bool ⟨.int (if k then 1 else 0),H,I.tok _,⟨_,rfl⟩,q⟩
theorem Zjc:CallR X (.type "str") (fun xs H Q=>∃ i,xs=[.int i]∧i.natAbs.log2<1920∧Q (.str (toString i)) H):=by
 intro pins s σ H xs us Q I r h
 obtain ⟨i,rfl,hz,q⟩:=h
 obtain ⟨u,rfl,t,rfl⟩:=ZaK r
 exact PySem.P.str_of_int hz ⟨.str _,H,I.tok _,⟨_,rfl⟩,q⟩
def ZrG (K:PySem.W.Frag) (x:V) (H:Hp) (n:Nat):Prop :=
 match x with
 | .str y=>y.length≤sizeLine∧n=y.length
 | .byt y=>y.size≤sizeLine∧n=y.size
 | .ref p=>(∃ xs,SqL K H p xs∧n=xs.length)∨∃ xs,SqT K H p xs∧n=xs.length
 | _=>False
theorem ZbK:CallR X (.builtin "len") (fun xs H Q=>∃ x n,xs=[x]∧ZrG X.K x H n∧Q (.int n) H):=by
 intro pins s σ H xs us Q I r h
 obtain ⟨x,n,rfl,e,q⟩:=h
 obtain ⟨u,rfl,rx⟩:=ZaK r
 have hl:=Zfx
 have hs:sizeLine=16777216:=sizeLine_eq
 cases x with
 | str y =>
  obtain ⟨t,rfl⟩:=rx
  obtain ⟨hy,e'⟩:y.length≤sizeLine∧n=y.length:=e
  subst e'
  exact len_str (by omega) ⟨.int _,H,I.tok _,⟨_,rfl⟩,q⟩
 | byt y =>
  obtain ⟨t,rfl⟩:=rx
  obtain ⟨hy,e'⟩:y.size≤sizeLine∧n=y.size:=e
  subst e'
  exact PySem.W.len_bytes (by omega) ⟨.int _,H,I.tok _,⟨_,rfl⟩,q⟩
 | ref p =>
  cases rx
  have e':(∃ xs,SqL X.K H p xs∧n=xs.length)∨∃ xs,SqT X.K H p xs∧n=xs.length:=e
  rcases e' with ⟨xs,hx,e'⟩ | ⟨xs,hx,e'⟩
  ·subst e'
   obtain ⟨its,r',pl,hz⟩:=I.list hx
   have hlen:=r'.length
   exact Calls.call_len_list pl.isList (by simp only [List.size_toArray];omega) ⟨.int xs.length,H,I.tok _,⟨_,by simp only [List.size_toArray];rw [hlen]⟩,q⟩
  ·subst e'
   obtain ⟨its,r',pl,hz⟩:=I.tuple hx
   have hlen:=r'.length
   exact len_tuple pl (by simp only [List.size_toArray];omega) ⟨.int xs.length,H,I.tok _,⟨_,by simp only [List.size_toArray];rw [hlen]⟩,q⟩
 | _=>exact (show False from e).elim
end
end L2
namespace L2
open PySem PySem.Spec PyProof.Rows
section
variable {prog:Program} {w:World} {A:Around} {E:Value→Shared→Prop} {s:Shared} {K:PySem.W.Frag} {x dx C f:Addr} {mA:Str→Option Value} {name:Str} {v:Value}
end
section
variable {P:Program} {w:World} {H H':Hp} {h h':Heap} {a C dx:Addr} {fs fs':List (Str×V)}
end
structure Cls (K:PySem.W.Frag) (C:Addr):Prop where
 pg:PySem.W.plainGet K C Str.empty=true
 hd:PySem.W.hasDictIn K C=true
 po:PySem.W.plainOver K C=true
 sa:PySem.W.findIn K (.ref C) "__setattr__"=some (some (.builtin "object.__setattr__"))
theorem Cls.get {K:PySem.W.Frag} {C:Addr} (c:Cls K C) (f:Str):PySem.W.plainGet K C f=true:=c.pg
section
variable {X:Cx} {pins:List (Addr×Obj)} {σ:St} {H:Hp} {s:Shared} {a C dx:Addr} {fs:List (Str×V)} {f:Str} {v:V} {A:Around} {E:Value→Shared→Prop}
end
section
variable {X:Cx} {o e value:Expr} {f:Str} {pos pos' tpos:Pos} {ta tv:TE}
end
section
variable {X:Cx} {pins:List (Addr×Obj)} {σ:St} {H:Hp} {s:Shared} {A:Around} {E:Value→Shared→Prop} {Q:Value→Shared→Prop} {c:Value} {b:Bool}
end
end L2
namespace L2
open PySem PySem.Spec PyProof.Rows
structure Room (k:Nat) (A:Around):Prop where
 hd:A.handled=none
 dp:A.depth+3 * k+5<recursionLimit
 un:A.units+16 * k+200<cLine
theorem Room.mono {j k:Nat} {A:Around} (r:Room k A) (h:j≤k):Room j A:=⟨r.hd,by have:=r.dp;omega,by have:=r.un;omega⟩
theorem Room.deeper {k:Nat} {A:Around} (r:Room (k+1) A) (env:Env):Room k (A.deeper env) :=
 ⟨r.hd,by have:=r.dp;show A.depth+1+3 * k+5<_;omega,by have:=r.un;show A.units+3+16 * k+200<_;omega⟩
theorem Room.in1 {k:Nat} {A:Around} (r:Room (k+1) A):Room k A.in1 :=
 ⟨r.hd,by have:=r.dp;show A.depth+3 * k+5<_;omega,by have:=r.un;show A.units+1+16 * k+200<_;omega⟩
theorem Room.depth {k:Nat} {A:Around} (r:Room k A):A.depth<recursionLimit:=by have:=r.dp;omega
theorem Room.units {k:Nat} {A:Around} (r:Room k A):A.units+64<cLine:=by have:=r.un;omega
def Zql:TA:=fun _ H Q=>Q [] H
def ZoA (ta:TE) (tr:TA):TA:=fun σ H Q=>ta σ H fun x H1=>tr σ H1 fun xs H2=>Q (x::xs) H2
section
variable {X:Cx} {e:Expr} {es:List Expr} {te:TE} {t:TA} {pos:Pos}
theorem pa_nil:PA X [] Zql:=fun _ _ _ _ H Q I h=>Calls.spliced_nil ⟨[],H,I,.nil,h⟩
theorem ZaO (ha:PE X e te) (hr:PA X es t) (hs:starEach (e::es) X.env=(false,eval e X.env)::starEach es X.env:=by rfl):PA X (e::es) (ZoA te t):=by
 intro pos pins s σ H Q I h
 rw [hs]
 show wpAny _ _ (spliced ((false,eval e X.env)::backTo pos (starEach es X.env))) _ _ s
 refine Calls.spliced_cons (thn (ha pins s σ H _ I h) fun u s1 ⟨x,H1,I1,r1,q1⟩=>?_)
 exact thn (hr pos pins s1 σ H1 _ I1 q1) fun us s2 ⟨xs,H2,I2,r2,q2⟩=>⟨x::xs,H2,I2,.cons r1 r2,q2⟩
def ZtK (t:TA):TE:=fun σ H Q=>t σ H fun xs H1=>xs.length≤sizeLine∧∀ p,H1 p=none→Q (.ref p) (upd H1 p (.tup xs))
def Ztk (t:TA):TE:=fun σ H Q=>t σ H fun xs H1=>xs.length≤sizeLine∧∀ p,H1 p=none→Q (.ref p) (upd H1 p (.lst xs))
theorem ZrW {x1} (h:PA X es t):PE X (.Tuple es x1 pos) (ZtK t):=by
 intro pins s σ H Q I hq
 refine wpAny_Tuple_spliced (thn (h pos pins s σ H _ I hq) fun us s1 ⟨xs,H1,I1,r,z,q⟩=>⟨by rw [← r.length];exact z,?_⟩)
 have hf:H1 s1.heap.objs.size=none:=I1.hok.fresh (Nat.le_refl _)
 refine ⟨.ref s1.heap.objs.size,upd H1 s1.heap.objs.size (.tup xs),I1.laid (t':=s1.toks) (fun b u e=>Heap.get?_push_of_some _ e) (Nat.le_refl _) ?_,rfl,q _ hf⟩
 exact ⟨z,us,r,⟨_,Heap.get?_push_size _ rfl,rfl,_,rfl⟩⟩
theorem Zrh (h:PA X es t):PE X (.List es pos) (Ztk t):=by
 intro pins s σ H Q I hq
 refine wpAny_List_spliced (thn (h pos pins s σ H _ I hq) fun us s1 ⟨xs,H1,I1,r,z,q⟩=>⟨by rw [← r.length];exact z,?_⟩)
 have hf:H1 s1.heap.objs.size=none:=I1.hok.fresh (Nat.le_refl _)
 refine ⟨.ref s1.heap.objs.size,upd H1 s1.heap.objs.size (.lst xs),I1.laid (t':=s1.toks) (fun b u e=>Heap.get?_push_of_some _ e) (Nat.le_refl _) ?_,rfl,q _ hf⟩
 exact ⟨z,us,0,r,Heap.get?_push_size _ rfl⟩
end
abbrev Sp:=List V→Hp→VK→XK→Prop
abbrev CXT:=List Env→Hp→Shared→XK→Value→Shared→Prop
structure Env0 (P:Program) (w:World) (K:PySem.W.Frag) (mg:Str→Option Value) (base:Heap) (A:Around) (outer:List Env) (s:Shared) (H:Hp):Prop where
 frames:A.frames=some outer
 mod:Mod K mg base
 bs:∀ b o,base.get? b=some o→s.heap.get? b=some o∧H b=none
 bsz:base.objs.size≤s.heap.objs.size
 funs:s.heap.FunFrames base outer
 frf:∀ b∈frs outer,H b=none
 hok:HOk P w H s.heap
 bare:AllBare s.gens
def CE (outer:List Env) (P:Program) (w:World) (H:Hp) (s:Shared) (Q:VK) (u:Value) (s':Shared):Prop :=
 ∃ v H',s'.os=s.os∧AllBare s'.gens∧Un (frs outer) [] H H' s.heap s'.heap∧HOk P w H' s'.heap∧RelV v u∧Q v H'
def CR (CX:CXT) (outer:List Env) (P:Program) (w:World) (H:Hp) (s:Shared) (Q:VK) (E:XK) (r:Result) (s':Shared):Prop :=
 match r with
 | .ok (.ret u)=>CE outer P w H s Q u s'
 | .ok _=>False
 | .error e=>CX outer H s E e s'
structure FnOk (P:Program) (w:World) (K:PySem.W.Frag) (mg:Str→Option Value) (base:Heap) (CX:CXT) (k:Nat) (f:Addr) (fd:FuncData) (ps:List Str) (sp:Sp):Prop where
 len:∀ vs H Q E,sp vs H Q E→vs.length=ps.length
 run:∀ (A:Around) (outer:List Env) (s:Shared) (H:Hp) (args:Args) (us:List Value) (vs:List V) (Q:VK) (E:XK),Room k A→Env0 P w K mg base A outer s H→BindsTo s fd args (ps.zip us)→Vals vs us→sp vs H Q E →
  codeAny (model P w) A (.call (.ref f) args) (CR CX outer P w H s Q E) s
theorem FnOk.mono {P:Program} {w:World} {K:PySem.W.Frag} {mg:Str→Option Value} {base:Heap} {CX:CXT} {j k:Nat} {f:Addr} {fd:FuncData} {ps:List Str} {sp:Sp} (F:FnOk P w K mg base CX j f fd ps sp) (h:j≤k) :
  FnOk P w K mg base CX k f fd ps sp:=⟨F.len,fun A outer s H args us vs Q E hr=>F.run A outer s H args us vs Q E (hr.mono h)⟩
theorem FnOk.imp {P:Program} {w:World} {K:PySem.W.Frag} {mg:Str→Option Value} {base:Heap} {CX:CXT} {k:Nat} {f:Addr} {fd:FuncData} {ps:List Str} {sp sp':Sp} (F:FnOk P w K mg base CX k f fd ps sp)
  (h:∀ vs H Q E,sp' vs H Q E→sp vs H Q E):FnOk P w K mg base CX k f fd ps sp' :=
 ⟨fun vs H Q E q=>F.len vs H Q E (h _ _ _ _ q),fun A outer s H args us vs Q E hr he hb hv hs=>F.run A outer s H args us vs Q E hr he hb hv (h _ _ _ _ hs)⟩
theorem Env0.in1 {P:Program} {w:World} {K:PySem.W.Frag} {mg:Str→Option Value} {base:Heap} {A:Around} {outer:List Env} {s:Shared} {H:Hp} (e:Env0 P w K mg base A outer s H) :
  Env0 P w K mg base A.in1 outer s H:=⟨e.frames,e.mod,e.bs,e.bsz,e.funs,e.frf,e.hok,e.bare⟩
section
variable {X:Cx} {pins:List (Addr×Obj)} {σ:St} {H:Hp} {s s':Shared}
theorem Inv.env0 (I:Inv X pins σ H s):Env0 X.prog X.w X.K X.mg X.base X.A X.stack s H :=
 ⟨I.ok.frames,I.ok.mod,I.bs,Nat.le_trans I.ok.bsz I.sz,I.stack,I.stkFree,I.hok,I.bare⟩
theorem Inv.after {Q:VK} {u:Value} (I:Inv X pins σ H s) (h:CE X.stack X.prog X.w H s Q u s'):EP X pins σ Q u s':=by
 obtain ⟨v,H',os,bare,un,hok,r,q⟩:=h
 obtain ⟨hh,g,d,t,os'⟩:=s'
 obtain rfl:os'=s.os:=os
 exact ⟨v,H',I.call (h':=hh) (g':=g) (d':=d) (t':=t) (ch:=[]) un hok bare (fun b z=>absurd z (by simp)),r,q⟩
end
def Zlw (sp:Sp) (dvs:List V) (E:XK) (t:TA):TE:=fun σ H Q=>t σ H fun vs H1=>sp (vs++dvs) H1 Q E
def Binds (K:PySem.W.Frag) (fd:FuncData) (ps:List Str) (ds:List Value):Prop :=
 ∀ (s:Shared) (us:List Value),K.In s.heap→(us++ds).length=ps.length→BindsTo s fd ⟨us,[]⟩ (ps.zip (us++ds))
theorem Binds.all {K:PySem.W.Frag} {fd:FuncData} {ps:List Str} (h:∀ us:List Value,us.length=ps.length→bindArgs fd ⟨us,[]⟩=pure (ps.zip us)):Binds K fd ps []:=fun s us _ hl=>by
 rw [List.append_nil] at hl ⊢
 exact .of_eq (h us hl)
def ZdB (CX:CXT) (X:Cx) (E:XK):Prop:=∀ (pins:List (Addr×Obj)) (σ:St) (H:Hp) (s:Shared) (e:Value) (s':Shared),Inv X pins σ H s→CX X.stack H s E e s'→X.xe e s'
section
variable {X:Cx} {CX:CXT} {k:Nat} {f C:Addr} {fd:FuncData} {ps:List Str} {sp:Sp} {dvs:List V} {ds:List Value} {E:XK} {x m:Str} {p pos apos:Pos} {e o:Expr} {es:List Expr} {ta:TE} {t:TA}
theorem Zse {pins:List (Addr×Obj)} {σ:St} {H:Hp} {s:Shared} {Q:VK} {us:List Value} {vs:List V} (F:FnOk X.prog X.w X.K X.mg X.base CX k f fd ps sp) (hr:Room k X.A) (hb:Binds X.K fd ps ds) (hd:Vals dvs ds) (hx:ZdB CX X E)
  (I:Inv X pins σ H s) (r:Vals vs us) (h:sp (vs++dvs) H Q E):wpAny (model X.prog X.w) X.A (call (.ref f) us) (EP X pins σ Q) X.xe s:=by
 have r2:Vals (vs++dvs) (us++ds):=r.append hd
 have hl:(us++ds).length=ps.length:=by rw [← r2.length];exact F.len _ _ _ _ h
 refine wpAny_call (codeAny_mono (F.run X.A X.stack s H ⟨us,[]⟩ (us++ds) (vs++dvs) Q E hr I.env0 (hb s us I.kIn hl) r2 h) fun r s' hq=>?_)
 cases r with
 | error e=>exact hx pins σ H s e s' I hq
 | ok fl =>
  cases fl with
  | ret u=>exact I.after hq
  | next=>exact False.elim hq
  | brk=>exact False.elim hq
  | cont=>exact False.elim hq
theorem Zkv (F:FnOk X.prog X.w X.K X.mg X.base CX k f fd ps sp) (hr:Room k X.A) (hg:Gl X x) (hm:X.mg x=some (.ref f)) (hk:PySem.W.keepIn X.K (.ref f)=true) (hb:Binds X.K fd ps ds) (hd:Vals dvs ds) (hx:ZdB CX X E)
  (ha:PA X (e::es) t) (hdb:(x==("__debug__":Str))=false:=by decide) (he:starEach (e::es) X.env=(false,eval e X.env)::starEach es X.env:=by rfl) (hpl:(backTo pos (starEach es X.env)).any (·.1)=false:=by rfl) :
  PE X (.Call (.Name x p) (e::es) [] pos) (Zlw sp dvs E t):=by
 intro pins s σ H Q I h
 refine wpAny_Call_Name_kw (Zj8 I hg hm ?_ hdb)
 refine PySem.W.callWith_K (h₀:=X.base) I.ok.mod.kin hk (thn (ha pos pins s σ H _ I h) fun us s1 ⟨vs,H1,I1,r,q⟩=>⟨I1.kIn,?_⟩) he hpl
 exact Zse F hr hb hd hx I1 r q
end
def PK (X:Cx) (kws:List Keyword) (t:TA):Prop :=
 ∀ (pos:Pos) (pins:List (Addr×Obj)) (s:Shared) (σ:St) (H:Hp) (Q:List V→Hp→Prop),Inv X pins σ H s→t σ H Q→wpAny (model X.prog X.w) X.A (evalAll ((backToKw pos (keywordEach kws X.env)).map (·.2))) (AP X pins σ Q) X.xe s
section
variable {X:Cx} {CX:CXT} {k:Nat} {f C:Addr} {fd:FuncData} {ps ks:List Str} {sp:Sp} {E:XK} {x m:Str} {p pos apos kpos:Pos} {e o:Expr} {es:List Expr} {kws:List Keyword} {te ta:TE} {t tk:TA} {nm:Option Str}
theorem Zmm:PK X [] Zql:=fun _ _ _ _ H Q I h=>wpAny_evalAll_nil ⟨[],H,I,.nil,h⟩
theorem Zj7 (ha:PE X e te) (hr:PK X kws t):PK X (⟨nm,e,kpos⟩::kws) (ZoA te t):=by
 intro pos pins s σ H Q I h
 show wpAny _ _ (evalAll ((do let v ← eval e X.env;standAt pos;pure v)::(backToKw pos (keywordEach kws X.env)).map (·.2))) _ _ s
 refine wpAny_evalAll_cons (wpAny_bind (thn (ha pins s σ H _ I h) fun u s1 ⟨x,H1,I1,r1,q1⟩=>wpAny_bind (wpAny_standAt (wpAny_pure ?_))))
 exact thn (hr pos pins s1 σ H1 _ I1 q1) fun us s2 ⟨xs,H2,I2,r2,q2⟩=>⟨x::xs,H2,I2,.cons r1 r2,q2⟩
variable {g:List Value→List Value→List Value} {gV:List V→List V→List V}
end
structure ZA (N P:List Str) (sc:Scope):Prop where
 kind:sc.kind=.function
 co:sc.isCoroutine=false
 gen:sc.isGenerator=false
 nd:N.Nodup
 pre:N.take P.length=P
 par:∀ x∈P,sc.names.lookup x=some .local∨sc.names.lookup x=some .cell
 nofree:∀ y∈sc.names,y.2≠.free
theorem ZhO {kindOf:Str→Option NameKind} {x:Str}:∀ {binds:List (Str×Value)} {m:Str→Option Value},(∀ v,(x,v)∉binds)→bindL kindOf binds m x=m x
 | [],_,_=>rfl
 | (n,v)::r,m,h=>by
  unfold bindL
  rw [ZhO fun w hw=>h w (List.mem_cons_of_mem _ hw)]
  split
  ·have:x≠n:=by rintro rfl;exact h v List.mem_cons_self
   simp [this]
  ·rfl
theorem ZhK {kindOf:Str→Option NameKind} {x:Str}:∀ {binds:List (Str×Value)} {m:Str→Option Value},(∀ v,(x,v)∉binds)→bindC kindOf binds m x=m x
 | [],_,_=>rfl
 | (n,v)::r,m,h=>by
  unfold bindC
  rw [ZhK fun w hw=>h w (List.mem_cons_of_mem _ hw)]
  split
  ·rfl
  ·have:x≠n:=by rintro rfl;exact h v List.mem_cons_self
   simp [this]
theorem ZhR {kindOf:Str→Option NameKind} {x:Str} {v:Value}:∀ {P:List Str} {vs:List Value} {i:Nat} {m:Str→Option Value},P.Nodup→P[i]?=some x→vs[i]?=some v→kindOf x=some .local →
  bindL kindOf (P.zip vs) m x=some v
 | [],_,_,_,_,h,_,_=>by simp at h
 | _::_,[],_,_,_,_,h,_=>by simp at h
 | p::P,w::vs,0,m,nd,h1,h2,hk=>by
  simp at h1 h2;subst h1;subst h2
  show bindL kindOf ((p,w)::P.zip vs) m p=_
  unfold bindL
  rw [ZhO fun v hv=>(List.nodup_cons.mp nd).1 (List.of_mem_zip hv).1,if_pos hk]
  simp
 | p::P,w::vs,i+1,m,nd,h1,h2,hk=>by
  show bindL kindOf ((p,w)::P.zip vs) m x=_
  unfold bindL
  exact ZhR (i:=i) (List.nodup_cons.mp nd).2 (by simpa using h1) (by simpa using h2) hk
theorem ZhG {kindOf:Str→Option NameKind} {x:Str} {v:Value}:∀ {P:List Str} {vs:List Value} {i:Nat} {m:Str→Option Value},P.Nodup→P[i]?=some x→vs[i]?=some v→kindOf x≠some .local →
  bindC kindOf (P.zip vs) m x=some v
 | [],_,_,_,_,h,_,_=>by simp at h
 | _::_,[],_,_,_,_,h,_=>by simp at h
 | p::P,w::vs,0,m,nd,h1,h2,hk=>by
  simp at h1 h2;subst h1;subst h2
  show bindC kindOf ((p,w)::P.zip vs) m p=_
  unfold bindC
  rw [ZhK fun v hv=>(List.nodup_cons.mp nd).1 (List.of_mem_zip hv).1,if_neg hk]
  simp
 | p::P,w::vs,i+1,m,nd,h1,h2,hk=>by
  show bindC kindOf ((p,w)::P.zip vs) m x=_
  unfold bindC
  exact ZhG (i:=i) (List.nodup_cons.mp nd).2 (by simpa using h1) (by simpa using h2) hk
def ZcV (N:List Str) (vs:List V):St:=vs.map some++List.replicate (N.length-vs.length) none
def ZfR (CX:CXT) (P:Program) (w:World) (K:PySem.W.Frag) (mg:Str→Option Value) (base:Heap) (N:List Str) (qual:Str) (scope:Scope) (f:Addr) (cd:Value) (A:Around) (outer:List Env) (s:Shared) (H:Hp) (E:XK):Cx where
 prog:=P
 w:=w
 K:=K
 mg:=mg
 base:=base
 A:=A.deeper (envOfC qual scope s.heap.objs.size f cd)
 N:=N
 s₀:=s
 H₀:=H
 env:=envOfC qual scope s.heap.objs.size f cd
 outer:=outer
 stack:=envOfC qual scope s.heap.objs.size f cd::outer
 ex:=[]
 calm:=true
 fn:=fun _=>true
 pn:=[]
 xe:=fun e s'=>wpAny (model P w) (A.deeper (envOfC qual scope s.heap.objs.size f cd)) (leaving (envOfC qual scope s.heap.objs.size f cd) e) (fun _ s''=>CX outer H s E e s'') (fun e' s''=>CX outer H s E e' s'') s'
theorem Zi6 {sc:Scope} {n:Nat} {x:Str} (h:sc.names.lookup x=some .cell):∃ c,(cellsFrom n sc.names []).lookup x=some c:=by
 have q:=PySem.W.cellsFrom_some sc.names n [] (.inl h)
 exact Option.isSome_iff_exists.mp q
theorem Zma {CX:CXT} {P:Program} {w:World} {K:PySem.W.Frag} {mg:Str→Option Value} {base:Heap} {N ps:List Str} {qual:Str} {scope:Scope} {f:Addr} {cd:Value} {A:Around} {outer:List Env} {s s1:Shared} {H:Hp} {E:XK} {us:List Value} {vs:List V}
  (S:ZA N ps scope) (hd:A.handled=none) (e0:Env0 P w K mg base A outer s H) (hl:vs.length=ps.length) (r:Vals vs us)
  (x:InCallC s s.heap.objs.size (bindL (envOfC qual scope s.heap.objs.size f cd).kindOf (ps.zip us) fun _=>none) (cellsFrom (s.heap.objs.size+1) scope.names []) (bindC (envOfC qual scope s.heap.objs.size f cd).kindOf (ps.zip us) fun _=>none) s1) :
  Inv (ZfR CX P w K mg base N qual scope f cd A outer s H E) [] (ZcV N vs) H s1:=by
 have hpl:ps.length≤N.length:=by have:=congrArg List.length S.pre;rw [List.length_take] at this;omega
 obtain ⟨h1,tk,rfl,hk⟩:=x.done
 have noA:∀ b:Addr,b∉(ZfR CX P w K mg base N qual scope f cd A outer s H E).ex:=fun b z=>absurd (show b∈([]:List Addr) from z) (by simp)
 refine ⟨⟨e0.mod,S.kind,rfl,rfl,Nat.le_refl _,fun y z c h1 h2=>?_,fun y hy=>?_,fun y c _ h=>?_,fun _=>hd,Around.frames_deeper e0.frames,.inr ⟨rfl,rfl⟩,fun b z=>absurd z (noA b),e0.bs,e0.bsz,fun b _ _=>noA b,fun b z=>absurd z (noA b),e0.funs,e0.frf⟩,
  rfl,e0.bare,Un.kept hk,⟨_,x.toInCall.ns,fun i y v h1 h2 h3=>?_⟩,fun y c h=>⟨_,x.cell y c h⟩,e0.hok.fresh (Nat.le_refl _),fun y c h=>?_,fun p hp=>absurd (show p∈([]:List (Addr×Obj)) from hp) (by simp),e0.hok.kept hk,?_⟩
 ·exact name_of_addr x.apart (PySem.mem_of_lookup h1) (PySem.mem_of_lookup h2)
 ·have hy:scope.names.lookup y=some .cell∨scope.names.lookup y=some .free:=hy
  rcases hy with hy | hy
  ·exact Zi6 hy
  ·exact absurd rfl (S.nofree _ (PySem.mem_of_lookup hy))
 ·exact Nat.le_of_lt (x.above y c (PySem.mem_of_lookup h))
 ·have hi:i<vs.length:=by
   unfold ZcV at h2
   by_cases hi:i<vs.length
   ·exact hi
   ·rw [List.getElem?_append_right (by simpa using hi)] at h2
    rw [List.getElem?_replicate] at h2
    split at h2<;>cases h2
  have ha:vs[i]?=some v:=by
   unfold ZcV at h2
   rw [List.getElem?_append_left (by simpa using hi),List.getElem?_map] at h2
   cases e:vs[i]? with
   | none=>rw [e] at h2;cases h2
   | some a=>rw [e] at h2;cases h2;rfl
  obtain ⟨u,hu,rv⟩:=r.get ha
  have hp:ps[i]?=some y:=by
   rw [← S.pre,List.getElem?_take_of_lt (by omega)];exact h1
  have ndP:ps.Nodup:=by rw [← S.pre];exact S.nd.sublist (List.take_sublist _ _)
  refine ⟨u,rv,?_⟩
  rcases S.par y (List.mem_of_getElem? hp) with k | k
  ·exact .inl ⟨k,ZhR ndP hp hu k⟩
  ·obtain ⟨c,e⟩:=Zi6 (n:=s.heap.objs.size+1) k
   refine .inr ⟨.inl k,c,e,?_⟩
   have q:=x.cell y c e
   rw [ZhG ndP hp hu (by show scope.names.lookup y≠_;rw [k];decide)] at q
   exact q
 ·exact e0.hok.fresh (Nat.le_of_lt (x.above y c (PySem.mem_of_lookup h)))
 ·unfold ZcV
  show _=N.length
  rw [List.length_append,List.length_map,List.length_replicate]
  omega
theorem ZsN {CX:CXT} {P:Program} {w:World} {K:PySem.W.Frag} {mg:Str→Option Value} {base:Heap} {k:Nat} {f:Addr} {name qual:Str} {params:Arguments} {body:List Stmt} {scope:Scope} {dV kV doc pm cdv ct oc:Value} {an od:Option Addr}
  {osl:Array (Option Value)} {N ps:List Str} {sp:Sp} (lk:K.lookup f=some ⟨oc,od,.func (PySem.W.fnOf name qual params body scope dV kV doc pm an cdv ct),osl⟩) (hcd:PySem.W.codeIn K cdv qual=true) (S:ZA N ps scope)
  (len:∀ vs H Q E,sp vs H Q E→vs.length=ps.length)
  (hbody:∀ (A:Around) (outer:List Env) (s:Shared) (H:Hp) (vs:List V) (Q:VK) (E:XK),Room k (A.deeper (envOfC qual scope s.heap.objs.size f cdv))→sp vs H Q E →
   ∃ t,PSs (ZfR CX P w K mg base N qual scope f cdv A outer s H E) body t∧t { nx:=fun _ H'=>Q .non H',rt:=Q } (ZcV N vs) H) :
  FnOk P w K mg base CX (k+1) f (PySem.W.fnOf name qual params body scope dV kV doc pm an cdv ct) ps sp:=by
 refine ⟨len,fun A outer s H args us vs Q E hr e0 hb r hsp=>?_⟩
 have hl:=len _ _ _ _ hsp
 have KX:K.In s.heap:=e0.mod.kin.keeps fun b o e=>(e0.bs b o e).1
 have lim:s.heap.NoLimit:=e0.mod.nolimit.keeps fun b o e=>(e0.bs b o e).1
 have hkind:∀ y∈ps.zip us,scope.names.lookup y.1=some .local∨(scope.names.lookup y.1=some .cell∧((cellsFrom (s.heap.objs.size+1) scope.names []).lookup y.1).isSome=true):=fun ⟨n,v⟩ hy=>by
  rcases S.par n (List.of_mem_zip hy).1 with q | q
  ·exact .inl q
  ·exact .inr ⟨q,PySem.W.cellsFrom_some _ _ _ (.inl q)⟩
 refine codeAny_call_function hr.depth (KX _ _ lk) rfl S.co S.gen rfl (PySem.W.codeRec_of KX hcd) (hb _ _ _ _ ?_)
 refine wpAny_newFunctionEnv_cells S.kind hkind fun env he s1 x=>?_
 subst he
 refine ⟨lim.keeps x.toInCall.keep,codeAny_func ?_⟩
 obtain ⟨t,ht,hq⟩:=hbody A outer s H vs Q E (hr.deeper _) hsp
 have I:Inv (ZfR CX P w K mg base N qual scope f cdv A outer s H E) [] (ZcV N vs) H s1:=Zma S hr.hd e0 hl r x
 refine wpAny_mono (ht [] s1 (ZcV N vs) H _ I hq) (fun fl s' hs=>?_) fun e s' hs=>hs
 have fin:∀ {σ':St} {H':Hp} {v:V} {u:Value},Inv (ZfR CX P w K mg base N qual scope f cdv A outer s H E) [] σ' H' s'→RelV v u→Q v H'→CE outer P w H s Q u s' :=
  fun {σ' H' v u} J rv q=>⟨v,H',J.os,J.bare,J.base,J.hok,rv,q⟩
 cases fl with
 | ret u =>
  obtain ⟨v,σ',H',J,rv,q⟩:=hs
  exact fin J rv q
 | next =>
  obtain ⟨σ',H',J,q⟩:=hs
  exact fin (v:=V.non) (u:=Value.none) J rfl q
 | brk =>
  obtain ⟨_,_,_,q⟩:=hs
  exact False.elim q
 | cont =>
  obtain ⟨_,_,_,q⟩:=hs
  exact False.elim q
end L2
namespace L2
open PySem PySem.Spec PyProof.Rows
section
variable {X:Cx} {x:Str} {p pos:Pos} {e:Expr} {es:List Expr} {t:TA} {id T:String} {r:List V→Hp→VK→Prop}
def tCB (r:List V→Hp→VK→Prop) (t:TA):TE:=fun σ H Q=>t σ H fun vs H1=>r vs H1 Q
theorem Zi0 (hc:CallR X (.builtin id) r) (hg:Gl X x) (hm:X.mg x=none) (hv:bootBuiltins x=some (.builtin id)) (ha:PA X (e::es) t) (hn:x≠"__name__":=by decide) (hdb:(x==("__debug__":Str))=false:=by decide)
  (he:starEach (e::es) X.env=(false,eval e X.env)::starEach es X.env:=by rfl) (hpl:(backTo pos (starEach es X.env)).any (·.1)=false:=by rfl):PE X (.Call (.Name x p) (e::es) [] pos) (tCB r t):=by
 intro pins s σ H Q I h
 refine wpAny_Call_Name_kw (ZbR I hg hm hv ?_ hn hdb)
 exact PyProof.Rows.callWith_builtin1 (thn (ha pos pins s σ H _ I h) fun us s1 ⟨vs,H1,I1,r1,q1⟩=>hc pins s1 σ H1 vs us Q I1 r1 q1) he hpl
theorem Zhp (hc:CallR X (.type T) r) (hg:Gl X x) (hm:X.mg x=none) (hv:bootBuiltins x=some (.type T)) (ha:PA X (e::es) t) (hn:x≠"__name__":=by decide) (hdb:(x==("__debug__":Str))=false:=by decide)
  (he:starEach (e::es) X.env=(false,eval e X.env)::starEach es X.env:=by rfl) (hpl:(backTo pos (starEach es X.env)).any (·.1)=false:=by rfl):PE X (.Call (.Name x p) (e::es) [] pos) (tCB r t):=by
 intro pins s σ H Q I h
 refine wpAny_Call_Name_kw (ZbR I hg hm hv ?_ hn hdb)
 exact PyProof.Rows.callWith_type1 (thn (ha pos pins s σ H _ I h) fun us s1 ⟨vs,H1,I1,r1,q1⟩=>hc pins s1 σ H1 vs us Q I1 r1 q1) he hpl
end
end L2
namespace HT
open PySem PyProof.Rows
theorem rcLt_int (A:Around) (s:Shared) (a:Int) (t:Tok) (c:Int) (u:Tok) (prog:Program) (w:World) (E:Value→Shared→Prop) (Q:Value→Shared→Prop) (h:Q (.bool (decide (a<c))) s) :
  wpAny (model prog w) A (richCompare .Lt (.int a t) (.int c u)) Q E s :=
 (PyProof.Rows.lt_int h:wpAny (model prog w) A (compareOp .Lt (.int a t) (.int c u)) Q E s)
section
open PySem.SeqAt
open PySem.AutoSeq1 (wpAny_loadPart')
open PySem.MeetsSeq PySem.MeetsSeq2 PySem.MeetsSeq3
end
section
variable {prog:Program} {w:World} {A:Around} {E:Value→Shared→Prop} {s:Shared}
def sIx (n d:Nat):Option Int→Nat
 | none=>d
 | some v=>if v<0 then (v+(n:Int)).toNat else min v.toNat n
theorem Zqo (n d:Nat) (hd:d≤n) (o:Option Int):sIx n d o≤n:=by
 cases o with
 | none=>exact hd
 | some v =>
  show (if v<0 then (v+(n:Int)).toNat else min v.toNat n)≤n
  by_cases hv:v<0
  ·rw [if_pos hv];omega
  ·rw [if_neg hv];exact Nat.min_le_right _ _
theorem Zks (v:Int) (n d:Nat):(if v<0 then max (v+(n:Int)) 0 else min v (n:Int))=((sIx n d (some v):Nat):Int):=by
 show (if v<0 then max (v+(n:Int)) 0 else min v (n:Int))=(((if v<0 then (v+(n:Int)).toNat else min v.toNat n):Nat):Int)
 by_cases hv:v<0
 ·simp only [if_pos hv];omega
 ·simp only [if_neg hv];omega
theorem Zlc (lo hi:Option Int) (n:Nat):Builtin.Slice.sliceAdjust lo hi 1 (n:Int)=(((sIx n 0 lo:Nat):Int),((sIx n n hi:Nat):Int)):=by
 have h1:¬ ((1:Int)<0):=by omega
 unfold Builtin.Slice.sliceAdjust
 simp only [h1,if_false]
 refine Prod.ext ?_ ?_
 ·cases lo with
  | none=>rfl
  | some v=>exact Zks v n 0
 ·cases hi with
  | none=>rfl
  | some v=>exact Zks v n n
theorem Zle (i j:Nat):Builtin.Slice.slicePlaces (i:Int) (j:Int) 1=j-i:=by
 unfold Builtin.Slice.slicePlaces
 have h1:(1:Int) > 0:=by omega
 simp only [h1,if_true,Int.ediv_one]
 split<;>omega
theorem ZgK {v:Value} {o:Option Int} {Q:Option Int→Shared→Prop} (p:IsPart v o) (h:Q o s):wpAny (model prog w) A (Builtin.Slice.slicePartIndex v) Q E s:=by
 cases p with
 | none=>exact slicePart_none h
 | int i t=>exact slicePart_int h
theorem sliceApplied_gen {sl:Addr} {vl vu:Value} {lo hi:Option Int} {n:Nat} {Q:Int×Int×Nat→Shared→Prop} (hs:s.heap.IsSliceOf sl vl vu .none) (pl:IsPart vl lo) (pu:IsPart vu hi)
  (h:Q (((sIx n 0 lo:Nat):Int),1,sIx n n hi-sIx n 0 lo) s):wpAny (model prog w) A (Builtin.Slice.sliceApplied (.ref sl) (pure (n:Int))) Q E s:=by
 obtain ⟨os,hos,hcs,hds⟩:=id hs
 unfold Builtin.Slice.sliceApplied Builtin.Slice.sliceFields
 refine wpAny_bind (wpAny_bind (wpAny_field hos hds (x:=vl) rfl (wpAny_bind (wpAny_field hos hds (x:=vu) rfl (wpAny_bind (wpAny_field hos hds (x:=.none) rfl (wpAny_pure ?_)))))))
 refine wpAny_bind (slicePart_none ?_)
 show wpAny _ _ (if ((1:Int)==0)=true then _ else _) _ _ s
 rw [if_neg (by decide)]
 refine wpAny_bind (ZgK pl (wpAny_bind (ZgK pu (wpAny_bind (wpAny_pure ?_)))))
 show wpAny _ _ (match Builtin.Slice.sliceAdjust lo hi 1 (n:Int) with | (lo,hi)=>pure (lo,(1:Int),Builtin.Slice.slicePlaces lo hi 1)) _ _ s
 rw [Zlc lo hi n]
 show wpAny _ _ (pure (((sIx n 0 lo:Nat):Int),(1:Int),Builtin.Slice.slicePlaces ((sIx n 0 lo:Nat):Int) ((sIx n n hi:Nat):Int) 1)) _ _ s
 rw [Zle]
 exact wpAny_pure h
theorem Zns (xs:Array Value) (i k:Nat):((List.range k).filterMap fun (m:Nat)=>xs[((i:Int)+(m:Int) * 1).toNat]?).toArray=((xs.toList.drop i).take k).toArray:=by
 have e:(fun (m:Nat)=>xs[((i:Int)+(m:Int) * 1).toNat]?)=fun m=>xs[i+m]?:=by
  funext m
  have:((i:Int)+(m:Int) * 1).toNat=i+m:=by omega
  rw [this]
 rw [e]
 have:=pick_run xs i k
 rw [List.filterMap_map] at this
 have e2:((fun x=>xs[x]?)∘fun x=>i+x)=fun m=>xs[i+m]?:=rfl
 rw [e2] at this
 rw [this]
theorem getItem_tuple_cut {t sl:Addr} {items:Array Value} {vl vu:Value} {lo hi:Option Int} {Q:Value→Shared→Prop} (ht:IsTup s.heap t items) (hs:s.heap.IsSliceOf sl vl vu .none) (pl:IsPart vl lo) (pu:IsPart vu hi)
  (hw:¬ (sIx items.size 0 lo=0∧sIx items.size items.size hi=items.size))
  (h:Q (.ref s.heap.objs.size) { s with heap:=s.heap.push { cls:=.type "tuple",data:=.seq ((items.toList.drop (sIx items.size 0 lo)).take (sIx items.size items.size hi-sIx items.size 0 lo)).toArray } })
  (hsz:items.size≤sizeLine):wpAny (model prog w) A (getItem (.ref t) (.ref sl)) Q E s:=by
 have htake:sizeOk (.seq ((items.toList.drop (sIx items.size 0 lo)).take (sIx items.size items.size hi-sIx items.size 0 lo)).toArray):=by
  show ((items.toList.drop (sIx items.size 0 lo)).take (sIx items.size items.size hi-sIx items.size 0 lo)).toArray.size≤sizeLine
  rw [List.size_toArray,List.length_take,List.length_drop,Array.length_toList]
  omega
 have hj:sIx items.size items.size hi≤items.size:=Zqo _ _ (Nat.le_refl _) hi
 obtain ⟨os,hos,hcs,hds⟩:=id hs
 have hTs:s.TypeIs (.ref sl) "slice":=⟨os,hos,hcs⟩
 unfold getItem
 try with_reducible refine wpAny_holding ?_
 first | refine wpAny_bind (wpAny_pure ?_) | skip
 refine wpAny_bind (wpAny_sequenceKey ht.typeIs (by decide) ?_)
 refine wpAny_bind (wpAny_callSpecial?_slot (name:=Str.ofString "__getitem__") ht.typeIs PyProof.Rows.slot_tuple_getitem
  (wpAny_call_entry PyProof.Rows.slot_tuple_getitem ht.typeIs entry_tuple_getitem ?_ (args_tuple_getitem _ _)))
 show wpAny _ _ (Builtin.Tuple.tupleItemsOf (.ref t) >>= _) _ _ s
 refine wpAny_bind (tupleItemsOf_ ht ?_)
 refine wpAny_bind (wpAny_typeOf hTs ?_)
 rw [if_pos (by decide)]
 refine wpAny_bind (sliceApplied_gen hs pl pu ?_)
 have hno:¬ ((((sIx items.size 0 lo:Nat):Int)==0&&(1:Int)==1&&(sIx items.size items.size hi-sIx items.size 0 lo)==items.size)=true):=by
  intro q
  rw [Bool.and_eq_true,Bool.and_eq_true] at q
  have q1:((sIx items.size 0 lo:Nat):Int)=0:=eq_of_beq q.1.1
  have q2:sIx items.size items.size hi-sIx items.size 0 lo=items.size:=eq_of_beq q.2
  exact hw ⟨by omega,by omega⟩
 show wpAny _ _ (if (((sIx items.size 0 lo:Nat):Int)==0&&(1:Int)==1&&(sIx items.size items.size hi-sIx items.size 0 lo)==items.size)=true then _ else _) _ _ s
 rw [if_neg hno,Zns]
 first
  | exact wpAny_bind (m:=Builtin.Tuple.tupleExact _) (wpAny_newObj_type (wpAny_pure ⟨_,rfl,wpAny_pure h⟩) htake)
  | exact wpAny_bind (m:=Builtin.Tuple.tupleExact _) (wpAny_newObj_type (wpAny_bind (wpAny_pure (wpAny_pure ⟨_,rfl,wpAny_pure h⟩))) htake)
  | exact wpAny_bind (wpAny_bind (m:=Builtin.Tuple.tupleExact _) (wpAny_newObj_type (wpAny_pure (wpAny_pure ⟨_,rfl,wpAny_pure h⟩)) htake))
  | exact wpAny_bind (wpAny_bind (m:=Builtin.Tuple.tupleExact _) (wpAny_newObj_type (wpAny_pure ⟨_,rfl,wpAny_pure h⟩) htake))
end
end HT
namespace L2
open PySem PySem.Spec PyProof.Rows
abbrev TO:=St→Hp→(Option Int→Hp→Prop)→Prop
def PO (X:Cx) (e:Option Expr) (t:TO):Prop :=
 ∀ (pins:List (Addr×Obj)) (s:Shared) (σ:St) (H:Hp) (Q:Option Int→Hp→Prop),Inv X pins σ H s→t σ H Q →
  wpAny (model X.prog X.w) X.A (evalPart e X.env) (fun u s'=>∃ o H',Inv X pins σ H' s'∧IsPart u o∧Q o H') X.xe s
def Zpp:TO:=fun _ H Q=>Q none H
def Zs3 (t:TE):TO:=fun σ H Q=>t σ H fun x H1=>∃ i,x=.int i∧Q (some i) H1
theorem Zdf {ns:List Int}:∀ {us:List Value},Vals (ns.map V.int) us→IntsAre us ns:=by
 induction ns with
 | nil=>intro us r;rw [List.map_nil] at r;cases r;exact .nil
 | cons n ns ih =>
  intro us r
  rw [List.map_cons] at r
  cases r with
  | cons r1 r2 =>
   obtain ⟨t,e⟩:=r1
   subst e
   exact .cons n t (ih r2)
section
variable {X:Cx} {e:Expr} {te:TE} {lo hi:Option Expr} {tl th:TO} {pos p2:Pos}
theorem ZoS:PO X none Zpp:=by
 intro pins s σ H Q I h
 rw [evalPart_none]
 exact wpAny_pure ⟨none,H,I,.none,h⟩
theorem Zpb (h:PE X e te):PO X (some e) (Zs3 te):=by
 intro pins s σ H Q I hw
 rw [evalPart_some]
 refine thn (h pins s σ H _ I hw) fun u s1 ⟨x,H1,I1,r1,q1⟩=>?_
 obtain ⟨i,rfl,q⟩:=q1
 obtain ⟨t,rfl⟩:=r1
 exact ⟨some i,H1,I1,.int i t,q⟩
def SlR (X:Cx) (r:V→Option Int→Option Int→Hp→VK→Prop):Prop :=
 ∀ (pins:List (Addr×Obj)) (s:Shared) (σ:St) (H:Hp) (x:V) (v vl vu:Value) (lo hi:Option Int) (sl:Addr) (Q:VK),Inv X pins σ H s→RelV x v→s.heap.IsSliceOf sl vl vu .none→IsPart vl lo→IsPart vu hi→r x lo hi H Q →
  ∃ T id,typeLookup (.type T) "__getitem__"=pure (some (.builtin id))∧s.TypeIs v T∧wpAny (model X.prog X.w) X.A (getItem v (.ref sl)) (EP X pins σ Q) X.xe s
theorem SlR.or {r r':V→Option Int→Option Int→Hp→VK→Prop} (h:SlR X r) (h':SlR X r'):SlR X (fun x lo hi H Q=>r x lo hi H Q∨r' x lo hi H Q):=by
 intro pins s σ H x v vl vu lo hi sl Q I rx hs pl pu q
 rcases q with q | q
 ·exact h pins s σ H x v vl vu lo hi sl Q I rx hs pl pu q
 ·exact h' pins s σ H x v vl vu lo hi sl Q I rx hs pl pu q
def tSl (r:V→Option Int→Option Int→Hp→VK→Prop) (te:TE) (tl th:TO):TE:=fun σ H Q=>te σ H fun x H1=>tl σ H1 fun l H2=>th σ H2 fun u H3=>r x l u H3 Q
theorem ZnS {r:V→Option Int→Option Int→Hp→VK→Prop} (hr:SlR X r) (he:PE X e te) (hl:PO X lo tl) (hu:PO X hi th):PE X (.Subscript e (.Slice lo hi none p2) pos) (tSl r te tl th):=by
 intro pins s σ H Q I h
 refine Subscript_ (thn (he pins s σ H _ I h) fun v s1 ⟨x,H1,I1,r1,q1⟩=>?_)
 refine wpAny_Slice (thn (hl pins s1 σ H1 _ I1 q1) fun vl s2 ⟨l,H2,I2,pl,q2⟩=>thn (hu pins s2 σ H2 _ I2 q2) fun vu s3 ⟨u,H3,I3,pu,q3⟩=>?_)
 rw [evalPart_none]
 refine wpAny_pure ?_
 have I4:Inv X pins σ H3 { s3 with heap:=s3.heap.push { cls:=.type "slice",data:=.fields #[vl,vu,.none] } }:=I3.kept (t':=s3.toks) fun b ob q=>Heap.get?_push_of_some _ q
 obtain ⟨T,id,hT,ht,hg⟩:=hr pins { s3 with heap:=s3.heap.push { cls:=.type "slice",data:=.fields #[vl,vu,.none] } } σ H3 x v vl vu l u s3.heap.objs.size Q I4 r1 (Heap.IsSliceOf.new ..) pl pu q3
 show wpAny (model X.prog X.w) X.A (subscriptTail e (.Slice lo hi none p2) v (.ref s3.heap.objs.size)) (EP X pins σ Q) X.xe { s3 with heap:=s3.heap.push { cls:=.type "slice",data:=.fields #[vl,vu,.none] } }
 exact tail_any (ops:=[.ref s3.heap.objs.size,v]) ht hT hg (by with_unfolding_all rfl)
def ZdC (xs:List V) (lo hi:Option Int):List V:=(xs.drop (HT.sIx xs.length 0 lo)).take (HT.sIx xs.length xs.length hi-HT.sIx xs.length 0 lo)
theorem Zge (xs:List V) (lo hi:Option Int):(ZdC xs lo hi).length≤xs.length:=by
 unfold ZdC
 rw [List.length_take,List.length_drop]
 omega
def ZtD (K:PySem.W.Frag):V→Option Int→Option Int→Hp→VK→Prop:=fun x lo hi H Q=>∃ a xs,x=.ref a∧SqT K H a xs ∧
 ¬ (HT.sIx xs.length 0 lo=0∧HT.sIx xs.length xs.length hi=xs.length)∧∀ p,H p=none→Q (.ref p) (upd H p (.tup (ZdC xs lo hi)))
theorem Zqz:SlR X (ZtD X.K):=by
 intro pins s σ H x v vl vu lo hi sl Q I rx hs pl pu h
 obtain ⟨a,xs,rfl,hx,hw,q⟩:=h
 cases rx
 obtain ⟨its,r,ht,hz⟩:=I.tuple hx
 have hlen:its.toArray.size=xs.length:=by rw [List.size_toArray];exact r.length.symm
 refine ⟨"tuple",_,PyProof.Rows.slot_tuple_getitem.lookup,ht.typeIs,?_⟩
 refine HT.getItem_tuple_cut ht hs pl pu (by rw [hlen];exact hw) ?_ (by rw [hlen];exact hz)
 rw [hlen]
 refine ⟨.ref s.heap.objs.size,_,I.laid (t':=s.toks) (o:=.tup (ZdC xs lo hi)) (fun b ob q=>Heap.get?_push_of_some _ q) (Nat.le_refl _) ?_,rfl,q _ (I.hok.fresh (Nat.le_refl _))⟩
 exact ⟨Nat.le_trans (Zge xs lo hi) hz,_,(r.drop (HT.sIx xs.length 0 lo)).take (HT.sIx xs.length xs.length hi-HT.sIx xs.length 0 lo),IsTup.new _ _⟩
end
end L2
namespace L2
open PySem PySem.Spec PyProof.Rows
def ixN (n:Nat) (i:Int):Option Nat:=if 0≤i then (if i<n then some i.toNat else none) else if -(n:Int)≤i then some (i+n).toNat else none
def atI {α:Type} (xs:List α) (i:Int):Option α:=(ixN xs.length i).bind fun j=>xs[j]?
theorem ZpA {n:Nat} {i:Int} {j:Nat} (h:ixN n i=some j):seqIndex? i n=some j∧j<n ∧ -(n:Int)≤i∧i<n:=by
 unfold ixN at h
 by_cases h0:0≤i
 ·rw [if_pos h0] at h
  by_cases h1:i<n
  ·rw [if_pos h1] at h
   have e:i.toNat=j:=Option.some.inj h
   exact ⟨by rw [seqIndex_of h0 h1,e],by omega,by omega,h1⟩
  ·rw [if_neg h1] at h;cases h
 ·rw [if_neg h0] at h
  by_cases h1 : -(n:Int)≤i
  ·rw [if_pos h1] at h
   have e:(i+n).toNat=j:=Option.some.inj h
   exact ⟨by rw [seqIndex_neg (by omega) h1,e],by omega,h1,by omega⟩
  ·rw [if_neg h1] at h;cases h
theorem Zg2 {α:Type} {xs:List α} {i:Int} {v:α} (h:atI xs i=some v):∃ j,seqIndex? i xs.length=some j∧xs[j]?=some v∧j<xs.length ∧ -(xs.length:Int)≤i∧i<xs.length:=by
 unfold atI at h
 cases e:ixN xs.length i with
 | none=>rw [e] at h;cases h
 | some j =>
  rw [e] at h
  obtain ⟨h1,h2,h3,h4⟩:=ZpA e
  exact ⟨j,h1,h,h2,h3,h4⟩
theorem Za1 {α:Type} {xs:List α} {j:Nat} {v:α} (h:xs[j]?=some v):atI xs (j:Int)=some v:=by
 have hj:j<xs.length:=(List.getElem?_eq_some_iff.mp h).1
 have e:ixN xs.length (j:Int)=some j:=by
  unfold ixN
  rw [if_pos (by omega),if_pos (by omega)];simp
 unfold atI;rw [e];exact h
theorem ZiO {α:Type} (xs:List α) (v:α):atI (xs++[v]) (-1)=some v:=by
 have hl:(xs++[v]).length=xs.length+1:=by simp
 have e:ixN (xs++[v]).length (-1)=some xs.length:=by
  unfold ixN
  rw [hl,if_neg (by decide),if_pos (by omega)]
  congr 1
  omega
 unfold atI
 rw [e]
 show (xs++[v])[xs.length]?=some v
 simp
def Zds (b:Expr):Prop:=∀ o i,subscripted b false o i=operate [o,i] (getItem o i)
def IxR (X:Cx) (r:R2):Prop :=
 ∀ (value slice:Expr) (pins:List (Addr×Obj)) (s:Shared) (σ:St) (H:Hp) (x y:V) (v u:Value) (Q:VK),Inv X pins σ H s→RelV x v→RelV y u→r x y H Q →
  subscripted slice false v u=operate [v,u] (getItem v u)→wpAny (model X.prog X.w) X.A (subscriptTail value slice v u) (EP X pins σ Q) X.xe s
def MtR (X:Cx) (id:String) (r:V→List V→Hp→VK→Prop):Prop :=
 ∀ (pins:List (Addr×Obj)) (s:Shared) (σ:St) (H:Hp) (x:V) (xs:List V) (v:Value) (us:List Value) (Q:VK),Inv X pins σ H s→RelV x v→Vals xs us→r x xs H Q →
  wpAny (model X.prog X.w) X.A (call (.builtin id) (v::us)) (EP X pins σ Q) X.xe s
section
variable {X:Cx} {a b:Expr} {ta tb:TE} {pos:Pos}
theorem IxR.or {r r':R2} (h:IxR X r) (h':IxR X r'):IxR X (fun x y H Q=>r x y H Q∨r' x y H Q):=by
 intro value slice pins s σ H x y v u Q I rx ry q hs
 rcases q with q | q
 ·exact h value slice pins s σ H x y v u Q I rx ry q hs
 ·exact h' value slice pins s σ H x y v u Q I rx ry q hs
theorem MtR.or {id:String} {r r':V→List V→Hp→VK→Prop} (h:MtR X id r) (h':MtR X id r'):MtR X id (fun x xs H Q=>r x xs H Q∨r' x xs H Q):=by
 intro pins s σ H x xs v us Q I rx rs q
 rcases q with q | q
 ·exact h pins s σ H x xs v us Q I rx rs q
 ·exact h' pins s σ H x xs v us Q I rx rs q
theorem Zs0 {r:R2} (hr:IxR X r) (ha:PE X a ta) (hb:PE X b tb) (hs:Zds b):PE X (.Subscript a b pos) (tOp r ta tb):=by
 intro pins s σ H Q I h
 exact Subscript_ (Zod ha hb I h fun v u s2 x y H2 I2 rx ry q=>hr a b pins s2 σ H2 x y v u Q I2 rx ry q (hs _ _))
def Zrx (K:PySem.W.Frag):R2:=fun x y H Q=>∃ p xs i v,x=.ref p∧y=.int i∧SqL K H p xs∧atI xs i=some v∧Q v H
def Zsg (K:PySem.W.Frag):R2:=fun x y H Q=>∃ p xs i v,x=.ref p∧y=.int i∧SqT K H p xs∧atI xs i=some v∧Q v H
def Zq9:R2:=fun x y H Q=>∃ z i c,x=.str z∧y=.int i∧z.length≤sizeLine∧atI z.cps.toList i=some c∧Q (.str ⟨#[c]⟩) H
theorem ix_list:IxR X (Zrx X.K):=by
 intro value slice pins s σ H x y v u Q I rx ry h hs
 obtain ⟨p,xs,i,z,rfl,rfl,hq,he,q⟩:=h
 cases rx
 obtain ⟨t,rfl⟩:=ry
 obtain ⟨its,r,pl,hz⟩:=I.list hq
 obtain ⟨j,h1,h2,h3,h4,h5⟩:=Zg2 he
 obtain ⟨w,ew,rw'⟩:=r.get h2
 have hl:=r.length
 have hn:=Zfx
 have fin:EP X pins σ Q w s:=⟨z,H,I,rw',q⟩
 by_cases h0:0≤i
 ·have hj:i.toNat=j:=by
   rw [seqIndex_of h0 h5] at h1
   exact Option.some.inj h1
  exact item_listR pl.isList h0 (by omega) (by rw [hj];simpa using ew) fin hs
 ·have hj:(i+(its.toArray.size:Int)).toNat=j:=by
   rw [seqIndex_neg (by omega) h4] at h1
   rw [List.size_toArray,← hl]
   exact Option.some.inj h1
  exact subscriptTail_builtinR (x:=w) pl.isList.typeIs slot_list_getitem.lookup
   (wpAny_getItem_list_neg (Q:=fun r s'=>r=w∧EP X pins σ Q r s') pl.isList (by omega) (by rw [List.size_toArray]<;>omega) (by omega) (by rw [hj];simpa using ew) ⟨rfl,fin⟩) hs
theorem ix_tup:IxR X (Zsg X.K):=by
 intro value slice pins s σ H x y v u Q I rx ry h hs
 obtain ⟨p,xs,i,z,rfl,rfl,hq,he,q⟩:=h
 cases rx
 obtain ⟨t,rfl⟩:=ry
 obtain ⟨its,r,pl,hz⟩:=I.tuple hq
 obtain ⟨j,h1,h2,h3,h4,h5⟩:=Zg2 he
 obtain ⟨w,ew,rw'⟩:=r.get h2
 have hl:=r.length
 have hn:=Zfx
 have fin:EP X pins σ Q w s:=⟨z,H,I,rw',q⟩
 exact subscriptTail_builtinR (x:=w) pl.typeIs slot_tuple_getitem.lookup
  (getItem_tuple (j:=j) (Q:=fun r s'=>r=w∧EP X pins σ Q r s') pl (by omega) (by omega) (by rw [List.size_toArray,← hl];exact h1) (by simpa using ew) ⟨rfl,fin⟩) hs
theorem Zri:IxR X Zq9:=by
 intro value slice pins s σ H x y v u Q I rx ry h hs
 obtain ⟨z,i,c,rfl,rfl,hz,he,q⟩:=h
 obtain ⟨t,rfl⟩:=rx
 obtain ⟨t',rfl⟩:=ry
 obtain ⟨j,h1,h2,h3,h4,h5⟩:=Zg2 he
 have hl:z.cps.toList.length=z.length:=by simp [Str.length]
 rw [hl] at h1 h4 h5
 have hn:=Zfx
 exact tail_any (typeIs_str s z t) slot_str_getitem.lookup (getItem_str (c:=c) (by
  have e1:decide (i < -(2^63:Int))=false:=decide_eq_false (by omega)
  have e2:decide (i≥2^63)=false:=decide_eq_false (by omega)
  rw [e1,e2,Bool.or_false]) (by rw [h1];simpa using h2) ⟨.str ⟨#[c]⟩,H,I.tok _,⟨_,rfl⟩,q⟩) hs
def rIx (K:PySem.W.Frag):R2:=fun x y H Q=>Zrx K x y H Q∨Zsg K x y H Q∨Zq9 x y H Q
theorem Zsj:IxR X (rIx X.K):=ix_list.or (ix_tup.or Zri)
theorem Inv.lst {pins:List (Addr×Obj)} {σ:St} {H:Hp} {s:Shared} {p:Addr} {xs:List V} (I:Inv X pins σ H s) (h:H p=some (.lst xs)) :
  ∃ (its:List Value) (n:Nat),Vals xs its∧s.heap.get? p=some { cls:=.type "list",data:=.seq its.toArray n }∧xs.length≤sizeLine:=by
 obtain ⟨z,its,n,r,e⟩:=I.hok p _ h
 exact ⟨its,n,r,e,z⟩
theorem Zin (lo hi:Option Int) (n:Nat):(sliceBounds lo hi none n).1=((HT.sIx n 0 lo:Nat):Int)∧(sliceBounds lo hi none n).2.1=((HT.sIx n n hi:Nat):Int)∧(sliceBounds lo hi none n).2.2=1:=by
 refine ⟨?_,?_,rfl⟩
 ·cases lo with
  | none=>simp [sliceBounds,HT.sIx]
  | some i =>
   simp only [sliceBounds,HT.sIx,Option.getD_none,show (1:Int) > 0 by decide,if_true]
   by_cases h:i<0
   ·simp only [h,if_true]<;>omega
   ·simp only [h,if_false]<;>omega
 ·cases hi with
  | none=>simp [sliceBounds,HT.sIx]
  | some i =>
   simp only [sliceBounds,HT.sIx,Option.getD_none,show (1:Int) > 0 by decide,if_true]
   by_cases h:i<0
   ·simp only [h,if_true]<;>omega
   ·simp only [h,if_false]<;>omega
theorem Zh4 (its:List Value) (lo hi:Option Int):slicePick its.toArray lo hi none=((its.drop (HT.sIx its.length 0 lo)).take (HT.sIx its.length its.length hi-HT.sIx its.length 0 lo)).toArray:=by
 obtain ⟨h1,h2,h3⟩:=Zin lo hi its.toArray.size
 unfold slicePick
 rw [h1,h2,h3]
 simp only [sliceRange_one,pick_run,List.size_toArray]<;>rfl
def Ztr (K:PySem.W.Frag):V→Option Int→Option Int→Hp→VK→Prop:=fun x lo hi H Q=>∃ a xs,x=.ref a∧SqL K H a xs∧∀ p,H p=none→Q (.ref p) (upd H p (.lst (ZdC xs lo hi)))
theorem sl_list:SlR X (Ztr X.K):=by
 intro pins s σ H x v vl vu lo hi sl Q I rx hs pl pu h
 obtain ⟨a,xs,rfl,hx,q⟩:=h
 cases rx
 obtain ⟨its,r,ht,hz⟩:=I.list hx
 have hlen:=r.length
 refine ⟨"list",_,slot_list_getitem.lookup,ht.isList.typeIs,?_⟩
 refine wpAny_getItem_list_slice ht.isList hs pl pu .none (by simp) ?_ (by rw [List.size_toArray]<;>omega)
 rw [Zh4,← hlen]
 refine ⟨.ref s.heap.objs.size,_,I.laid (t':=s.toks) (o:=.lst (ZdC xs lo hi)) (fun b ob q=>Heap.get?_push_of_some _ q) (Nat.le_refl _) ?_,rfl,q _ (I.hok.fresh (Nat.le_refl _))⟩
 exact ⟨Nat.le_trans (Zge xs lo hi) hz,_,0,(r.drop (HT.sIx xs.length 0 lo)).take (HT.sIx xs.length xs.length hi-HT.sIx xs.length 0 lo),Heap.get?_push_size _ rfl⟩
def Zou:V→Bool
 | .non=>true
 | .bl _=>true
 | .int _=>true
 | .str _=>true
 | _=>false
def eqV:V→V→Bool
 | .non,.non=>true
 | .bl a,.bl b=>a==b
 | .bl a,.int b=>(if a then 1 else 0)==b
 | .int a,.bl b=>a==(if b then 1 else 0)
 | .int a,.int b=>a==b
 | .str a,.str b=>a==b
 | _,_=>false
theorem CallR.or {f:Value} {r r':List V→Hp→VK→Prop} (h:CallR X f r) (h':CallR X f r'):CallR X f (fun xs H Q=>r xs H Q∨r' xs H Q):=by
 intro pins s σ H xs us Q I rs q
 rcases q with q | q
 ·exact h pins s σ H xs us Q I rs q
 ·exact h' pins s σ H xs us Q I rs q
theorem ZfD:CallR X (.type "list") (fun xs H Q=>∃ p ys,xs=[.ref p]∧(SqL X.K H p ys∨SqT X.K H p ys)∧∀ l,H l=none→Q (.ref l) (upd H l (.lst ys))):=by
 intro pins s σ H xs us Q I r h
 obtain ⟨p,ys,rfl,hq,q⟩:=h
 obtain ⟨u,rfl,rx⟩:=ZaK r
 cases rx
 have fin:∀ (its:List Value),Vals ys its→ys.length≤sizeLine→∀ (h':Heap) (c':Nat),(∀ b o',s.heap.get? b=some o'→h'.get? b=some o') →
   h'.get? s.heap.objs.size=some { cls:=.type "list",dict:=none,data:=.seq its.toArray c',slots:=#[] }→EP X pins σ Q (.ref s.heap.objs.size) { s with heap:=h' }:=fun its r' hz h' c' kp e =>
  ⟨.ref s.heap.objs.size,_,I.laid (t':=s.toks) kp (Nat.le_refl _) (show ObjOk X.prog X.w _ h' _ (.lst ys) from ⟨hz,its,c',r',e⟩),rfl,q _ (I.hok.fresh (Nat.le_refl _))⟩
 rcases hq with hq | hq
 ·obtain ⟨its,r',pl,hz⟩:=I.list hq
  have hlen:=r'.length
  obtain ⟨o,ho,hc,n,hd⟩:=pl.isList
  exact call_list_seq p (.inl rfl) ho hc hd (fun h' c' kp e=>fin its r' hz h' c' kp e) (by simp only [List.size_toArray]<;>omega)
 ·obtain ⟨its,r',pl,hz⟩:=I.tuple hq
  have hlen:=r'.length
  obtain ⟨o,ho,hc,n,hd⟩:=pl
  exact call_list_seq p (.inr rfl) ho hc hd (fun h' c' kp e=>fin its r' hz h' c' kp e) (by simp only [List.size_toArray]<;>omega)
theorem Zao:CallR X (.type "tuple") (fun xs H Q=>∃ p ys,xs=[.ref p]∧((SqL X.K H p ys∧∀ l,H l=none→Q (.ref l) (upd H l (.tup ys)))∨(SqT X.K H p ys∧Q (.ref p) H))):=by
 intro pins s σ H xs us Q I r h
 obtain ⟨p,ys,rfl,h⟩:=h
 obtain ⟨u,rfl,rx⟩:=ZaK r
 cases rx
 rcases h with ⟨hq,q⟩ | ⟨hq,q⟩
 ·obtain ⟨its,r',pl,hz⟩:=I.list hq
  have hlen:=r'.length
  refine call_tuple_list pl.isList (fun h' kp=>?_) (by simp only [List.size_toArray]<;>omega)
  have I1:Inv X pins σ H { s with heap:=h' }:=I.kept (t':=s.toks) kp
  have I2:Inv X pins σ (upd H h'.objs.size (.tup ys)) { s with heap:=h'.push { cls:=.type "tuple",data:=.seq its.toArray } } :=
   I1.laid (t':=s.toks) (fun b o e=>Heap.get?_push_of_some _ e) (Nat.le_refl _) (show ObjOk X.prog X.w _ _ _ (.tup ys) from ⟨hz,its,r',IsTup.new _ _⟩)
  exact ⟨.ref h'.objs.size,_,I2,rfl,q _ (I1.hok.fresh (Nat.le_refl _))⟩
 ·obtain ⟨its,r',pl,hz⟩:=I.tuple hq
  exact call_tuple_same pl ⟨.ref p,H,I,rfl,q⟩
def tyV (K:PySem.W.Frag) (T:String) (x:V) (H:Hp):Prop:=match x with
 | .str _=>T="str"
 | .int _=>T="int"
 | .ref p=>(T="list"∧∃ xs,SqL K H p xs)∨(T="tuple"∧∃ o,K.lookup p=some o∧o.cls=.type "tuple"∧o.dict=none) ∨
   (T="dict"∧((∃ kvs,H p=some (.dK kvs))∨(∃ kvs,H p=some (.dT kvs))∨∃ ks vs,Rd H p (.dct ks vs)))∨(T="set"∧∃ S n,H p=some (.set S n))
 | _=>False
theorem ZrU {pins:List (Addr×Obj)} {σ:St} {H:Hp} {s:Shared} {T:String} {x:V} {v:Value} (I:Inv X pins σ H s) (r:RelV x v) (ty:tyV X.K T x H) :
  s.TypeIs v T∧∀ a,v=.ref a→∃ ob,s.heap.get? a=some ob∧ob.dict=none:=by
 cases x with
 | str z =>
  obtain ⟨t,rfl⟩:=r
  cases (show T="str" from ty)
  exact ⟨typeIs_str s z t,fun _ e=>nomatch e⟩
 | int i =>
  obtain ⟨t,rfl⟩:=r
  cases (show T="int" from ty)
  exact ⟨typeIs_int s i t,fun _ e=>nomatch e⟩
 | ref p =>
  cases r
  rcases ty with ⟨rfl,xs,hq⟩ | ⟨rfl,o,hk,hc,hd⟩ | ⟨rfl,hk⟩ | ⟨rfl,S,n,hk⟩
  ·obtain ⟨its,_,pl,_⟩:=I.list hq
   refine ⟨pl.isList.typeIs,fun a e=>?_⟩
   cases e
   obtain ⟨o,n,e,c,hd,_⟩:=pl
   exact ⟨o,e,hd⟩
  ·refine ⟨⟨o,I.kIn p o hk,hc⟩,fun a e=>?_⟩
   cases e
   exact ⟨o,I.kIn _ o hk,hd⟩
  ·have z:∃ o,s.heap.get? p=some o∧o.ExactDict:=by
    rcases hk with ⟨kvs,hk⟩ | ⟨kvs,hk⟩ | ⟨ks,vs,hk⟩
    ·obtain ⟨_,_,_,_,o,_,_,e,ex,_⟩:=I.hok p _ hk
     exact ⟨o,e,ex⟩
    ·obtain ⟨_,_,_,_,o,_,_,e,ex,_⟩:=I.hok p _ hk
     exact ⟨o,e,ex⟩
    ·obtain ⟨_,_,_,o,_,_,e,ex,_⟩:=hk.ok I.hok
     exact ⟨o,e,ex⟩
   obtain ⟨o,e,ex⟩:=z
   refine ⟨⟨o,e,ex.1⟩,fun a e2=>?_⟩
   cases e2
   exact ⟨o,e,ex.2.1⟩
  ·obtain ⟨o,_,_,_,e,ex,_⟩:=I.hok p _ hk
   refine ⟨⟨o,e,ex.1⟩,fun a e2=>?_⟩
   cases e2
   exact ⟨o,e,ex.2.1⟩
 | _=>exact False.elim ty
def tBM (K:PySem.W.Frag) (T:String) (r:V→List V→Hp→VK→Prop) (to:TE) (t:TA):TE:=fun σ H Q=>to σ H fun x H1=>tyV K T x H1∧t σ H1 fun xs H2=>r x xs H2 Q
variable {o e:Expr} {es:List Expr} {to:TE} {t:TA} {name:Str} {apos cpos:Pos} {T id:String} {r:V→List V→Hp→VK→Prop}
theorem Zk7 (pa:PlainAttrs T) (slot:Slot T name id) (hty:typeOf (.builtin id)=pure (.type "method_descriptor")) (hm:MtR X id r) (ho:PE X o to) (ha:PA X (e::es) t)
  (hbase:attributeBase o name X.env (eval o X.env)=eval o X.env:=by rfl)
  (hfew:((backTo cpos (starEach (e::es) X.env)).all (fun x=>!x.1)&&(backToKw cpos (keywordEach [] X.env)).all (fun x=>x.1.isSome)
   && decide ((e::es).length+([]:List Keyword).length+(if ([]:List Keyword).isEmpty then 0 else 1)<30))=true:=by rfl)
  (hline:(apos.endLine==cpos.line)=true:=by rfl) (hs:starEach (e::es) X.env=(false,eval e X.env)::starEach es X.env:=by rfl) (hplain:(backTo cpos (starEach es X.env)).any (·.1)=false:=by rfl) :
  PE X (.Call (.Attribute o name apos) (e::es) [] cpos) (tBM X.K T r to t):=by
 intro pins s σ H Q I h
 refine wpAny_Call_method_late hbase hfew hline rfl (thn (ho pins s σ H _ I h) fun v s1 ⟨x,H1,I1,r1,ty,q1⟩=>?_)
 obtain ⟨h1,h2⟩:=ZrU I1 r1 ty
 refine ⟨T,id,pa,slot,hty,h1,h2,?_⟩
 have hA:=ha cpos pins s1 σ H1 _ I1 q1
 rw [hs] at hA ⊢
 refine Calls.callWith_builtin (by show (false||(backTo cpos (starEach es X.env)).any (·.1))=false;rw [hplain]<;>rfl) (Calls.evalArgs_plain ?_)
 exact thn hA fun us s2 ⟨vs,H2,I2,r2,q2⟩=>hm pins s2 σ H2 x vs v us Q I2 r1 r2 q2
end
end L2
namespace L2
open PySem PySem.Spec PyProof.Rows
def MtM (X:Cx) (id:String) (r:V→List V→Hp→VK→Prop):Prop :=
 ∀ (pins:List (Addr×Obj)) (s:Shared) (σ:St) (H:Hp) (x:V) (xs:List V) (v:Value) (us:List Value) (Q:VK),Inv X pins σ H s→RelV x v→Vals xs us→r x xs H Q →
  wpAny (model X.prog X.w) X.A (call (.builtin id) (v::us)) (EP X pins σ Q) X.xe s
theorem Vals.one:∀ {x:V} {us:List Value},Vals [x] us→∃ u,us=[u]∧RelV x u
 | _,_,.cons r .nil=>⟨_,rfl,r⟩
theorem Vals.two:∀ {x y:V} {us:List Value},Vals [x,y] us→∃ u v,us=[u,v]∧RelV x u∧RelV y v
 | _,_,_,.cons r (.cons q .nil)=>⟨_,_,rfl,r,q⟩
theorem Vals.reverse {xs:List V} {us:List Value} (h:Vals xs us):Vals xs.reverse us.reverse:=by
 induction h with
 | nil=>exact .nil
 | cons r t ih=>rw [List.reverse_cons,List.reverse_cons];exact Vals.append ih (.cons r .nil)
theorem Vals.rep {xs:List V} {us:List Value} (h:Vals xs us):∀ k:Nat,Vals (List.replicate k xs).flatten (List.replicate k us).flatten
 | 0=>.nil
 | k+1=>by
  rw [List.replicate_succ,List.replicate_succ,List.flatten_cons,List.flatten_cons]
  exact Vals.append h (Vals.rep h k)
section
variable {X:Cx} {pins:List (Addr×Obj)} {σ:St} {H:Hp} {s:Shared} {l b:Addr} {xs ys zs:List V}
theorem Inv.lset {its its':List Value} {n:Nat} {f:Array Value→Array Value} {t':Nat} (I:Inv X pins σ H s) (hH:H l=some (.lst xs))
  (e:s.heap.get? l=some { cls:=.type "list",data:=.seq its.toArray n }) (hf:f its.toArray=its'.toArray) (hv:Vals ys its') (hz:ys.length≤sizeLine) :
  Inv X pins σ (upd H l (.lst ys)) { s with heap:=s.heap.update l (Obj.mapSeq f),toks:=t' }:=by
 have q:=PySem.IsL.update e f
 rw [hf] at q
 refine I.write (x:=l) (e:=l) (by rw [hH];exact trivial) (.inl rfl) (fun b' u hb hu=>(Heap.get?_update_other s.heap (Obj.mapSeq f) (Ne.symm hb)).trans hu) ⟨_,q⟩ ?_
 exact ⟨hz,its',_,hv,q⟩
theorem Inv.lnew {its:List Value} {t':Nat} (I:Inv X pins σ H s) (hv:Vals ys its) (hz:ys.length≤sizeLine) :
  Inv X pins σ (upd H s.heap.objs.size (.lst ys)) { s with heap:=s.heap.push { cls:=.type "list",data:=.seq its.toArray },toks:=t' } :=
 I.laid (fun _ _ q=>Heap.get?_push_of_some _ q) (Nat.le_refl _) ⟨hz,its,0,hv,Heap.get?_push_size _ rfl⟩
theorem Inv.fresh (I:Inv X pins σ H s):H s.heap.objs.size=none:=I.hok.fresh (Nat.le_refl _)
theorem Inv.lstM (I:Inv X pins σ H s) (hH:H l=some (.lst xs)):xs.length≤sizeLine∧∃ (its:List Value) (n:Nat),Vals xs its∧xs.length=its.length∧s.heap.get? l=some { cls:=.type "list",data:=.seq its.toArray n }:=by
 obtain ⟨z,its,n,r,e⟩:=I.hok l _ hH
 exact ⟨z,its,n,r,r.length,e⟩
end
section
variable {X:Cx}
def ZpW:V→List V→Hp→VK→Prop:=fun x vs H Q=>∃ l xs y,x=.ref l∧vs=[y]∧H l=some (.lst xs)∧xs.length<sizeLine∧Q .non (upd H l (.lst (xs++[y])))
theorem Zm2:MtM X "list.append" ZpW:=by
 intro pins s σ H x vs v us Q I rx rv h
 obtain ⟨l,xs,y,rfl,rfl,hH,hz,q⟩:=h
 cases rx
 obtain ⟨u,rfl,ru⟩:=rv.one
 obtain ⟨z,its,n,r,hl,e⟩:=I.lstM hH
 refine call_meets F.slot_list_append ⟨_,e,rfl⟩ F.entry_list_append (F.args_list_append_2 _ _) (PySem.list_append l its.toArray n u (by rw [List.size_toArray];omega)) ⟨e,?_⟩
 refine ⟨.non,_,I.lset (its':=its++[u]) hH e (by simp) (r.append (.cons ru .nil)) ?_,rfl,q⟩
 rw [List.length_append,List.length_singleton]
 omega
end
section
variable {prog:Program} {w:World} {A:Around} {E:Value→Shared→Prop} {s:Shared}
set_option maxRecDepth 100000 in
end
section
variable {X:Cx}
end
end L2
namespace Att
open PySem PySem.W PySem.Calls PyProof.Rows
theorem ZgU {P:Params} {h:Heap}:∀ (ns:List Int) (vs:List Value),WellAll P h vs (ns.map WData.int)→IntsAre vs ns:=by
 intro ns
 induction ns with
 | nil =>
  intro vs w
  rw [List.map_nil] at w
  cases w
  exact .nil
 | cons n ns ih =>
  intro vs w
  rw [List.map_cons] at w
  cases w with
  | cons a b =>
   cases a
   exact .cons _ _ (ih _ b)
theorem ZmI {l:OpenLaw} {n:Nat} (hn:l.most=some n) {P:Params} {h:Heap} {args:List WData} {Zw:List Value}
  (hpre:l.row.toRowW.claim.pre args=true) (hwl:WellAll P h Zw args) :
  ∃ a vs ns,Zw=[Value.ref a]∧args=[WData.list (ns.map WData.int)]∧h.get? a=some { cls:=.type "list",data:=.seq vs.toArray }∧IntsAre vs ns∧ns.length≤n:=by
 have hsh:WShape.hasAll [] args [.list .int]=true:=(pre_splitW hpre).1
 have hc:l.pre.holds [] { args:=args }=true:=(pre_splitW hpre).2
 obtain ⟨d,r,rfl,h1,h2⟩:=hasAllW_cons hsh
 obtain rfl:=hasAllW_nil h2
 obtain ⟨xs,rfl,h3⟩:=hasW_list h1
 obtain ⟨ns,rfl⟩:=items_int h3
 have hlen:ns.length≤n:=by
  unfold OpenLaw.pre at hc
  have h4:(WTm.not (.lt (.lit (.int (n:Int))) (.len (.arg 0)))).holds [] { args:=[.list (ns.map .int)] }=true:=by
   have h4:=(holds_andW hc).1
   rw [hn] at h4
   exact h4
  have h5:=condW_of h4 (w_not (w_lt w_lit (w_len_list (w_arg rfl))))
  rw [List.length_map] at h5
  refine Nat.le_of_not_lt fun q=>?_
  have q':(n:Int)<((ns.length:Nat):Int):=by omega
  first
   | (rw [decide_eq_true q'] at h5;exact absurd h5 (by decide))
   | (simp at h5;omega)
 cases hwl with
 | cons w1 w2 =>
  cases w2
  cases w1 with
  | list ho hall=>exact ⟨_,_,ns,rfl,rfl,ho,ZgU ns _ hall,hlen⟩
theorem Zm3 (l:OpenLaw) (args:List WData):l.row.toRowW.claim.post args (.bool true) args=true :=
 postW_of (r:=l.row.toRowW) (X:=(true==true))
  (show WShape.has [] (.bool true) .bool=true by first | rfl | decide | simp [WShape.has,WShape.arms,WShape.armsAll])
  (show (WTm.eq .res (.lit (.bool true))).value [] { args:=args,res:=some (.bool true),after:=args }=some (.bool (true==true)) from w_eq_bool (w_res rfl) w_lit) rfl
theorem attach_call {l:OpenLaw} {n:Nat} {q:Program} {loose:List Str} {XP:(Str→Option Value)→Heap→Prop} {YP:World→Heap→Prop} {d:DefRec}
  (hn:l.most=some n) (hdf:d.params.defaults=[])
  (call:∀ (w:World) (s₀ s₁:Shared) (mg mb:Str→Option Value) (fa:Addr) (o:Obj) (pm cd doc:Value) (a:Addr) (vs:List Value) (ns:List Int),
   Ground q loose [] XP w s₀ mg mb s₁.heap→YP w s₁.heap →
   s₁.heap.get? fa=some o→o.data=.func (docDef d.name d.params d.body d.scope pm cd doc)→s₁.heap.CodeRec cd d.name→mg d.name=some (.ref fa) →
   s₁.heap.get? a=some { cls:=.type "list",data:=.seq vs.toArray }→IntsAre vs ns→ns.length≤n→s₁.gens=#[] →
   codeAny (model l.prog w) callerA (.call (.ref fa) ⟨[.ref a],[]⟩) (fun r s'=>r=.ok (.ret (.bool true))∧OldK s₁.heap s'.heap∧s'.os=s₁.os∧AllBare s'.gens) s₁) :
  WalkO q loose XP YP l.row.toRowW d [] (fun f vs=>PySem.call f vs):=by
 intro w s₀ s₁ mg mb G Y fa o pm cd doc dV kV ho hd hcd hD hmg hg args Zw as hpre hlay hrd hwl hlo
 obtain rfl:dV=.none:=Dflts.none hD hdf
 obtain rfl:kV=.none:=Dflts.noKw hD
 obtain ⟨a,vs,ns,rfl,rfl,hobj,hints,hlen⟩:=ZmI hn hpre hwl
 refine enter_call (codeAny_mono (call w s₀ s₁ mg mb fa o pm cd doc a vs ns G Y ho (fd_plain hd) hcd hmg hobj hints hlen hg) fun r s' hq=>?_)
 obtain ⟨rfl,h2,h3,h4⟩:=hq
 exact ⟨.inl ⟨.bool true,.bool true,[],rfl,fun _=>rfl,.bool true,Zm3 l _,fun _=>⟨List.Pairwise.nil,fun _ hm=>(nomatch hm)⟩⟩,h2,h3,h4⟩
section
variable {prog:Program} {w:World} {A:Around} {E:Value→Shared→Prop} {s:Shared} {K:Frag}
end
end Att
namespace L2
open PySem PySem.Spec PyProof.Rows
theorem ZfV:∀ {vs:List Value} {ns:List Int},IntsAre vs ns→Vals (ns.map V.int) vs
 | _,_,.nil=>.nil
 | _,_,.cons n t h=>.cons ⟨t,rfl⟩ (ZfV h)
def ZnO (H:Hp):Prop:=∀ b,H b=none∨∃ o xs,H b=some (.frz o (.lst xs))
theorem ZnZ {P:Program} {w:World} {K:PySem.W.Frag} {mg mb:Str→Option Value} {CX:CXT} {k:Nat} {fa a:Addr} {fd:FuncData} {x:Str} {sp:Sp} {s₁:Shared} {vs:List Value} {ns:List Int}
  (KX:K.In s₁.heap) (hns:s₁.heap.Ns mainGlobals mg) (hb:s₁.heap.Ns builtinsNs mb) (hbb:∀ x:Str,x≠"__name__"→mb x=bootBuiltins x) (hlim:s₁.heap.NoLimit) (hg:s₁.gens=#[])
  (ha:s₁.heap.get? a=some { cls:=.type "list",data:=.seq vs.toArray }) (hi:IntsAre vs ns) (hl:ns.length≤sizeLine) (hr:Room k callerA)
  (F:∀ base:Heap,K.In base→base.Ns mainGlobals mg→FnOk P w K mg base CX k fa fd [x] sp) (hbind:∀ (s:Shared) (u:Value),BindsTo s fd ⟨[u],[]⟩ [(x,u)])
  (hsp:∀ H:Hp,ZnO H→SqL K H a (ns.map V.int)→sp [.ref a] H (fun v _=>v=.bl true) fun _ _ _=>False)
  (hCX:∀ H e s',CX [] H s₁ (fun _ _ _=>False) e s'→False) :
  codeAny (model P w) callerA (.call (.ref fa) ⟨[.ref a],[]⟩) (fun r s'=>r=.ok (.ret (.bool true))∧OldK s₁.heap s'.heap∧s'.os=s₁.os∧AllBare s'.gens) s₁:=by
 have rv:=ZfV hi
 have lenV:=hi.length
 -- from an abstract heap in which nothing but the script may be tracked
 have core:∀ H:Hp,ZnO H→SqL K H a (ns.map V.int)→HOk P w H s₁.heap→(∀ b,H b≠none→b=a)→(H a≠none→K.lookup a=none) →
   codeAny (model P w) callerA (.call (.ref fa) ⟨[.ref a],[]⟩) (fun r s'=>r=.ok (.ret (.bool true))∧OldK s₁.heap s'.heap∧s'.os=s₁.os∧AllBare s'.gens) s₁:=by
  intro H hO hS hok hA hK
  have base_of:∀ {b:Addr} {o:Obj},s₁.heap.get? b=some o→H b=none→(Zfa s₁.heap H).get? b=some o:=fun e n=>ZnA e n
  have noA:∀ {b:Addr} {o:Obj} {es:Array DictEntry} {ep:Nat},s₁.heap.get? b=some o→o.data=.dict es ep→H b=none:=fun {b o es ep} e d=>by
   cases q:H b with
   | none=>rfl
   | some u =>
    have e':b=a:=hA b (by rw [q];simp)
    subst e'
    rw [ha] at e;cases e
    have d':Data.seq vs.toArray _=Data.dict es ep:=d
    cases d'
  have nsK:∀ {b:Addr} {m:Str→Option Value},s₁.heap.Ns b m→(Zfa s₁.heap H).Ns b m:=fun {b m} ⟨o,es,ep,e,d,r⟩=>⟨o,es,ep,base_of e (noA e d),d,r⟩
  have hKb:K.In (Zfa s₁.heap H):=fun b o e=>base_of (KX b o e) (by
   cases q:H b with
   | none=>rfl
   | some u =>
    have e':b=a:=hA b (by rw [q];simp)
    subst e'
    rw [hK (by rw [q];simp)] at e;cases e)
  have hM:Mod K mg (Zfa s₁.heap H):=⟨hKb,nsK hns,⟨mb,nsK hb,hbb⟩,let ⟨mc,h1,h2⟩:=hlim;⟨mc,nsK h1,h2⟩⟩
  have e0:Env0 P w K mg (Zfa s₁.heap H) callerA [] s₁ H:=⟨rfl,hM,fun b o e=>Zo3 e,Nat.le_of_eq (ZmK _ _),trivial,fun b hb=>absurd (show b∈([]:List Addr) from hb) (by simp),hok,.of_eq hg⟩
  refine codeAny_mono ((F _ hKb (nsK hns)).run callerA [] s₁ H ⟨[.ref a],[]⟩ [.ref a] [.ref a] _ _ hr e0 (hbind s₁ (.ref a)) (.cons rfl .nil) (hsp H hO hS)) fun r s' h=>?_
  cases r with
  | error e=>exact (hCX H e s' h).elim
  | ok fl =>
   cases fl with
   | next=>exact False.elim h
   | brk=>exact False.elim h
   | cont=>exact False.elim h
   | ret u =>
    obtain ⟨v,H',os,bare,un,hok',r',q⟩:=h
    have q':v=.bl true:=q
    subst q'
    obtain rfl:u=Value.bool true:=r'
    refine ⟨rfl,OldK.of_keep fun b o e=>?_,os,bare⟩
    cases q:H b with
    | none=>exact un.keep b o e q (by intro z;exact absurd (show b∈([]:List Addr) from z) (by simp)) (by simp)
    | some u =>
     rcases hO b with z | ⟨ob,xs,z⟩
     ·rw [q] at z;cases z
     ·have z2:=un.frzs b ob _ z
      obtain ⟨e1,_⟩:=hok b _ z
      obtain ⟨e2,_⟩:=hok' b _ z2
      rw [e] at e1;cases e1
      exact e2
 cases hk:K.lookup a with
 | some o =>
  -- the script is one of the module's own objects
  have e:=KX a o hk
  rw [ha] at e
  cases e
  refine core (fun _=>none) (fun _=>.inl rfl) (.inr ⟨_,vs.toArray,_,hk,rfl,rfl,rfl,by rw [List.size_toArray,lenV];exact hl,by simpa using rv⟩) (fun b u z=>by have z':(none:Option HO)=some u:=z;cases z') (fun b z=>absurd rfl z) fun z=>absurd rfl z
 | none =>
  refine core (fun b=>if b=a then some (.frz { cls:=.type "list",data:=.seq vs.toArray } (.lst (ns.map V.int))) else none) (fun b=>?_) (.inl (.inr ⟨{ cls:=.type "list",data:=.seq vs.toArray },if_pos rfl⟩)) (fun b u z=>?_) (fun b z=>?_) fun _=>hk
  ·by_cases hb:b=a
   ·exact .inr ⟨_,_,if_pos hb⟩
   ·exact .inl (if_neg hb)
  ·by_cases hb:b=a
   ·have z':=(if_pos hb).symm.trans z
    cases z'
    subst hb
    exact ⟨ha,by rw [List.length_map];exact hl,vs,_,rv,ha⟩
   ·have z':=(if_neg hb).symm.trans z
    cases z'
  ·by_cases hb:b=a
   ·exact hb
   ·exact absurd (if_neg hb) z
end L2
namespace L2
open PySem PySem.Spec PyProof.Rows
theorem walk_of {l:PySem.W.OpenLaw} {n k:Nat} {q:Program} {loose:List Str} {XP:(Str→Option Value)→Heap→Prop} {YP:World→Heap→Prop} {d:DefRec} {K:Params→PySem.W.Frag} {CX:World→CXT} {sp:World→Sp} {x:Str}
  (hn:l.most=some n) (hn2:n≤sizeLine) (hdf:d.params.defaults=[]) (hr:Room k callerA)
  (hY:∀ (w:World) (h:Heap),YP w h→(K w.params).In h)
  (F:∀ (w:World) (mg:Str→Option Value) (fa:Addr) (h:Heap),(K w.params).In h→h.Ns mainGlobals mg→mg d.name=some (.ref fa) →
   ∃ fd:FuncData,(∀ (s:Shared) (u:Value),BindsTo s fd ⟨[u],[]⟩ [(x,u)]) ∧
    ∀ base:Heap,(K w.params).In base→base.Ns mainGlobals mg→FnOk l.prog w (K w.params) mg base (CX w) k fa fd [x] (sp w))
  (hsp:∀ (w:World) (H:Hp) (a:Addr) (ns:List Int),ns.length≤n→ZnO H→SqL (K w.params) H a (ns.map V.int)→sp w [.ref a] H (fun v _=>v=.bl true) fun _ _ _=>False)
  (hCX:∀ (w:World) (H:Hp) (s:Shared) (e:Value) (s':Shared),CX w [] H s (fun _ _ _=>False) e s'→False) :
  PySem.W.WalkO q loose XP YP l.row.toRowW d [] (fun f vs=>PySem.call f vs):=by
 refine Att.attach_call hn hdf fun w s₀ s₁ mg mb fa o pm cd doc a vs ns G Y ho hd hcd hmg hobj hints hlen hg=>?_
 have KX:=hY w _ Y
 obtain ⟨fd,hb,hF⟩:=F w mg fa _ KX G.T.g hmg
 exact ZnZ KX G.T.g G.T.b G.T.builtins G.T.nolimit hg hobj hints (Nat.le_trans hlen hn2) hr hF hb (fun H hO hS=>hsp w H a ns hlen hO hS) fun H e s'=>hCX w H s₁ e s'
end L2
namespace L2
open PySem PySem.Spec PyProof.Rows
def ZD (s:Stmt):Arguments:=match s with
 | .FunctionDef _ a _ _ _ _ _ _ _ _=>a
 | _=>{ posonlyargs:=[],args:=[],vararg:=none,kwonlyargs:=[],kw_defaults:=[],kwarg:=none,defaults:=[] }
def Zz (s:Stmt):List Stmt:=match s with
 | .FunctionDef _ _ b _ _ _ _ _ _ _=>b
 | _=>[]
def Zg (s:Stmt):Scope:=match s with
 | .FunctionDef _ _ _ _ _ _ sc _ _ _=>sc
 | _=>{ kind:=.function,names:=[],isGenerator:=false,isCoroutine:=false }
abbrev CX0:CXT:=fun _ _ _ _ _ _=>False
abbrev E0:XK:=fun _ _ _=>False
theorem ZP {X:Cx}:ZdB CX0 X E0:=fun _ _ _ _ _ _ _ h=>h.elim
structure Fun (K:PySem.W.Frag) (x qual:Str) (st:Stmt) (f:Addr) (fd:FuncData):Prop where
 ex:∃ (oc:Value) (od:Option Addr) (kV doc pm:Value) (an:Option Addr) (cdv ct:Value) (osl:Array (Option Value)),
  fd=PySem.W.fnOf x qual (ZD st) (Zz st) (Zg st) .none kV doc pm an cdv ct∧K.lookup f=some ⟨oc,od,.func fd,osl⟩∧PySem.W.codeIn K cdv qual=true
 kp:PySem.W.keepIn K (.ref f)=true
section
variable {P:Program} {w:World} {K:PySem.W.Frag} {mg:Str→Option Value} {base:Heap}
theorem Fun.ok {x qual:Str} {st:Stmt} {f:Addr} {fd:FuncData} {N ps:List Str} {k:Nat} {sp:Sp} (F:Fun K x qual st f fd) (S:ZA N ps (Zg st)) (len:∀ vs H Q E,sp vs H Q E→vs.length=ps.length)
  (hbody:∀ (cdv:Value) (A:Around) (outer:List Env) (s:Shared) (H:Hp) (vs:List V) (Q:VK) (E:XK),Room k (A.deeper (envOfC qual (Zg st) s.heap.objs.size f cdv))→sp vs H Q E →
   ∃ t,PSs (ZfR CX0 P w K mg base N qual (Zg st) f cdv A outer s H E).nox (Zz st) t∧t { nx:=fun _ H'=>Q .non H',rt:=Q } (ZcV N vs) H):FnOk P w K mg base CX0 (k+1) f fd ps sp:=by
 obtain ⟨oc,od,kV,doc,pm,an,cdv,ct,osl,rfl,lk,hcd⟩:=F.ex
 refine ZsN lk hcd S len fun A outer s H vs Q E hr hsp=>?_
 obtain ⟨t,h,q⟩:=hbody cdv A outer s H vs Q E hr hsp
 exact ⟨t,h.nox,q⟩
theorem Fun.binds {x qual:Str} {st:Stmt} {f:Addr} {fd:FuncData} {ps:List Str} (F:Fun K x qual st f fd)
  (h:∀ (kV doc pm:Value) (an:Option Addr) (cdv ct:Value) (us:List Value),us.length=ps.length→bindArgs (PySem.W.fnOf x qual (ZD st) (Zz st) (Zg st) .none kV doc pm an cdv ct) ⟨us,[]⟩=pure (ps.zip us)):Binds K fd ps []:=by
 obtain ⟨oc,od,kV,doc,pm,an,cdv,ct,osl,rfl,lk,hcd⟩:=F.ex
 exact .all (h kV doc pm an cdv ct)
theorem ZT {x qual:Str} {st:Stmt} {f:Addr} {oc:Value} {od an:Option Addr} {osl:Array (Option Value)} {kV doc pm cdv ct:Value} (l:K.lookup f=some ⟨oc,od,.func (PySem.W.fnOf x qual (ZD st) (Zz st) (Zg st) .none kV doc pm an cdv ct),osl⟩)
  (c:PySem.W.codeIn K cdv qual=true) (k:PySem.W.keepIn K (.ref f)=true):Fun K x qual st f (PySem.W.fnOf x qual (ZD st) (Zz st) (Zg st) .none kV doc pm an cdv ct):=⟨⟨oc,od,kV,doc,pm,an,cdv,ct,osl,rfl,l,c⟩,k⟩
end
section
variable {X:Cx}
end
def Same (H H':Hp):Prop:=∀ b o,H b=some o→H' b=some o
theorem Same.refl (H:Hp):Same H H:=fun _ _ h=>h
theorem Same.trans {H H1 H2:Hp} (a:Same H H1) (b:Same H1 H2):Same H H2:=fun c o h=>b c o (a c o h)
theorem Same.free {H H':Hp} (e:Same H H') {l:Addr} (h:H' l=Option.none):H l=Option.none:=by
 cases q:H l with
 | none=>rfl
 | some o =>
  rw [e l o q] at h
  cases h
theorem Same.seq {K:PySem.W.Frag} {H H':Hp} {a:Addr} {xs:List V} (e:Same H H') (h:SqL K H a xs):SqL K H' a xs:=by
 rcases h with (h | ⟨o,h⟩) | h
 ·exact .inl (.inl (e _ _ h))
 ·exact .inl (.inr ⟨o,e _ _ h⟩)
 ·exact .inr h
end L2
set_option Elab.async false
set_option linter.all false
set_option maxRecDepth 100000
set_option maxHeartbeats 4000000
namespace L2
open PySem PySem.Spec PyProof.Rows
def Za9 (env:Env):List (Str×NameKind)→List (Str×Addr)→List (Str×Addr)
 | [],cs=>cs
 | (n,k)::r,cs=>if k=NameKind.free then Za9 env r ((n,(env.cells.lookup n).getD 0)::cs) else Za9 env r cs
theorem Zfg {scope:Scope} {env:Env} (h:∀ x∈scope.names,x.2=.free→∃ c,env.cells.lookup x.1=some c) :
  closureFor scope env=pure (Za9 env scope.names []):=by
 have all:∀ (l:List (Str×NameKind)) (cs:List (Str×Addr)),(∀ x∈l,x.2=.free→∃ c,env.cells.lookup x.1=some c) →
   (forIn l cs (fun (x:Str×NameKind) (cs:List (Str×Addr))=>if (x.2==NameKind.free)=true then (do let a ← cellOf env x.1;pure (ForInStep.yield ((x.1,a)::cs))) else pure (ForInStep.yield cs)):Sem (List (Str×Addr)))=pure (Za9 env l cs):=by
  intro l
  induction l with
  | nil=>intro cs _;rfl
  | cons x l ih =>
   intro cs hx
   obtain ⟨n,k⟩:=x
   rw [List.forIn_cons]
   have hr:=fun cs=>ih cs (fun y hy=>hx y (List.mem_cons_of_mem _ hy))
   by_cases hk:k=.free
   ·subst hk
    obtain ⟨c,hc⟩:=hx (n,.free) List.mem_cons_self rfl
    have e:cellOf env n=pure c:=by unfold cellOf;simp only [hc]
    simp only [beq_self_eq_true,if_true,e,pure_bind,hr,Za9,hc,Option.getD_some]
   ·have hb:(k==NameKind.free)=false:=by simpa using hk
    simp only [hb,Bool.false_eq_true,if_false,pure_bind,hr,Za9,hk]
 have:=all scope.names [] h
 simp only [closureFor]
 rw [← bind_pure (pure (Za9 env scope.names []):Sem _),← this]
theorem ZfA {env:Env}:∀ (l:List (Str×NameKind)) (cs:List (Str×Addr)),(∀ x∈l,x.2=.free→∃ c,env.cells.lookup x.1=some c) →
  (∀ p∈cs,env.cells.lookup p.1=some p.2)→∀ p∈Za9 env l cs,env.cells.lookup p.1=some p.2
 | [],cs,_,h=>h
 | (n,k)::r,cs,hx,h=>by
  have hr:∀ x∈r,x.2=.free→∃ c,env.cells.lookup x.1=some c:=fun y hy=>hx y (List.mem_cons_of_mem _ hy)
  by_cases hk:k=.free
  ·subst hk
   obtain ⟨c,hc⟩:=hx (n,.free) List.mem_cons_self rfl
   simp only [Za9,if_true]
   refine ZfA r _ hr fun p hp=>?_
   rcases List.mem_cons.mp hp with e | hp
   ·subst e;simp only [hc,Option.getD_some]
   ·exact h p hp
  ·simp only [Za9,hk,if_false]
   exact ZfA r cs hr h
theorem ZfN {env:Env}:∀ (l:List (Str×NameKind)) (cs:List (Str×Addr)) (x:Str),((x,NameKind.free)∈l∨∃ c,(x,c)∈cs)→∃ c,(x,c)∈Za9 env l cs
 | [],cs,x,h=>by
  rcases h with h | h
  ·cases h
  ·exact h
 | (n,k)::r,cs,x,h=>by
  by_cases hk:k=.free
  ·subst hk
   simp only [Za9,if_true]
   refine ZfN r _ x ?_
   rcases h with h | ⟨c,h⟩
   ·rcases List.mem_cons.mp h with e | h
    ·cases e;exact .inr ⟨_,List.mem_cons_self⟩
    ·exact .inl h
   ·exact .inr ⟨c,List.mem_cons_of_mem _ h⟩
  ·simp only [Za9,hk,if_false]
   refine ZfN r cs x ?_
   rcases h with h | h
   ·rcases List.mem_cons.mp h with e | h
    ·cases e;exact absurd rfl hk
    ·exact .inl h
   ·exact .inr h
theorem ZgO {β:Type}:∀ {l:List (Str×β)} {x:Str} {c:β},(x,c)∈l→∃ d,l.lookup x=some d
 | [],_,_,h=>by cases h
 | (n,b)::r,x,c,h=>by
  rw [List.lookup_cons]
  cases e:x==n with
  | true=>exact ⟨b,rfl⟩
  | false =>
   rcases List.mem_cons.mp h with z | h
   ·cases z;simp at e
   ·exact ZgO h
structure Z2 (own outs:List Str) (sc osc:Scope):Prop where
 kind:sc.kind=.function
 nocell:∀ x∈sc.names,x.2≠.cell
 free:∀ x∈sc.names,x.2=.free→osc.names.lookup x.1=some .cell∨osc.names.lookup x.1=some .free
 loc:∀ x∈sc.names,x.2=.local→sc.names.lookup x.1=some .local
 out:∀ x∈outs,sc.names.lookup x=some .free
 nd:(own++outs).Nodup
theorem relabel_free {env:Env}:∀ {names:List (Str×NameKind)} {x:Str},names.lookup x=some .free →
  ((names.map fun (n,k)=>if (k==NameKind.free&&env.scope.kind==.function&&env.kindOf n==some .cell) then (n,NameKind.cell) else (n,k)).lookup x=some .cell ∨
    (names.map fun (n,k)=>if (k==NameKind.free&&env.scope.kind==.function&&env.kindOf n==some .cell) then (n,NameKind.cell) else (n,k)).lookup x=some .free)
 | [],_,h=>by simp at h
 | (n,k)::r,x,h=>by
  have ih:=@relabel_free env r x
  rw [List.map_cons]
  by_cases hc:(k==NameKind.free&&env.scope.kind==.function&&env.kindOf n==some .cell)=true
  ·rw [show (match ((n,k):Str×NameKind) with | (n,k)=>if (k==NameKind.free&&env.scope.kind==.function&&env.kindOf n==some .cell) then (n,NameKind.cell) else (n,k))=(n,NameKind.cell) from if_pos hc]
   rw [List.lookup_cons] at h ⊢
   cases hx:x==n with
   | true=>exact .inl rfl
   | false=>rw [hx] at h;exact ih h
  ·rw [show (match ((n,k):Str×NameKind) with | (n,k)=>if (k==NameKind.free&&env.scope.kind==.function&&env.kindOf n==some .cell) then (n,NameKind.cell) else (n,k))=(n,k) from if_neg hc]
   rw [List.lookup_cons] at h ⊢
   cases hx:x==n with
   | true=>rw [hx] at h;exact .inr h
   | false=>rw [hx] at h;exact ih h
theorem relabel_mem {env:Env}:∀ {names:List (Str×NameKind)} {x:Str} {k:NameKind},k=.cell∨k=.free→(∀ y∈names,y.2≠.cell) →
  (names.map fun (n,k)=>if (k==NameKind.free&&env.scope.kind==.function&&env.kindOf n==some .cell) then (n,NameKind.cell) else (n,k)).lookup x=some k→(x,NameKind.free)∈names
 | [],_,_,_,_,h=>by simp at h
 | (n,j)::r,x,k,hk,hn,h=>by
  have ih:=@relabel_mem env r x k hk fun y hy=>hn y (List.mem_cons_of_mem _ hy)
  rw [List.map_cons] at h
  by_cases hc:(j==NameKind.free&&env.scope.kind==.function&&env.kindOf n==some .cell)=true
  ·rw [show (match ((n,j):Str×NameKind) with | (n,k)=>if (k==NameKind.free&&env.scope.kind==.function&&env.kindOf n==some .cell) then (n,NameKind.cell) else (n,k))=(n,NameKind.cell) from if_pos hc] at h
   rw [List.lookup_cons] at h
   cases hx:x==n with
   | true =>
    have e:x=n:=by simpa using hx
    have ej:j=.free:=by
     simp only [Bool.and_eq_true,beq_iff_eq] at hc
     exact hc.1.1
    subst e ej
    exact List.mem_cons_self
   | false=>rw [hx] at h;exact List.mem_cons_of_mem _ (ih h)
  ·rw [show (match ((n,j):Str×NameKind) with | (n,k)=>if (k==NameKind.free&&env.scope.kind==.function&&env.kindOf n==some .cell) then (n,NameKind.cell) else (n,k))=(n,j) from if_neg hc] at h
   rw [List.lookup_cons] at h
   cases hx:x==n with
   | true =>
    rw [hx] at h
    have e:x=n:=by simpa using hx
    have ej:j=k:=Option.some.inj h
    subst e ej
    rcases hk with hk | hk
    ·exact absurd hk (hn _ List.mem_cons_self)
    ·subst hk;exact List.mem_cons_self
   | false=>rw [hx] at h;exact List.mem_cons_of_mem _ (ih h)
def cxC (X:Cx) (own outs:List Str) (scope:Scope) (C:Addr) (s2:Shared) (H2:Hp) (fp:List Addr) (pins:List (Addr×Obj)):Cx where
 prog:=X.prog
 w:=X.w
 K:=X.K
 mg:=X.mg
 base:=X.base
 A:=X.A
 N:=own++outs
 s₀:=s2
 H₀:=H2
 env:=compEnvC scope (Za9 X.env scope.names []) C X.env
 outer:=X.stack
 stack:=X.stack
 ex:=fp
 fn:=fun _=>false
 calm:=X.calm
 pn:=X.pn++pins
 xe:=fun _ _=>False
def PFs (X:Cx) (ifs:List Expr) (tt:TT):Prop :=
 ∀ (pins:List (Addr×Obj)) (s:Shared) (σ:St) (H:Hp) (Q:Bool→Hp→Prop),Inv X pins σ H s→tt σ H Q →
  wpAny (model X.prog X.w) X.A (forIn ifs true fun c r=>if r=true then do let ok ← isTrue c X.env (eval c X.env);pure (ForInStep.yield ok) else pure (ForInStep.yield r)) (TP X pins σ Q) X.xe s
def Ztn:TT:=fun _ H Q=>Q true H
theorem Zq7 {X:Cx}:PFs X [] Ztn:=fun _ _ _ H _ I h=>wpAny_tests_nil ⟨H,I,h⟩
def ZaI (k:Nat) (oix:List Nat) (σ:St):St:=List.replicate k none++oix.map fun j=>(σ[j]?).join
def ZmO (k:Nat) (oix:List Nat) (g:TG) (tt:TT) (te:TE) (J:It) (σ:St) (H:Hp) (Q:VK):Prop :=
 ∃ (n:Nat) (W:Nat→List V→Hp→Prop),W 0 [] H∧∀ i ys H2,W i ys H2 →
  (J.stop i H2∧ys.length≤sizeLine∧∀ p,H2 p=none→Q (.ref p) (upd H2 p (.lst ys))) ∨
  (J.go i H2∧i<n∧ys.length<sizeLine∧∃ N:List V→Hp→Prop,(∀ ys' H',N ys' H'→W (i+1) ys' H')∧∀ x H3,J.yld i H2 x H3→g x (ZaI k oix σ) H3 fun σ4 H4=>σ4.drop k=(ZaI k oix σ).drop k ∧
   tt σ4 H4 fun b H5=>if b=true then te σ4 H5 fun y H6=>N (ys++[y]) H6 else N ys H5)
def Zlj (k:Nat) (oix:List Nat) (wi:TI) (g:TG) (tt:TT) (te:TE):TE:=fun σ H Q=>wi σ H fun J H1=>ZmO k oix g tt te J σ H1 Q
def Zce (its:List Value) (n:Nat):Obj:={ cls:=.type "list",data:=.seq its.toArray n }
theorem HOk.track {P:Program} {w:World} {H:Hp} {h:Heap} {a:Addr} {o:HO} (x:HOk P w H h) (hn:H a=none) (new:ObjOk P w (upd H a o) h a o):HOk P w (upd H a o) h:=fun b u e=>by
 by_cases hb:b=a
 ·subst hb;rw [Zam] at e;cases e;exact new
 ·rw [Zs hb] at e
  exact (x b u e).stay (fun c v _ q=>q) (fun c q=>by rw [Zs (Z3 q hn)];exact q) fun c xs q=>by rw [Zs (Z3 q hn)];exact q
theorem ZhT {X:Cx} {pins:List (Addr×Obj)} {σ:St} {H2:Hp} {s2:Shared} {tg elt iter:Expr} {ifs:List Expr} {scope:Scope} {pos:Pos} {J:It} {fp:List Addr} {it:Addr} {tn:Nat→Heap→Prop}
  {own outs:List Str} {oix:List Nat} {g:TG} {tt:TT} {te:TE} {Q:VK} {E:Value→Shared→Prop} {RR:Value→Addr→Result→Shared→Prop}
  (S:Z2 own outs scope X.env.scope) (hox:oix.map (fun j=>X.N[j]?)=outs.map some) (hc:X.calm=true)
  (hg:∀ C s2 H2 fp pins,PG (cxC X own outs scope C s2 H2 fp pins) tg g)
  (ht:∀ C s2 H2 fp pins,PFs (cxC X own outs scope C s2 H2 fp pins) ifs tt)
  (he:∀ C s2 H2 fp pins,PE (cxC X own outs scope C s2 H2 fp pins) elt te)
  (I2:Inv X pins σ H2 s2) (T:Zeh X.prog X.w X.K tg J fp it tn) (st:tn 0 s2.heap) (f2:∀ b∈fp,ZcR X pins H2 b)
  (h:ZmO own.length oix g tt te J σ H2 Q)
  (hRR:∀ (C:Addr) (s':Shared) (m:Str→Option Value) (H':Hp),s'.heap.Ns C m→Inv X pins σ H' s'→H' C=none→C≠X.env.locals→X.s₀.heap.objs.size≤C →
   (∀ x c,X.env.cells.lookup x=some c→c≠C)→(∀ p∈X.pn++pins,p.1≠C)→Q (.ref s2.heap.objs.size) H'→RR (.ref s2.heap.objs.size) C (.ok .next) s') :
  wpAny (model X.prog X.w) X.A (newList []) (fun acc s₃=>wpAny (model X.prog X.w) X.A (newFunctionEnv scope X.env.globals (Za9 X.env scope.names []) [] X.env.qual none .none (some X.env)) (fun cenv s₄ =>
   codeAny (model X.prog X.w) X.A (.compStart (.ListComp elt [⟨tg,iter,ifs,0⟩] scope pos) 0 (.ref it) acc { cenv with scope:=relabel scope X.env }) (RR acc cenv.locals) s₄) E s₃) E s2:=by
 obtain ⟨n,W,w0,turn⟩:=h
 refine wpAny_newObj_type (wpAny_newFunctionEnv S.nocell (by intro y hy;simp at hy) (fun h₁ hns₁ hsb₁=>?_) S.kind)
 dsimp only at hns₁ hsb₁ ⊢
 generalize hP:s2.heap.push { cls:=.type "list",dict:=none,data:=.seq ([]:List Value).toArray }=hp at hns₁ hsb₁ ⊢
 have hC:hp.objs.size=s2.heap.objs.size+1:=by rw [← hP,Heap.size_push]
 generalize hCC:hp.objs.size=C at hns₁ hsb₁ hC ⊢
 have hDC:s2.heap.objs.size≠C:=by rw [hC];exact Nat.ne_of_lt (Nat.lt_succ_self _)
 have hDC':s2.heap.objs.size<C:=by rw [hC];exact Nat.lt_succ_self _
 have old:∀ b o,s2.heap.get? b=some o→h₁.get? b=some o:=fun b o e =>
  hsb₁.extBut b o (Nat.ne_of_lt (Nat.lt_trans (Heap.lt_size e) hDC')) (Heap.get?_push_of_some _ (hP ▸ Heap.get?_push_of_some _ e))
 have hacc:h₁.get? s2.heap.objs.size=some (Zce [] 0):=hsb₁.extBut _ _ hDC (Heap.get?_push_of_some _ (hP ▸ Heap.get?_push_size _ rfl))
 -- the cells of the closure are cells of the frame
 have hcells:∀ x∈scope.names,x.2=.free→∃ c,X.env.cells.lookup x.1=some c:=fun x hx hf=>I2.ok.has x.1 (S.free x hx hf)
 have clX:∀ x c,(Za9 X.env scope.names []).lookup x=some c→X.env.cells.lookup x=some c:=fun x c e =>
  ZfA scope.names [] hcells (fun p hp=>by cases hp) (x,c) (PySem.mem_of_lookup e)
 have clHas:∀ x,(x,NameKind.free)∈scope.names→∃ c,(Za9 X.env scope.names []).lookup x=some c:=fun x hx=>by
  obtain ⟨c,hc⟩:=ZfN (env:=X.env) scope.names [] x (.inl hx)
  exact ZgO hc
 have fpLt:∀ b∈fp,b<s2.heap.objs.size:=fun b hb=>by
  obtain ⟨o,e,_⟩:=T.obj 0 _ st b hb
  exact Heap.lt_size e
 have cLt:∀ x c,X.env.cells.lookup x=some c→c<s2.heap.objs.size:=fun x c e=>by
  obtain ⟨v,q⟩:=I2.cell x c e
  exact q.lt
 have fpStk:∀ b∈fp,b∉frs X.stack:=fun b hb z=>by
  rcases List.mem_cons.mp (I2.stkSub b z) with e | z
  ·exact (f2 b hb).2.1 e
  ·exact (f2 b hb).2.2.1 z
 have pinLt:∀ p∈X.pn++pins,p.1<s2.heap.objs.size:=fun p hp=>Heap.lt_size (I2.pin p hp).1
 have pinStk:∀ p∈X.pn++pins,p.1∉frs X.stack:=fun p hp z=>by
  rcases List.mem_cons.mp (I2.stkSub _ z) with e | z
  ·exact (I2.pin p hp).2.2.1 e
  ·exact (I2.pin p hp).2.2.2.1 z
 have fsLt:∀ b∈frs X.stack,b<s2.heap.objs.size:=fun b hb=>by
  obtain ⟨_,o,ho,_⟩:=I2.stack.mem hb
  exact Heap.lt_size ho
 let Y:Cx:=cxC X own outs scope C s2 H2 fp pins
 have okY:Y.Ok:={
  mod:=I2.ok.mod
  kind:=S.kind
  glob:=I2.ok.glob
  blt:=I2.ok.blt
  above:=Nat.le_of_lt hDC'
  inj:=fun x y c h1 h2=>I2.ok.inj x y c (clX x c h1) (clX y c h2)
  has:=fun x hx=>by
   refine clHas x ?_
   rcases hx with hx | hx
   ·exact relabel_mem (env:=X.env) (.inl rfl) S.nocell hx
   ·exact relabel_mem (env:=X.env) (.inr rfl) S.nocell hx
  cab:=fun x c hf _=>absurd (show false=true from hf) Bool.false_ne_true
  hd:=I2.ok.hd
  frames:=I2.ok.frames
  stk:=.inl rfl
  exf:=fun b hb=>⟨Nat.ne_of_lt (Nat.lt_trans (fpLt b hb) hDC'),fun x c e=>(f2 b hb).2.2.2.2.1 x c (clX x c e)⟩
  bs:=I2.bs
  bsz:=Nat.le_trans I2.ok.bsz I2.sz
  noex:=fun b o e hb=>by
   rcases (f2 b hb).2.2.2.1 with z | z
   ·exact I2.ok.noex b o e z
   ·exact absurd (Nat.lt_of_lt_of_le (Heap.lt_size e) (Nat.le_trans I2.ok.bsz z)) (Nat.lt_irrefl _)
  exfs:=fpStk
  funs:=I2.stack
  frf:=I2.stkFree }
 have hCH:∀ H':Hp,HOk X.prog X.w H' h₁→True:=fun _ _=>trivial
 have lenS:(ZaI own.length oix σ).length=Y.N.length:=by
  have e:=congrArg List.length hox
  simp only [List.length_map] at e
  show (List.replicate own.length none++oix.map _).length=(own++outs).length
  rw [List.length_append,List.length_append,List.length_replicate,List.length_map,e]
 have I4:Inv Y [(s2.heap.objs.size,Zce [] 0)] (ZaI own.length oix σ) H2 { s2 with heap:=h₁ }:={
  ok:=okY
  os:=rfl
  bare:=I2.bare
  base:=Un.kept old
  loc:=by
   refine ⟨_,hns₁,fun i x v e1 e2 e3=>?_⟩
   -- an outer name
   have hi:own.length≤i:=by
    apply Nat.le_of_not_lt
    intro hlt
    unfold ZaI at e2
    rw [List.getElem?_append_left (by rw [List.length_replicate];exact hlt),List.getElem?_replicate] at e2
    rw [if_pos hlt] at e2
    cases e2
   unfold ZaI at e2
   rw [List.getElem?_append_right (by rw [List.length_replicate];exact hi),List.length_replicate,List.getElem?_map] at e2
   have e1':outs[i-own.length]?=some x:=by
    have e1:(own++outs)[i]?=some x:=e1
    rwa [List.getElem?_append_right hi] at e1
   cases ej:oix[i-own.length]? with
   | none=>rw [ej] at e2;cases e2
   | some j =>
    rw [ej] at e2
    have e2':(σ[j]?).join=some v:=Option.some.inj e2
    have e2'':σ[j]?=some (some v):=by
     cases eσ:σ[j]? with
     | none=>rw [eσ] at e2';cases e2'
     | some z=>rw [eσ] at e2';exact congrArg some e2'
    have eN:X.N[j]?=some x:=by
     have q:=congrArg (fun l=>l[i-own.length]?) hox
     simp only [List.getElem?_map,ej,e1',Option.map_some] at q
     exact Option.some.inj q
    have hfree:scope.names.lookup x=some .free:=S.out x (List.mem_of_getElem? e1')
    have hmem:(x,NameKind.free)∈scope.names:=PySem.mem_of_lookup hfree
    have hk:X.env.scope.names.lookup x=some .cell∨X.env.scope.names.lookup x=some .free:=S.free (x,.free) hmem rfl
    obtain ⟨m,hn,hl⟩:=I2.loc
    obtain ⟨u,r,l⟩:=hl j x v eN e2'' (by rcases hk with hk | hk;exact .inr (.inl hk);exact .inr (.inr hk))
    refine ⟨u,r,.inr ⟨relabel_free (env:=X.env) hfree,?_⟩⟩
    obtain ⟨c,ec⟩:=clHas x hmem
    refine ⟨c,ec,?_⟩
    have ec':=clX x c ec
    rcases l with ⟨k,_⟩ | ⟨_,c',e',o,ho,hd⟩
    ·rcases hk with hk | hk
     ·exact absurd (k.symm.trans hk) (by decide)
     ·exact absurd (k.symm.trans hk) (by decide)
    ·rw [ec'] at e'
     cases e'
     exact ⟨o,old _ _ ho,hd⟩
  cell:=fun x c e=>by
   obtain ⟨v,o,ho,hd⟩:=I2.cell x c (clX x c e)
   exact ⟨v,o,old _ _ ho,hd⟩
  free:=I2.hok.fresh (Nat.le_of_lt hDC')
  freeC:=fun x c e=>I2.freeC x c (clX x c e)
  pin:=fun p hp=>by
   rcases List.mem_append.mp hp with hp | hp
   ·obtain ⟨e,n,_,_,d⟩:=I2.pin p hp
    exact ⟨old _ _ e,n,Nat.ne_of_lt (Nat.lt_trans (pinLt p hp) hDC'),pinStk p hp,d⟩
   ·have e:p=(s2.heap.objs.size,Zce [] 0):=by simpa using hp
    subst e
    refine ⟨hacc,I2.hok.fresh (Nat.le_refl _),hDC,fun z=>absurd (fsLt _ z) (Nat.lt_irrefl _),fun v z=>?_⟩
    have z':Data.seq _ _=Data.cell v:=z
    cases z'
  hok:=I2.hok.kept old
  len:=lenS }
 -- what stays of the iterator's records
 have fpY:∀ {H':Hp} {its:List Value} {k:Nat},(∀ b∈fp,H' b=none)→∀ b∈fp,ZcR Y [(s2.heap.objs.size,Zce its k)] H' b:=fun {H' its k} hn b hb=>by
  refine ⟨hn b hb,Nat.ne_of_lt (Nat.lt_trans (fpLt b hb) hDC'),fpStk b hb,.inl hb,fun x c e=>(f2 b hb).2.2.2.2.1 x c (clX x c e),fun p hp=>?_⟩
  rcases List.mem_append.mp hp with hp | hp
  ·exact (f2 b hb).2.2.2.2.2 p hp
  ·have e:p=(s2.heap.objs.size,Zce its k):=by simpa using hp
   subst e
   exact Nat.ne_of_gt (fpLt b hb)
 -- the end
 have fin:∀ (i:Nat) (ys:List V) (its:List Value) (k:Nat) (H':Hp) (s':Shared),Inv Y [(s2.heap.objs.size,Zce its k)] (ZaI own.length oix σ) H' s'→Vals ys its→ys.length≤sizeLine →
   Q (.ref s2.heap.objs.size) (upd H' s2.heap.objs.size (.lst ys))→RR (.ref s2.heap.objs.size) C (.ok .next) s':=fun i ys its k H' s' I' rv hz q=>by
  obtain ⟨m,hn,_⟩:=I'.loc
  obtain ⟨eD,nD,_⟩:=I'.pin (s2.heap.objs.size,Zce its k) (List.mem_append_right _ (by simp))
  have un:Un (frs X.stack) fp H2 H' s2.heap s'.heap:=I'.base
  have neD:∀ b o,s2.heap.get? b=some o→b≠s2.heap.objs.size:=fun b o e=>Nat.ne_of_lt (Heap.lt_size e)
  have neH:∀ b o,H2 b=some o→b≠s2.heap.objs.size:=fun b o e=>Nat.ne_of_lt (I2.hok.lt e)
  have un':Un (frs X.stack) fp H2 (upd H' s2.heap.objs.size (.lst ys)) s2.heap s'.heap :=
   ⟨un.keep,un.slot,fun b o e n hx=>by rw [Zs (neD b o e)];exact un.free b o e n hx,un.there,fun b xs e=>by rw [Zs (neH b _ e)];exact un.tups b xs e,
    fun b o u e=>by rw [Zs (neH b _ e)];exact un.frzs b o u e,fun b ps e=>by rw [Zs (neH b _ e)];exact un.tbls b ps e⟩
  have hok':HOk X.prog X.w (upd H' s2.heap.objs.size (.lst ys)) s'.heap:=HOk.track I'.hok nD ⟨hz,its,k,rv,eD⟩
  have IX:Inv X pins σ (upd H' s2.heap.objs.size (.lst ys)) s':=I2.call' (ch:=fp) I'.os un' hok' I'.bare fun b hb=>⟨(f2 b hb).2.2.2.1,(f2 b hb).2.1,(f2 b hb).2.2.2.2.1,(f2 b hb).2.2.2.2.2⟩
  refine hRR C s' m _ hn IX ?_ ?_ ?_ ?_ ?_ q
  ·rw [Zs (Ne.symm hDC)];exact I'.free
  ·exact Nat.ne_of_gt (Nat.lt_trans I2.lt hDC')
  ·exact Nat.le_trans I2.sz (Nat.le_of_lt hDC')
  ·exact fun x c e=>Nat.ne_of_lt (Nat.lt_trans (cLt x c e) hDC')
  ·exact fun p hp=>Nat.ne_of_lt (Nat.lt_trans (pinLt p hp) hDC')
 have loop:codeAny (model X.prog X.w) X.A (.compLoop (.ListComp elt [⟨tg,iter,ifs,0⟩] scope pos) 0 (.ref it) (.ref s2.heap.objs.size) Y.env) (RR (.ref s2.heap.objs.size) C) { s2 with heap:=h₁ }:=by
  refine codeAny_loop rfl (fun k s'=>∃ (i:Nat) (ys:List V) (its:List Value) (c:Nat) (H':Hp),Inv Y [(s2.heap.objs.size,Zce its c)] (ZaI own.length oix σ) H' s'∧Vals ys its∧tn i s'.heap∧(∀ b∈fp,H' b=none)∧W i ys H'∧k=n-i) (fun k s' hI=>?_) n
   ⟨0,[],[],0,H2,I4,.nil,T.keep 0 _ _ st fun b _ o e=>old b o e,fun b hb=>(f2 b hb).1,w0,rfl⟩
  show wpAny _ X.A ((compTurn (.ListComp elt [⟨tg,iter,ifs,0⟩] scope pos) 0 (.ref it) (.ref s2.heap.objs.size) Y.env).onRaise (fun x=>do noteFrame x Y.env;theTreesLotGoes x)) _ _ s'
  refine wpAny_noted ?_
  rw [compTurn_list]
  obtain ⟨i,ys,its,c,H',I',rv,st',fr',w',ek⟩:=hI
  rcases turn i ys H' w' with ⟨stop,hz,q⟩ | ⟨go,hin,hz,N,hN,step⟩
  ·refine wpAny_bind (wpAny_standAt (wpAny_bind (thn (T.done Y rfl rfl rfl hc i _ s' _ H' _ I' (fpY fr') st' stop) fun r s1 ⟨hr,I1⟩=>?_)))
   subst hr
   obtain ⟨_,nD,_⟩:=I1.pin (s2.heap.objs.size,Zce its c) (List.mem_append_right _ (by simp))
   exact wpAny_pure (fin i ys its c H' s1 I1 rv hz (q _ nD))
  ·refine wpAny_bind (wpAny_standAt (wpAny_bind (thn (T.item Y rfl rfl rfl hc i _ s' _ H' _ I' (fpY fr') st' go) fun r s1 ⟨u,hr,h1⟩=>?_)))
   subst hr
   refine wpAny_bind (thn h1 fun _ s5 ⟨x,H5,I5,r5,y5,st5,fr5⟩=>?_)
   have I5':=I5.pinned (fpY fr5) (T.obj _ _ st5)
   refine wpAny_bind (wpAny_noRaise (thn (hg C s2 H2 fp pins _ s5 _ H5 x u _ I5' r5 (step x H5 y5)) fun _ s6 ⟨σ6,H6,I6,dr6,q6⟩=>?_))
   refine wpAny_bind (wpAny_noRaise (thn (ht C s2 H2 fp pins _ s6 σ6 H6 _ I6 q6) fun ok s7 ⟨H7,I7,q7⟩=>?_))
   -- back to the begin of a turn
   have back:∀ {H8:Hp} {s8:Shared} {its8:List Value} {c8:Nat},Inv Y ([(s2.heap.objs.size,Zce its8 c8)]++ZdI fp s5.heap) σ6 H8 s8 →
     Inv Y [(s2.heap.objs.size,Zce its8 c8)] (ZaI own.length oix σ) H8 s8∧tn (i+1) s8.heap∧∀ b∈fp,H8 b=none:=fun {H8 s8 its8 c8} I8=>by
    refine ⟨I8.unpinned.weak ?_ fun j v e=>?_,T.keep _ _ _ st5 fun b hb o e=>(I8.pin (b,o) (List.mem_append_right _ (List.mem_append_right _ (Zdj hb e)))).1,fun b hb=>?_⟩
    ·exact lenS.trans I8.len.symm
    ·have hj:own.length≤j:=by
      apply Nat.le_of_not_lt
      intro hlt
      unfold ZaI at e
      rw [List.getElem?_append_left (by rw [List.length_replicate];exact hlt),List.getElem?_replicate] at e
      rw [if_pos hlt] at e
      cases e
     have e':=congrArg (fun l=>l[j-own.length]?) dr6
     simp only [List.getElem?_drop] at e'
     rw [show own.length+(j-own.length)=j by omega] at e'
     exact e'.trans e
    ·obtain ⟨o,e,d⟩:=T.obj _ _ st5 b hb
     exact (I8.pin (b,o) (List.mem_append_right _ (List.mem_append_right _ (Zdj hb e)))).2.1
   cases ok with
   | false =>
    obtain ⟨I8,st8,fr8⟩:=back I7
    exact wpAny_pure ⟨rfl,n-(i+1),by omega,i+1,ys,its,c,H7,I8,rv,st8,fr8,hN _ _ q7,rfl⟩
   | true =>
    refine wpAny_bind (wpAny_bind (wpAny_noRaise (thn (he C s2 H2 fp pins _ s7 σ6 H7 _ I7 q7) fun y s8 ⟨z,H8,I8,r8,w8⟩=>?_)))
    obtain ⟨eD,nD,neL,nF,dD⟩:=I8.pin (s2.heap.objs.size,Zce its c) (List.mem_append_right _ (List.mem_append_left _ (by simp)))
    have hl:=rv.length
    refine wpAny_bind (call_meets F.slot_list_append ⟨_,eD,rfl⟩ F.entry_list_append (F.args_list_append_2 _ _) (PySem.list_append _ its.toArray c y (by rw [List.size_toArray];omega)) ⟨eD,?_⟩)
    obtain ⟨n',q⟩:∃ n',(s8.heap.update s2.heap.objs.size (Obj.mapSeq (·.push y))).get? s2.heap.objs.size=some (Zce (its++[y]) n'):=by
     have q:=PySem.IsL.update eD (·.push y)
     rw [show its.toArray.push y=(its++[y]).toArray by simp] at q
     exact ⟨_,q⟩
    have I9:Inv Y (ZdI fp s5.heap) σ6 H8 { s8 with heap:=s8.heap.update s2.heap.objs.size (Obj.mapSeq (·.push y)) } :=
     (I8.pins_of fun p hp=>I8.pin p (List.mem_append_right _ (List.mem_append_right _ hp))).turned (t':=s8.toks) (it:=s2.heap.objs.size) (fun b o hb e=>(Heap.get?_update_other _ _ (Ne.symm hb)).trans e) nD hDC (.inr (Nat.le_refl _))
      (fun x c' e=>Nat.ne_of_lt (cLt x c' (clX x c' e))) fun p hp=>by
       rcases List.mem_append.mp hp with hp | hp
       ·exact Nat.ne_of_lt (pinLt p hp)
       ·exact Nat.ne_of_lt (fpLt _ (ZhI hp).1)
    have I10:Inv Y ([(s2.heap.objs.size,Zce (its++[y]) n')]++ZdI fp s5.heap) σ6 H8 { s8 with heap:=s8.heap.update s2.heap.objs.size (Obj.mapSeq (·.push y)) }:=I9.pins_of fun p hp=>by
     rcases List.mem_append.mp hp with hp | hp
     ·have e:p=(s2.heap.objs.size,Zce (its++[y]) n'):=by simpa using hp
      subst e
      exact ⟨q,nD,neL,nF,fun v z=>by
       have z':Data.seq _ _=Data.cell v:=z
       cases z'⟩
     ·exact I9.pin p (List.mem_append_right _ hp)
    obtain ⟨I11,st11,fr11⟩:=back I10
    exact wpAny_pure (wpAny_pure ⟨rfl,n-(i+1),by omega,i+1,ys++[z],its++[y],_,H8,I11,rv.append (.cons r8 .nil),st11,fr11,hN _ _ w8,rfl⟩)
 exact codeAny_compStart_list loop (T.self _ 0 _ _ _ (T.keep 0 _ _ st fun b _ o e=>old b o e) loop)
section
variable {X:Cx} {tg elt iter:Expr} {ifs:List Expr} {scope:Scope} {pos:Pos} {oix:List Nat} {wi:TI} {g:TG} {tt:TT} {te:TE}
theorem ZoK (own outs:List Str) (oix:List Nat) (S:Z2 own outs scope X.env.scope) (hox:oix.map (fun j=>X.N[j]?)=outs.map some) (hc:X.calm=true) (hi:PI X tg iter wi)
  (hg:∀ C s2 H2 fp pins,PG (cxC X own outs scope C s2 H2 fp pins) tg g)
  (ht:∀ C s2 H2 fp pins,PFs (cxC X own outs scope C s2 H2 fp pins) ifs tt)
  (he:∀ C s2 H2 fp pins,PE (cxC X own outs scope C s2 H2 fp pins) elt te)
  (hs:∀ x,foldedSetIterable iter X.env x=pure x:=by intro _;rfl) :
  PE X (.ListComp elt [⟨tg,iter,ifs,0⟩] scope pos) (Zlj own.length oix wi g tt te):=by
 intro pins s σ H Q I h
 rw [eval_ListComp]
 refine wpAny_comprehension_free (use:=none) rfl hs (Zfg fun x hx hf=>I.ok.has x.1 (S.free x hx hf)) S.kind S.loc (thn (hi pins s σ H _ I h) fun xv s₁ h₁=>thn h₁ fun itv s₂ h₂=>?_)
 obtain ⟨it,fp,tn,J,H2,e,I2,T,st2,f2,turns⟩:=h₂
 subst e
 refine ZhT (RR:=fun acc C=>compPost (model X.prog X.w) X.A X.xe none (EP X pins σ Q) acc C) S hox hc hg ht he I2 T st2 f2 turns ?_
 intro C s' m H' hn I' hC hL h0 hcell hpin q
 exact ⟨m,hn,fun h' hs'=>⟨.ref _,H',I'.turned (h':=h') (t':=s'.toks) (it:=C) (fun b o hb e=>hs'.extBut b o hb e) hC hL (.inr h0) hcell hpin,rfl,q⟩⟩
theorem Zlr (own outs:List Str) (oix:List Nat) {i:Nat} {x:Str} {pos' spos:Pos} (S:Z2 own outs scope X.env.scope) (hox:oix.map (fun j=>X.N[j]?)=outs.map some) (hc:X.calm=true)
  (hN:X.N.Nodup) (hix:X.N[i]?=some x) (hx:X.env.scope.names.lookup x=some .local) (hi:PI X tg iter wi)
  (hg:∀ C s2 H2 fp pins,PG (cxC X own outs scope C s2 H2 fp pins) tg g)
  (ht:∀ C s2 H2 fp pins,PFs (cxC X own outs scope C s2 H2 fp pins) ifs tt)
  (he:∀ C s2 H2 fp pins,PE (cxC X own outs scope C s2 H2 fp pins) elt te)
  (hsw:swapsWith (.ListComp elt [⟨tg,iter,ifs,0⟩] scope pos) (some (.Name x pos')) spos.line X.env=pure true:=by rfl)
  (hs:∀ x,foldedSetIterable iter X.env x=pure x:=by intro _;rfl) :
  PS X (.Assign [.Name x pos'] (.ListComp elt [⟨tg,iter,ifs,0⟩] scope pos) spos) (Zg7 (Zlj own.length oix wi g tt te) (ZeW i)):=by
 intro pins s σ H D I h
 rw [exec_Assign_Name_used _ _ _ _ hsw]
 refine wpAny_bind (wpAny_standAt (wpAny_bind ?_))
 show wpAny _ X.A (do let _ ← comprehension (.ListComp elt [⟨tg,iter,ifs,0⟩] scope pos) scope X.env _ (newList []) false (eval iter X.env) (some (assign (.Name x pos') X.env))) _ _ s
 refine wpAny_bind (wpAny_mono (wpAny_comprehension_free (use:=some (assign (.Name x pos') X.env)) (Q:=fun _ s'=>SP X pins D .next s') rfl hs (Zfg fun y hy hf=>I.ok.has y.1 (S.free y hy hf)) S.kind S.loc
  (thn (hi pins s σ H _ I h) fun xv s₁ h₁=>thn h₁ fun itv s₂ h₂=>?_)) (fun _ s' hq=>wpAny_pure (wpAny_pure hq)) fun _ _ e=>e)
 obtain ⟨it,fp,tn,J,H2,e,I2,T,st2,f2,turns⟩:=h₂
 subst e
 refine ZhT (RR:=fun acc C=>compPost (model X.prog X.w) X.A X.xe (some (assign (.Name x pos') X.env)) (fun _ s'=>SP X pins D .next s') acc C) S hox hc hg ht he I2 T st2 f2 turns ?_
 intro C s' m H' hn I' hC hL h0 hcell hpin q
 show wpAny _ X.A (assign (.Name x pos') X.env (.ref s₂.heap.objs.size)) _ _ s'
 refine wpAny_assign_Name (ZhH (v:=.ref s₂.heap.objs.size) I' hN hix (.inl hx) rfl (fun s'' I'' hsb=>?_) (.inr hx))
 obtain ⟨a,hsb,ha⟩:=hsb
 have hCa:C≠a:=by
  rcases ha with e | e
  ·rw [e];exact hL
  ·exact Ne.symm (hcell _ _ e)
 exact ⟨m,hn.sameBut hsb hCa,fun h' hs'=>⟨_,H',I''.turned (h':=h') (t':=s''.toks) (it:=C) (fun b o hb e=>hs'.extBut b o hb e) hC hL (.inr h0) hcell hpin,q⟩⟩
end
section
variable {K:PySem.W.Frag} {k:Nat} {oix:List Nat} {g:TG} {tt:TT} {te:TE} {σ:St} {H:Hp} {Q:VK}
end
def Its (x:Str):It:=⟨fun i _=>i<x.cps.size,fun i H v H'=>H'=H∧∃ c,x.cps[i]?=some c∧v=.str ⟨#[c]⟩,fun i _=>x.cps.size≤i⟩
theorem Zlq {P:Program} {w:World} {K:PySem.W.Frag} {tg:Expr} (it:Addr) (x:Str) (t:Tok):Zeh P w K tg (Its x) [it] it (fun i h=>h.IsStrIter it "str_ascii_iterator" x t i) where
 mem:=by simp
 obj:=fun i h st b hb=>by
  have e:b=it:=by simpa using hb
  subst e
  obtain ⟨o,e,c,d⟩:=st
  exact ⟨o,e,fun v z=>by rw [d] at z;cases z⟩
 keep:=fun i h h' st k=>by
  obtain ⟨o,e,r⟩:=st
  exact ⟨o,k it (by simp) o e,r⟩
 item:=by
  intro X hP hw hK hc i pins s σ H E I hf st hg
  subst hP hw hK
  obtain ⟨f0,f1,f2,f3,f4,f5⟩:=hf it (by simp)
  have hg':i<x.cps.size:=hg
  refine wpAny_pyNext_ascii_item st (c:=x.cps[i]) (by simp [hg']) fun h' st' sb=>?_
  have I1:Inv X pins σ H { s with heap:=h',toks:=s.toks+1 }:=I.turned (t':=s.toks+1) (fun b o hb e=>(sb.2 b hb).trans e) f0 f1 f3 f4 f5
  obtain ⟨o,e,c,d⟩:=id st'
  exact ⟨_,rfl,ZgG (s:={ s with heap:=h',toks:=s.toks+1 }) e c d (by decide) ⟨.str ⟨#[x.cps[i]]⟩,H,I1,⟨_,rfl⟩,⟨rfl,_,by simp [hg'],rfl⟩,st',fun b hb=>(hf b hb).1⟩⟩
 done:=by
  intro X hP hw hK hc i pins s σ H E I hf st hg
  subst hP hw hK
  obtain ⟨f0,f1,f2,f3,f4,f5⟩:=hf it (by simp)
  have hg':x.cps.size≤i:=hg
  exact wpAny_pyNext_ascii_end (I.ok.hd hc) st (by simp [hg']) fun h' eb=>⟨rfl,I.turned (t':=s.toks) (fun b o hb e=>eb b o hb e) f0 f1 f3 f4 f5⟩
 self:=fun _ _ _ _ _ st h=>wpAny_pyIter_striter_ascii st h
theorem ZmE {P:Program} {w:World} {K:PySem.W.Frag} {tg:Expr} (it:Addr) (x:Str) (t:Tok):Zeh P w K tg (Its x) [it] it (fun i h=>h.IsStrIter it "str_iterator" x t i) where
 mem:=by simp
 obj:=fun i h st b hb=>by
  have e:b=it:=by simpa using hb
  subst e
  obtain ⟨o,e,c,d⟩:=st
  exact ⟨o,e,fun v z=>by rw [d] at z;cases z⟩
 keep:=fun i h h' st k=>by
  obtain ⟨o,e,r⟩:=st
  exact ⟨o,k it (by simp) o e,r⟩
 item:=by
  intro X hP hw hK hc i pins s σ H E I hf st hg
  subst hP hw hK
  obtain ⟨f0,f1,f2,f3,f4,f5⟩:=hf it (by simp)
  have hg':i<x.cps.size:=hg
  refine wpAny_pyNext_wide_item st (c:=x.cps[i]) (by simp [hg']) fun h' st' sb=>?_
  have I1:Inv X pins σ H { s with heap:=h',toks:=s.toks+1 }:=I.turned (t':=s.toks+1) (fun b o hb e=>(sb.2 b hb).trans e) f0 f1 f3 f4 f5
  obtain ⟨o,e,c,d⟩:=id st'
  exact ⟨_,rfl,ZgG (s:={ s with heap:=h',toks:=s.toks+1 }) e c d (by decide) ⟨.str ⟨#[x.cps[i]]⟩,H,I1,⟨_,rfl⟩,⟨rfl,_,by simp [hg'],rfl⟩,st',fun b hb=>(hf b hb).1⟩⟩
 done:=by
  intro X hP hw hK hc i pins s σ H E I hf st hg
  subst hP hw hK
  obtain ⟨f0,f1,f2,f3,f4,f5⟩:=hf it (by simp)
  have hg':x.cps.size≤i:=hg
  exact wpAny_pyNext_wide_end (I.ok.hd hc) st (by simp [hg']) fun h' eb=>⟨rfl,I.turned (t':=s.toks) (fun b o hb e=>eb b o hb e) f0 f1 f3 f4 f5⟩
 self:=fun _ _ _ _ _ st h=>wpAny_pyIter_striter_wide st h
section
variable {X:Cx} {tg:Expr}
def ZtN (tl:TE):TI:=fun σ H R=>tl σ H fun v H1=>∃ x,v=.str x∧R (Its x) H1
theorem Zqp {l:Expr} {tl:TE} (hl:PE X l tl):PI X tg l (ZtN tl):=by
 intro pins s σ H R I h
 refine thn (hl pins s σ H _ I h) fun v s1 ⟨y,H1,I1,r1,q1⟩=>?_
 obtain ⟨x,e,q⟩:=q1
 subst e
 obtain ⟨t,rfl⟩:=r1
 have fp:∀ {o:Obj} (b:Addr),b∈[s1.heap.objs.size]→ZcR X pins H1 b:=fun {o} b hb=>by
  have e:b=s1.heap.objs.size:=by simpa using hb
  subst e
  exact I1.fpOk (Nat.le_refl _) (I1.hok.fresh (Nat.le_refl _))
 cases ha:x.cps.all (·<128)
 ·exact wpAny_pyIter_wide ha ⟨s1.heap.objs.size,[s1.heap.objs.size],_,_,H1,rfl,I1.kept (t':=s1.toks) fun b o e=>Heap.get?_push_of_some _ e,ZmE _ x t,⟨_,Heap.get?_push_size _ rfl,rfl,rfl⟩,fp (o:=default),q⟩
 ·exact wpAny_pyIter_ascii ha ⟨s1.heap.objs.size,[s1.heap.objs.size],_,_,H1,rfl,I1.kept (t':=s1.toks) fun b o e=>Heap.get?_push_of_some _ e,Zlq _ x t,⟨_,Heap.get?_push_size _ rfl,rfl,rfl⟩,fp (o:=default),q⟩
end
end L2
set_option Elab.async false
set_option linter.all false
set_option maxRecDepth 100000
set_option maxHeartbeats 4000000
namespace L2
open PySem PySem.Spec PyProof.Rows
section
variable {X:Cx}
end
section
variable {X:Cx}
def ZtP:V→Option Int→Option Int→Hp→VK→Prop:=fun x lo hi H Q=>∃ z,x=.str z∧z.length≤sizeLine∧Q (.str (Txt.slice z lo hi)) H
theorem ZqZ:SlR X ZtP:=by
 intro pins s σ H x v vl vu lo hi sl Q I rx hs pl pu h
 obtain ⟨z,rfl,hz,q⟩:=h
 obtain ⟨t,rfl⟩:=rx
 refine ⟨"str",_,PySem.F.slot_str_getitem.lookup,typeIs_str s z t,?_⟩
 cases pl with
 | none =>
  cases pu with
  | none=>exact wpAny_getItem_str_slice (l:=none) (u:=none) (st:=none) hs rfl (post_val_or_str ⟨Nat.le_trans (Txt.slice_le z _ _) hz,fun t' k=>⟨.str (Txt.slice z none none),H,I.tok _,⟨_,rfl⟩,q⟩⟩)
  | int j uj=>exact wpAny_getItem_str_slice (l:=none) (u:=some (j,uj)) (st:=none) hs rfl (post_val_or_str ⟨Nat.le_trans (Txt.slice_le z _ _) hz,fun t' k=>⟨.str (Txt.slice z none (some j)),H,I.tok _,⟨_,rfl⟩,q⟩⟩)
 | int i ui =>
  cases pu with
  | none=>exact wpAny_getItem_str_slice (l:=some (i,ui)) (u:=none) (st:=none) hs rfl (post_val_or_str ⟨Nat.le_trans (Txt.slice_le z _ _) hz,fun t' k=>⟨.str (Txt.slice z (some i) none),H,I.tok _,⟨_,rfl⟩,q⟩⟩)
  | int j uj=>exact wpAny_getItem_str_slice (l:=some (i,ui)) (u:=some (j,uj)) (st:=none) hs rfl (post_val_or_str ⟨Nat.le_trans (Txt.slice_le z _ _) hz,fun t' k=>⟨.str (Txt.slice z (some i) (some j)),H,I.tok _,⟨_,rfl⟩,q⟩⟩)
end
theorem Zgb {bs:List Bool}:∀ {us:List Value},Vals (bs.map V.bl) us→LSm.BoolsAre us bs:=by
 induction bs with
 | nil=>intro us r;rw [List.map_nil] at r;cases r;exact .nil
 | cons n ns ih =>
  intro us r
  rw [List.map_cons] at r
  cases r with
  | cons r1 r2 =>
   have e:_=Value.bool n:=r1
   subst e
   exact .cons n (ih r2)
section
variable {X:Cx}
theorem ZnX (hc:X.calm=true):CallR X (.builtin "all") (fun xs H Q=>∃ (a:Addr) (bs:List Bool),xs=[.ref a]∧SqL X.K H a (bs.map V.bl)∧Q (.bl (bs.all id)) H):=by
 intro pins s σ H xs us Q I r h
 obtain ⟨a,bs,rfl,hq,q⟩:=h
 obtain ⟨u,rfl,ru⟩:=ZaK r
 cases ru
 obtain ⟨its,rv,pl,hz⟩:=I.list hq
 have hb:=Zgb rv
 have hl:=pl.isList
 have hlt:a<s.heap.objs.size:=by obtain ⟨_,e,_⟩:=hl;exact Heap.lt_size e
 refine call_all_walk (wpAny_pyIter_list hl ?_)
 refine ⟨s.heap.objs.size,[s.heap.objs.size,a],[s.heap.objs.size],its.toArray.size,_,_,fun i=>(bs[i]?).getD true,rfl,Walks.list (A:=X.A.in1) (I.ok.hd hc) _ a (Nat.ne_of_lt hlt) its.toArray,
  ⟨⟨_,Heap.get?_push_size _ rfl,rfl,rfl⟩,hl.push _⟩,fun i v s' Q' E' hP hQ=>?_,fun h' tk hk=>⟨.bl _,H,I.kept (LSm.kept_iter hk),rfl,?_⟩⟩
 ·obtain ⟨b,e,rfl⟩:=hb.get i v (by simpa using hP)
  simp only [e,Option.getD_some] at hQ
  exact wpAny_truthy_bool hQ
 ·have e:((List.range its.toArray.size).all fun i=>(bs[i]?).getD true)=bs.all id:=by
   rw [List.size_toArray,hb.length];exact LSm.range_all bs
  rw [e]
  exact q
theorem ZnT (hc:X.calm=true):CallR X (.builtin "any") (fun xs H Q=>∃ (a:Addr) (bs:List Bool),xs=[.ref a]∧SqL X.K H a (bs.map V.bl)∧Q (.bl (bs.any id)) H):=by
 intro pins s σ H xs us Q I r h
 obtain ⟨a,bs,rfl,hq,q⟩:=h
 obtain ⟨u,rfl,ru⟩:=ZaK r
 cases ru
 obtain ⟨its,rv,pl,hz⟩:=I.list hq
 have hb:=Zgb rv
 have hl:=pl.isList
 have hlt:a<s.heap.objs.size:=by obtain ⟨_,e,_⟩:=hl;exact Heap.lt_size e
 refine call_any_walk (wpAny_pyIter_list hl ?_)
 refine ⟨s.heap.objs.size,[s.heap.objs.size,a],[s.heap.objs.size],its.toArray.size,_,_,fun i=>(bs[i]?).getD false,rfl,Walks.list (A:=X.A.in1) (I.ok.hd hc) _ a (Nat.ne_of_lt hlt) its.toArray,
  ⟨⟨_,Heap.get?_push_size _ rfl,rfl,rfl⟩,hl.push _⟩,fun i v s' Q' E' hP hQ=>?_,fun h' tk hk=>⟨.bl _,H,I.kept (LSm.kept_iter hk),rfl,?_⟩⟩
 ·obtain ⟨b,e,rfl⟩:=hb.get i v (by simpa using hP)
  simp only [e,Option.getD_some] at hQ
  exact wpAny_truthy_bool hQ
 ·have e:((List.range its.toArray.size).any fun i=>(bs[i]?).getD false)=bs.any id:=by
   rw [List.size_toArray,hb.length];exact LSm.range_any bs
  rw [e]
  exact q
end
section
open PySem.SeqAt
inductive Zcg (A:Around) (s:Shared):List Value→List Value→Bool→Prop where
 | nn:Zcg A s [] [] false
 | nc {w ws}:Zcg A s [] (w::ws) true
 | cn {v vs}:Zcg A s (v::vs) [] false
 | eq {v w vs ws b}:EqAt A s v w true→Zcg A s vs ws b→Zcg A s (v::vs) (w::ws) b
 | ne {v w vs ws b}:EqAt A s v w false→(∀ (prog:Program) (wo:World) (E Q:Value→Shared→Prop),Q (.bool b) s→wpAny (model prog wo) A (richCompare .Lt v w) Q E s)→Zcg A s (v::vs) (w::ws) b
end
section
open PySem.SeqAt
open PySem.AutoSeq1 (wpAny_loadPart')
open PySem.MeetsSeq PySem.MeetsSeq2 PySem.MeetsSeq3
theorem ZjJ (l b:Addr) (items items2:Array Value) (n n2:Nat) (dd dd2:Option Addr) (sl sl2:Array (Option Value)) (r:Bool) :
  Meets (Builtin.«tuple.__lt__» ⟨[.ref l,.ref b],[]⟩)
   (fun A R s=>s.heap.get? l=some { cls:=.type "tuple",dict:=dd,data:=.seq items n,slots:=sl }∧s.heap.get? b=some { cls:=.type "tuple",dict:=dd2,data:=.seq items2 n2,slots:=sl2 } ∧
    Zcg A.in1 s items.toList items2.toList r∧R (.ok (.ret (.bool r))) s) :=
 .of_wp fun prog w A R s h=>by
  obtain ⟨hp,g,d,tk,os⟩:=s;obtain ⟨hl,hb,hlt,h⟩:=h
  have f2:=AutoSeq1.sub_tuple_tuple
  wp_walk using wpAny_loadPart' hl,wpAny_loadPart' hb,wpAny_forIn_list _ (fun ZZ b s'=>b.1=none∧s'=⟨hp,g,d,tk,os⟩∧∃ (vs ws:List Value),ZZ=vs.zip ws ∧
   Zcg A.in1 ⟨hp,g,d,tk,os⟩ vs ws r∧vs.length+items2.size=ws.length+items.size) _
  case turn =>
   rintro ⟨y,x⟩ ZZ b s' ⟨hb',rfl,vs,ws,hz,hlt',hlen⟩
   cases hlt' with
   | nn=>rw [List.zip_nil_left] at hz;cases hz
   | nc=>rw [List.zip_nil_left] at hz;cases hz
   | cn=>rw [List.zip_nil_right] at hz;cases hz
   | eq he hr =>
    rw [List.zip_cons_cons] at hz
    injection hz with hyx hrest
    injection hyx with hy hx
    subst hy hx
    simp only [List.length_cons] at hlen
    refine wpAny_bind (he prog w _ _ ?_)
    wp_walk
    exact ⟨rfl,rfl,_,_,hrest,hr,by omega⟩
   | ne he hr =>
    rw [List.zip_cons_cons] at hz
    injection hz with hyx hrest
    injection hyx with hy hx
    subst hy hx
    refine wpAny_bind (he prog w _ _ ?_)
    have hri:=hr prog w
    wp_walk using hri
    exact ⟨_,rfl,by simpa using h⟩
  case fin =>
   rintro ⟨b1,b2⟩ s' ⟨hb',rfl,vs,ws,hz,hlt',hlen⟩
   simp only at hb'
   subst hb'
   have hv:r=decide (items.size<items2.size):=by
    cases hlt' with
    | nn =>
     simp only [List.length_nil] at hlen
     exact (decide_eq_false (by omega)).symm
    | nc =>
     simp only [List.length_nil,List.length_cons] at hlen
     exact (decide_eq_true (by omega)).symm
    | cn =>
     simp only [List.length_nil,List.length_cons] at hlen
     exact (decide_eq_false (by omega)).symm
    | eq _ _=>rw [List.zip_cons_cons] at hz;cases hz
    | ne _ _=>rw [List.zip_cons_cons] at hz;cases hz
   rw [hv] at h
   wp_walk
   exact ⟨_,rfl,by simpa [Builtin.Tuple.tupleCompareSizes] using h⟩
  case h =>
   exact ⟨rfl,rfl,items.toList,items2.toList,rfl,hlt,by simp;omega⟩
theorem Znu (l b:Addr) (items items2:Array Value) (n n2:Nat) (dd dd2:Option Addr) (sl sl2:Array (Option Value)) (r:Bool) (k:Nat) :
  ∀ i:Nat,items.size-i=k→Meets (Builtin.«list.__eq__.loop» ⟨[.ref l,.ref b,rawInt i,rawInt 0],[]⟩)
   (fun A R s=>s.heap.get? l=some { cls:=.type "list",dict:=dd,data:=.seq items n,slots:=sl }∧s.heap.get? b=some { cls:=.type "list",dict:=dd2,data:=.seq items2 n2,slots:=sl2 } ∧
    Zcg A.in1 s (items.toList.drop i) (items2.toList.drop i) r∧(i≤items.size∧i≤items2.size)∧R (.ok (.ret (.bool r))) s):=by
 induction k with
 | zero =>
  intro i hk prog w A R s h
  obtain ⟨hp,g,d,tk,os⟩:=s;obtain ⟨hl,hb,he,⟨z1,z2⟩,h⟩:=h
  wp_walk using wpAny_loadPart' hl,wpAny_loadPart' hb
  have hi1:items[((i:Nat):Int).toNat]?=none:=by simp;omega
  have hd:items.toList.drop i=[]:=List.drop_eq_nil_of_le (by simp;omega)
  rw [hd] at he
  rw [hi1]
  have hr:r=decide (items.size<items2.size):=by
   cases hx:items2.toList.drop i with
   | nil =>
    rw [hx] at he
    have:=congrArg List.length hx
    simp at this
    cases he
    exact (decide_eq_false (by omega)).symm
   | cons a t =>
    rw [hx] at he
    have:=congrArg List.length hx
    simp at this
    cases he
    exact (decide_eq_true (by omega)).symm
  rw [hr] at h
  wp_walk using wpAny_loadPart' hl,wpAny_loadPart' hb
  exact h
 | succ k ih =>
  intro i hk prog w A R s h
  obtain ⟨hp,g,d,tk,os⟩:=s;obtain ⟨hl,hb,he,⟨z1,z2⟩,h⟩:=h
  wp_walk using wpAny_loadPart' hl,wpAny_loadPart' hb
  have hlt:i<items.size:=by omega
  have hi1:items[((i:Nat):Int).toNat]?=some items[i]:=by simp [hlt]
  have hd:items.toList.drop i=items[i]::items.toList.drop (i+1):=by rw [List.drop_eq_getElem_cons (by simpa using hlt)];simp
  have hc:((i:Int)+1)=((i+1:Nat):Int):=by push_cast;rfl
  rw [hd] at he
  rw [hi1]
  by_cases hlt2:i<items2.size
  ·have hi2:items2[((i:Nat):Int).toNat]?=some items2[i]:=by simp [hlt2]
   have hd2:items2.toList.drop i=items2[i]::items2.toList.drop (i+1):=by rw [List.drop_eq_getElem_cons (by simpa using hlt2)];simp
   rw [hd2] at he
   rw [hi2]
   cases he with
   | eq he hr =>
    refine wpAny_bind (he prog w _ _ ?_)
    wp_walk
    rw [hc]
    exact ⟨plainId_quiet plain_eq_loop _,codeAny_builtin entry_eq_loop (by
     rw [Around.under_plainId plain_eq_loop _]
     exact ih (i+1) (by omega) prog w A R _ ⟨hl,hb,hr,⟨hlt,hlt2⟩,h⟩)⟩
   | ne he hr =>
    refine wpAny_bind (he prog w _ _ ?_)
    wp_walk using wpAny_loadPart' hl,wpAny_loadPart' hb
    rw [hi1,hi2]
    have hri:=hr prog w
    wp_walk using hri
    exact h
  ·have hi2:items2[((i:Nat):Int).toNat]?=none:=by simp;omega
   have hd2:items2.toList.drop i=[]:=List.drop_eq_nil_of_le (by simp;omega)
   rw [hd2] at he
   rw [hi2]
   have hr:r=decide (items.size<items2.size):=by
    cases he
    exact (decide_eq_false (by omega)).symm
   rw [hr] at h
   wp_walk using wpAny_loadPart' hl,wpAny_loadPart' hb
   exact h
theorem ZgY (l b:Addr) (items items2:Array Value) (n n2:Nat) (dd dd2:Option Addr) (sl sl2:Array (Option Value)) (r:Bool) :
  Meets (Builtin.«list.__lt__» ⟨[.ref l,.ref b],[]⟩)
   (fun A R s=>s.heap.get? l=some { cls:=.type "list",dict:=dd,data:=.seq items n,slots:=sl }∧s.heap.get? b=some { cls:=.type "list",dict:=dd2,data:=.seq items2 n2,slots:=sl2 } ∧
    Zcg A.in1 s items.toList items2.toList r∧R (.ok (.ret (.bool r))) s):=by
 intro prog w A R s h
 obtain ⟨hp,g,d,tk,os⟩:=s;obtain ⟨hl,hb,he,h⟩:=h
 have f3:=AutoSeq1.sub_list_list
 wp_walk using wpAny_loadPart' hl,wpAny_loadPart' hb
 exact ⟨plainId_quiet plain_eq_loop _,codeAny_builtin entry_eq_loop (by
  rw [Around.under_plainId plain_eq_loop _]
  exact Znu l b items items2 n n2 dd dd2 sl sl2 r _ 0 rfl prog w A R _ ⟨hl,hb,he,⟨Nat.zero_le _,Nat.zero_le _⟩,h⟩)⟩
end
section
variable {prog:Program} {w:World} {A:Around} {E:Value→Shared→Prop} {s:Shared}
theorem Zn7 {l b:Addr} {items items2:Array Value} {r:Bool} {Q:Value→Shared→Prop} (hl:IsTup s.heap l items) (hb:IsTup s.heap b items2) (hr:Zcg A.in1 s items.toList items2.toList r)
  (hu:A.units<cLine) (h:Q (.bool r) s):wpAny (model prog w) A (richCompare .Lt (.ref l) (.ref b)) Q E s:=by
 obtain ⟨⟨cls,dd,data,sl⟩,ho,hc,n,hd⟩:=id hl
 obtain ⟨⟨cls2,dd2,data2,sl2⟩,ho2,hc2,n2,hd2⟩:=id hb
 simp only at hc hd hc2 hd2
 subst hc hd hc2 hd2
 exact richCompare_meets_room (op:=.Lt) ⟨_,ho,rfl⟩ ⟨_,ho2,rfl⟩ PySem.F.slot_tuple_lt PySem.F.entry_tuple_lt (PySem.F.args_tuple_lt_2 _ _) (ZjJ l b items items2 n n2 dd dd2 sl sl2 r)
  ⟨ho,ho2,hr,show Value.bool r≠Value.notImplemented∧Q (.bool r) s from ⟨(fun x=>nomatch x),h⟩⟩ hu
theorem Znm {l b:Addr} {items items2:Array Value} {r:Bool} {n n2:Nat} {dd dd2:Option Addr} {sl sl2:Array (Option Value)} {Q:Value→Shared→Prop} (hl:s.heap.get? l=some { cls:=.type "list",dict:=dd,data:=.seq items n,slots:=sl }) (hb:s.heap.get? b=some { cls:=.type "list",dict:=dd2,data:=.seq items2 n2,slots:=sl2 }) (hr:Zcg A.in1 s items.toList items2.toList r)
  (hu:A.units<cLine) (h:Q (.bool r) s):wpAny (model prog w) A (richCompare .Lt (.ref l) (.ref b)) Q E s :=
 richCompare_meets_room (op:=.Lt) ⟨_,hl,rfl⟩ ⟨_,hb,rfl⟩ PySem.F.slot_list_lt PySem.F.entry_list_lt (PySem.F.args_list_lt_2 _ _) (ZgY l b items items2 n n2 dd dd2 sl sl2 r)
  ⟨hl,hb,hr,show Value.bool r≠Value.notImplemented∧Q (.bool r) s from ⟨(fun x=>nomatch x),h⟩⟩ hu
end
def ltS:V→V→Option Bool
 | .int i,.int j=>some (decide (i<j))
 | .str a,.str b=>some (decide (a.cps.toList<b.cps.toList))
 | _,_=>none
def ltL:List V→List V→Option Bool
 | [],[]=>some false
 | [],_::_=>some true
 | _::_,[]=>some false
 | x::xs,y::ys=>if (Zou x&&Zou y)=true then (if eqV x y=true then ltL xs ys else ltS x y) else none
section
variable {X:Cx}
end
theorem Zbl (x:Str):x.cps.toList.length=x.length:=by simp [Str.length]
def Zic (K:PySem.W.Frag):Sp:=fun vs H Q _=>∃ (a:Addr) (ns:List Int),vs=[.ref a]∧SqL K H a (ns.map V.int)∧ns.length≤63∧∀ H',Q (.bl true) H'
section
variable {X:Cx}
end
section
variable {X:Cx}
end
theorem Zgn {H:Hp} {p:Addr} {o:HO} (h:H p=none):Same H (upd H p o):=fun b u e=>by rw [Zs (Z3 e h)];exact e
end L2
set_option Elab.async false
set_option linter.all false
set_option maxRecDepth 100000
namespace L2
open PySem PySem.Spec PyProof.Rows
theorem ZgF {A B:Prop} (h:A):(if true=true then A else B):=(if_pos (c:=true=true) rfl:ite _ A B=A) ▸ h
theorem ZgS {A B:Prop} (h:B):(if false=true then A else B):=(if_neg (c:=false=true) Bool.false_ne_true:ite _ A B=B) ▸ h
inductive D where
 | non | bl (b:Bool) | int (i:Int) | str (x:Str) | ty (n:String) | tup (xs:List D) | lst (xs:List D) (b:Bool:=false)
def ZnG:D→At
 | .int i=>.int i
 | .str x=>.str x
 | _=>.non
def Znw:D→KT
 | .tup l=>.tup (l.map ZnG)
 | d=>.at (ZnG d)
def Zff:List D→List KT
 | k::_::r=>Znw k::Zff r
 | _=>[]
def CO (b:Bool) (xs:List D) (vs:List V):HO:=match b with
 | false=>.lst vs
 | true=>.dct (Zff xs) vs
def isL:HO→Bool
 | .lst _=>true
 | .dct _ _=>true
 | _=>false
theorem ZqT (b:Bool) (xs:List D) (vs:List V):isL (CO b xs vs)=true:=by cases b<;>rfl
abbrev Fb:=Addr→Prop
def KL (K:PySem.W.Frag) (a:Addr) (vs:List V):Prop:=SqL K (fun _=>none) a vs
def LstAt (K:PySem.W.Frag) (N:Fb) (H:Hp) (a:Addr) (o:HO):Prop:=(¬ N a∧Rd H a o)∨∃ vs,o=.lst vs∧KL K a vs
theorem KL.sq {K:PySem.W.Frag} {H:Hp} {a:Addr} {vs:List V} (h:KL K a vs):SqL K H a vs:=by
 rcases h with (h | ⟨o,h⟩) | h
 ·cases h
 ·cases h
 ·exact .inr h
theorem LstAt.sq {K:PySem.W.Frag} {N:Fb} {H:Hp} {a:Addr} {vs:List V} (h:LstAt K N H a (.lst vs)):SqL K H a vs:=by
 rcases h with ⟨_,h⟩ | ⟨ws,e,h⟩
 ·exact .inl h
 ·cases e;exact h.sq
theorem LstAt.of {K:PySem.W.Frag} {N:Fb} {H:Hp} {a:Addr} {o:HO} (n:¬ N a) (h:H a=some o):LstAt K N H a o:=.inl ⟨n,.inl h⟩
theorem LstAt.of_sq {K:PySem.W.Frag} {H:Hp} {a:Addr} {vs:List V} (h:SqL K H a vs):LstAt K (fun _=>False) H a (.lst vs):=by
 rcases h with h | h
 ·exact .inl ⟨id,h⟩
 ·exact .inr ⟨vs,rfl,.inr h⟩
mutual
def Den (K:PySem.W.Frag) (N:Fb) (H:Hp):D→V→Prop
 | .non,v=>v=.non
 | .bl b,v=>v=.bl b
 | .int i,v=>v=.int i
 | .str x,v=>v=.str x
 | .ty n,v=>v=.ty n
 | .tup xs,v=>∃ a vs,v=.ref a∧SqT K H a vs∧DenL K N H xs vs
 | .lst xs b,v=>∃ a vs,v=.ref a∧LstAt K N H a (CO b xs vs)∧DenL K N H xs vs
def DenL (K:PySem.W.Frag) (N:Fb) (H:Hp):List D→List V→Prop
 | [],vs=>vs=[]
 | x::xs,vs=>∃ v r,vs=v::r∧Den K N H x v∧DenL K N H xs r
end
structure Step (M N N':Fb) (H H':Hp):Prop where
 kp:∀ a o,H a=some o→(¬ N a∨M a∨isL o=false)→H' a=some o
 nw:∀ a,N' a→N a∨H a=none
theorem Step.trans {M N N1 N2:Fb} {H H1 H2:Hp} (a:Step M N N1 H H1) (b:Step M N1 N2 H1 H2):Step M N N2 H H2 where
 kp:=fun c o h z=>by
  have h1:=a.kp c o h z
  refine b.kp c o h1 ?_
  rcases z with z | z | z
  ·refine .inl fun n1=>?_
   rcases a.nw c n1 with q | q
   ·exact z q
   ·rw [h] at q;cases q
  ·exact .inr (.inl z)
  ·exact .inr (.inr z)
 nw:=fun c n2=>by
  rcases b.nw c n2 with q | q
  ·exact a.nw c q
  ·cases e:H c with
   | none=>exact .inr rfl
   | some o =>
    refine .inl (Classical.byContradiction fun z=>?_)
    rw [a.kp c o e (.inl z)] at q
    cases q
theorem Step.of_same {M N:Fb} {H H':Hp} (s:Same H H'):Step M N N H H':=⟨fun a o h _=>s a o h,fun a h=>.inl h⟩
theorem Step.refl {M N:Fb} {H:Hp}:Step M N N H H:=Step.of_same (Same.refl H)
theorem Rd.step {M N N':Fb} {H H':Hp} {a:Addr} {u:HO} (s:Step M N N' H H') (h:Rd H a u) (z:¬ N a∨M a∨isL u=false):Rd H' a u:=by
 rcases h with h | ⟨o,h⟩
 ·exact .inl (s.kp a u h z)
 ·exact .inr ⟨o,s.kp a _ h (.inr (.inr rfl))⟩
theorem Rd.same {H H':Hp} {a:Addr} {u:HO} (s:Same H H') (h:Rd H a u):Rd H' a u:=by
 rcases h with h | ⟨o,h⟩
 ·exact .inl (s a u h)
 ·exact .inr ⟨o,s a _ h⟩
theorem SqT.step {K:PySem.W.Frag} {M N N':Fb} {H H':Hp} {a:Addr} {xs:List V} (s:Step M N N' H H') (h:SqT K H a xs):SqT K H' a xs:=by
 rcases h with h | h
 ·exact .inl (h.step s (.inr (.inr rfl)))
 ·exact .inr h
theorem SqT.same {K:PySem.W.Frag} {H H':Hp} {a:Addr} {xs:List V} (s:Same H H') (h:SqT K H a xs):SqT K H' a xs:=SqT.step (M:=fun _=>False) (N:=fun _=>False) (Step.of_same s) h
theorem Rd.has {H:Hp} {a:Addr} {u:HO} (h:Rd H a u):H a≠none:=by
 rcases h with h | ⟨o,h⟩<;>rw [h]<;>exact fun e=>nomatch e
mutual
theorem Den.step {K:PySem.W.Frag} {M N N':Fb} {H H':Hp} (s:Step M N N' H H'):∀ (d:D) (v:V),Den K N H d v→Den K N' H' d v
 | .non,_,h=>h
 | .bl _,_,h=>h
 | .int _,_,h=>h
 | .str _,_,h=>h
 | .ty _,_,h=>h
 | .tup xs,v,h=>by
  simp only [Den] at h ⊢
  obtain ⟨a,vs,e,q,r⟩:=h
  exact ⟨a,vs,e,q.step s,DenL.step s xs vs r⟩
 | .lst xs fl,v,h=>by
  simp only [Den] at h ⊢
  obtain ⟨a,vs,e,q,r⟩:=h
  refine ⟨a,vs,e,?_,DenL.step s xs vs r⟩
  rcases q with ⟨n,q⟩ | q
  ·refine .inl ⟨fun n'=>?_,q.step s (.inl n)⟩
   rcases s.nw a n' with z | z
   ·exact n z
   ·exact q.has z
  ·exact .inr q
theorem DenL.step {K:PySem.W.Frag} {M N N':Fb} {H H':Hp} (s:Step M N N' H H'):∀ (xs:List D) (vs:List V),DenL K N H xs vs→DenL K N' H' xs vs
 | [],_,h=>h
 | x::xs,vs,h=>by
  simp only [DenL] at h ⊢
  obtain ⟨v,r,e,q,t⟩:=h
  exact ⟨v,r,e,Den.step s x v q,DenL.step s xs r t⟩
end
section
variable {K:PySem.W.Frag} {M N N':Fb} {H H':Hp} {d:D} {v:V} {xs ys:List D} {vs ws:List V} {a:Addr}
theorem Den.same (h:Den K N H d v) (s:Same H H'):Den K N H' d v:=Den.step (M:=N) (Step.of_same s) d v h
theorem DenL.same (h:DenL K N H xs vs) (s:Same H H'):DenL K N H' xs vs:=DenL.step (M:=N) (Step.of_same s) xs vs h
theorem Den.nw (h:Den K N H d v) (z:∀ a,N' a→N a∨H a=none):Den K N' H d v:=Den.step (M:=N) (H':=H) ⟨fun _ _ h _=>h,z⟩ d v h
theorem DenL.nw (h:DenL K N H xs vs) (z:∀ a,N' a→N a∨H a=none):DenL K N' H xs vs:=DenL.step (M:=N) (H':=H) ⟨fun _ _ h _=>h,z⟩ xs vs h
theorem DenL.length:∀ {xs:List D} {vs:List V},DenL K N H xs vs→xs.length=vs.length
 | [],_,h=>by simp only [DenL] at h;subst h;rfl
 | _::xs,_,h=>by simp only [DenL] at h;obtain ⟨v,r,e,_,t⟩:=h;subst e;simp [DenL.length t]
theorem DenL.get:∀ {xs:List D} {vs:List V} {i:Nat} {d:D},DenL K N H xs vs→xs[i]?=some d→∃ v,vs[i]?=some v∧Den K N H d v
 | [],_,i,d,_,e=>by simp at e
 | x::xs,_,0,d,h,e=>by
  simp only [DenL] at h;obtain ⟨v,r,e1,q,_⟩:=h;subst e1
  simp at e;subst e;exact ⟨v,rfl,q⟩
 | x::xs,_,i+1,d,h,e=>by
  simp only [DenL] at h;obtain ⟨v,r,e1,_,t⟩:=h;subst e1
  obtain ⟨w,h1,h2⟩:=DenL.get (i:=i) t (by simpa using e)
  exact ⟨w,by simpa using h1,h2⟩
theorem DenL.append:∀ {xs ys:List D} {vs ws:List V},DenL K N H xs vs→DenL K N H ys ws→DenL K N H (xs++ys) (vs++ws)
 | [],_,_,_,h,h'=>by simp only [DenL] at h;subst h;exact h'
 | x::xs,ys,_,ws,h,h'=>by
  simp only [DenL] at h;obtain ⟨v,r,e,q,t⟩:=h;subst e
  simp only [List.cons_append,DenL]
  exact ⟨v,r++ws,rfl,q,DenL.append t h'⟩
theorem DenL.nil:DenL K N H [] []:=by simp only [DenL]
theorem DenL.cons (h:Den K N H d v) (t:DenL K N H xs vs):DenL K N H (d::xs) (v::vs):=by simp only [DenL];exact ⟨v,vs,rfl,h,t⟩
theorem DenL.take:∀ {xs:List D} {vs:List V} (n:Nat),DenL K N H xs vs→DenL K N H (xs.take n) (vs.take n)
 | _,_,0,_=>by simpa using DenL.nil
 | [],_,n+1,h=>by simp only [DenL] at h;subst h;simpa using DenL.nil
 | x::xs,_,n+1,h=>by
  simp only [DenL] at h;obtain ⟨v,r,e,q,t⟩:=h;subst e
  simpa using DenL.cons q (DenL.take n t)
theorem DenL.drop:∀ {xs:List D} {vs:List V} (n:Nat),DenL K N H xs vs→DenL K N H (xs.drop n) (vs.drop n)
 | _,_,0,h=>by simpa using h
 | [],_,n+1,h=>by simp only [DenL] at h;subst h;simpa using DenL.nil
 | x::xs,_,n+1,h=>by
  simp only [DenL] at h;obtain ⟨v,r,e,q,t⟩:=h;subst e
  simpa using DenL.drop n t
theorem DenL.reverse:∀ {xs:List D} {vs:List V},DenL K N H xs vs→DenL K N H xs.reverse vs.reverse
 | [],_,h=>by simp only [DenL] at h;subst h;simpa using DenL.nil
 | x::xs,_,h=>by
  simp only [DenL] at h;obtain ⟨v,r,e,q,t⟩:=h;subst e
  simpa using DenL.append (DenL.reverse t) (DenL.cons q DenL.nil)
theorem DenL.set:∀ {xs:List D} {vs:List V} (i:Nat),DenL K N H xs vs→Den K N H d v→DenL K N H (xs.set i d) (vs.set i v)
 | [],_,_,h,_=>by simp only [DenL] at h;subst h;simpa using DenL.nil
 | x::xs,_,0,h,q=>by
  simp only [DenL] at h;obtain ⟨v,r,e,_,t⟩:=h;subst e
  simpa using DenL.cons q t
 | x::xs,_,i+1,h,q=>by
  simp only [DenL] at h;obtain ⟨v,r,e,q',t⟩:=h;subst e
  simpa using DenL.cons q' (DenL.set i t q)
theorem DenL.ints:∀ (ns:List Int),DenL K N H (ns.map D.int) (ns.map V.int)
 | []=>DenL.nil
 | n::ns=>DenL.cons (by simp only [Den]) (DenL.ints ns)
end
inductive Sl where
 | no | val (d:D) | own (xs:List D) (b:Bool:=false) | lent (xs:List D) (b:Bool:=false) | exc (c:Str)
def XAt (e C:Addr) (h:Heap):Prop:=∃ o vs,h.get? e=some o∧o.cls=.ref C∧o.data=.fields vs∧vs[2]?=some .none
abbrev VE:=List Sl
def Nf (M:Fb) (ρ:VE) (σ:St):Fb:=fun a=>M a∨∃ (i:Nat) (xs:List D) (b:Bool),ρ[i]?=some (Sl.own xs b)∧σ[i]?=some (some (V.ref a))
def Zrn (K:PySem.W.Frag) (M N:Fb) (H0 H:Hp):Sl→Option V→Prop
 | .no,_=>True
 | .val d,o=>∃ v,o=some v∧Den K N H d v
 | .own xs b,o=>∃ a vs,o=some (.ref a)∧H0 a=none∧¬ M a∧H a=some (CO b xs vs)∧DenL K N H xs vs
 | .lent xs b,o=>∃ a vs,o=some (.ref a)∧M a∧Rd H a (CO b xs vs)∧DenL K N H xs vs
 | .exc c,o=>∃ a C,o=some (.ref a)∧PySem.W.nsIn K mainGlobals c=some (some (.ref C))∧H a=some (.ext (XAt a C))
structure Rel (K:PySem.W.Frag) (M:Fb) (H0:Hp) (ρ:VE) (σ:St) (H:Hp):Prop where
 len:ρ.length=σ.length
 same:Same H0 H
 mh:∀ a,M a→H a≠none
 slot:∀ (i:Nat) (s:Sl),ρ[i]?=some s→Zrn K M (Nf M ρ σ) H0 H s (σ[i]?.join)
 inj:∀ (i j:Nat) (xs ys:List D) (b b':Bool) (a:Addr),ρ[i]?=some (Sl.own xs b)→ρ[j]?=some (Sl.own ys b')→σ[i]?=some (some (V.ref a))→σ[j]?=some (some (V.ref a))→i=j
section
variable {K:PySem.W.Frag} {M N:Fb} {H0 H H':Hp} {ρ:VE} {σ:St}
theorem Rel.nh (R:Rel K M H0 ρ σ H):∀ a,Nf M ρ σ a→H a≠none:=by
 rintro a (h | ⟨i,xs,fl,h1,h2⟩)
 ·exact R.mh a h
 ·obtain ⟨b,vs,e,_,_,q,_⟩:=R.slot i _ h1
  rw [h2] at e
  have e':b=a:=by simpa using e.symm
  rw [← e',q];exact fun z=>nomatch z
theorem Rel.st (R:Rel K M H0 ρ σ H) (s:Same H H'):Rel K M H0 ρ σ H' where
 len:=R.len
 same:=R.same.trans s
 mh:=fun a h z=>R.mh a h (s.free z)
 slot:=fun i sl e=>by
  have q:=R.slot i sl e
  cases sl with
  | no=>trivial
  | val d=>obtain ⟨v,e,h⟩:=q;exact ⟨v,e,h.same s⟩
  | own xs fl=>obtain ⟨a,vs,e,h1,h2,h3,h4⟩:=q;exact ⟨a,vs,e,h1,h2,s _ _ h3,h4.same s⟩
  | lent xs fl=>obtain ⟨a,vs,e,h1,h2,h3⟩:=q;exact ⟨a,vs,e,h1,h2.same s,h3.same s⟩
  | exc c=>obtain ⟨a,C,e,h1,h2⟩:=q;exact ⟨a,C,e,h1,s _ _ h2⟩
 inj:=R.inj
theorem Rel.fresh (R:Rel K M H0 ρ σ H) {p:Addr} (h:H p=none):¬ Nf M ρ σ p:=fun n=>R.nh p n h
end
def tD (K:PySem.W.Frag) (M:Fb) (H0:Hp) (f:VE→Option D):TE:=fun σ H Q=>∃ ρ d,Rel K M H0 ρ σ H∧f ρ=some d∧∀ v H',Same H H'→Den K (Nf M ρ σ) H' d v→Q v H'
def DenP (K:PySem.W.Frag) (N:Fb) (H:Hp) (d:D) (v:V):Prop:=match d with
 | .lst xs=>∃ a vs,v=.ref a∧SqL K H a vs∧DenL K N H xs vs
 | .lst xs true=>∃ a vs,v=.ref a∧Rd H a (.dct (Zff xs) vs)∧DenL K N H xs vs
 | d=>Den K N H d v
theorem Den.p {K:PySem.W.Frag} {N:Fb} {H:Hp} {d:D} {v:V} (h:Den K N H d v):DenP K N H d v:=by
 cases d with
 | lst xs fl =>
  simp only [Den] at h
  obtain ⟨a,vs,e,q,r⟩:=h
  cases fl with
  | false=>exact ⟨a,vs,e,LstAt.sq q,r⟩
  | true =>
   rcases q with ⟨_,q⟩ | ⟨ws,z,_⟩
   ·exact ⟨a,vs,e,q,r⟩
   ·cases z
 | _=>exact h
theorem DenP.same {K:PySem.W.Frag} {N:Fb} {H H':Hp} {d:D} {v:V} (h:DenP K N H d v) (s:Same H H'):DenP K N H' d v:=by
 cases d with
 | lst xs fl =>
  cases fl with
  | false=>obtain ⟨a,vs,e,q,r⟩:=h;exact ⟨a,vs,e,s.seq q,r.same s⟩
  | true=>obtain ⟨a,vs,e,q,r⟩:=h;exact ⟨a,vs,e,q.same s,r.same s⟩
 | _=>exact Den.same h s
theorem Zha {K:PySem.W.Frag} {N:Fb} {H:Hp} {xs:List D} {vs:List V} {fl:Bool} {a:Addr} (h:Rd H a (CO fl xs vs)) (r:DenL K N H xs vs):DenP K N H (.lst xs fl) (.ref a):=by
 cases fl with
 | false=>exact ⟨a,vs,rfl,.inl h,r⟩
 | true=>exact ⟨a,vs,rfl,h,r⟩
def tP (K:PySem.W.Frag) (M:Fb) (H0:Hp) (f:VE→Option D):TE:=fun σ H Q=>∃ ρ d,Rel K M H0 ρ σ H∧f ρ=some d∧∀ v H',Same H H'→DenP K (Nf M ρ σ) H' d v→Q v H'
def tFb (fl:Bool) (K:PySem.W.Frag) (M:Fb) (H0:Hp) (f:VE→Option (List D)):TE:=fun σ H Q=>∃ ρ xs,Rel K M H0 ρ σ H∧f ρ=some xs ∧
 ∀ a vs H',Same H H'→H a=none→H' a=some (CO fl xs vs)→DenL K (fun b=>Nf M ρ σ b∨b=a) H' xs vs→Q (.ref a) H'
@[reducible] def tF (K:PySem.W.Frag) (M:Fb) (H0:Hp) (f:VE→Option (List D)):TE:=tFb false K M H0 f
def tB' (K:PySem.W.Frag) (M:Fb) (H0:Hp) (f:VE→Option Bool):TT:=fun σ H Q=>∃ ρ b,Rel K M H0 ρ σ H∧f ρ=some b∧∀ H',Same H H'→Q b H'
structure JE (X:Cx) (e:Expr) (t:TE):Prop where h:PE X e t
structure JT (X:Cx) (e:Expr) (t:TT):Prop where h:PT X e t
structure JW (X:Cx) (e:Expr) (t:TT):Prop where h:PW X e t
structure JA (X:Cx) (e:List Expr) (t:TA):Prop where h:PA X e t
structure JS (X:Cx) (e:Stmt) (t:TS):Prop where h:PS X e t
structure JB (X:Cx) (e:List Stmt) (t:TS):Prop where h:PSs X e t
structure JI (X:Cx) (tg e:Expr) (t:TI):Prop where h:PI X tg e t
structure JG (X:Cx) (e:Expr) (t:TG):Prop where h:PG X e t
structure JK (X:Cx) (e:List Expr) (t:TGs):Prop where h:PGs X e t
structure JO (X:Cx) (e:Option Expr) (t:TO):Prop where h:PO X e t
structure JF (X:Cx) (e:List Expr) (t:TT):Prop where h:PFs X e t
theorem PE.mono {X:Cx} {e:Expr} {t t':TE} (h:PE X e t) (m:∀ σ H Q,t' σ H Q→t σ H Q):PE X e t':=fun pins s σ H Q I q=>h pins s σ H Q I (m σ H Q q)
theorem PT.mono {X:Cx} {e:Expr} {t t':TT} (h:PT X e t) (m:∀ σ H Q,t' σ H Q→t σ H Q):PT X e t':=fun pins s σ H Q I q=>h pins s σ H Q I (m σ H Q q)
theorem PW.mono {X:Cx} {e:Expr} {t t':TT} (h:PW X e t) (m:∀ σ H Q,t' σ H Q→t σ H Q):PW X e t':=fun wh pins s σ H Q I q=>h wh pins s σ H Q I (m σ H Q q)
theorem PA.mono {X:Cx} {e:List Expr} {t t':TA} (h:PA X e t) (m:∀ σ H Q,t' σ H Q→t σ H Q):PA X e t':=fun pos pins s σ H Q I q=>h pos pins s σ H Q I (m σ H Q q)
theorem PS.mono {X:Cx} {e:Stmt} {t t':TS} (h:PS X e t) (m:∀ D σ H,t' D σ H→t D σ H):PS X e t':=fun pins s σ H D I q=>h pins s σ H D I (m D σ H q)
theorem PSs.mono {X:Cx} {e:List Stmt} {t t':TS} (h:PSs X e t) (m:∀ D σ H,t' D σ H→t D σ H):PSs X e t':=fun pins s σ H D I q=>h pins s σ H D I (m D σ H q)
section
variable {X:Cx} {K:PySem.W.Frag} {M:Fb} {H0:Hp} {e a b:Expr} {f g:VE→Option D} {pos:Pos}
theorem PE.p (h:PE X e (tD K M H0 f)):PE X e (tP K M H0 f):=h.mono fun σ H Q ⟨ρ,d,R,e,q⟩=>⟨ρ,d,R,e,fun v H' s z=>q v H' s z.p⟩
theorem j_p (h:JE X e (tD K M H0 f)):JE X e (tP K M H0 f):=⟨PE.p h.h⟩
@[simp] def ZN (o:Option (List D)):Option D:=o.map D.lst
@[simp] def ZuO (o:Option (List D)):Option D:=o.map fun l=>D.lst l true
theorem PE.fd {f:VE→Option (List D)} (h:PE X e (tF K M H0 f)):PE X e (tD K M H0 fun ρ=>ZN (f ρ)):=h.mono fun σ H Q ⟨ρ,d,R,e,q⟩=>by
 try dsimp only at e q
 cases hf:f ρ with
 | none=>rw [hf] at e;cases e
 | some xs =>
  rw [hf] at e
  cases e
  refine ⟨ρ,xs,R,hf,fun a vs H' s z1 z2 z3=>q _ _ s ?_⟩
  simp only [Den]
  refine ⟨a,vs,rfl,.of (R.fresh z1) z2,z3.nw fun b hb=>.inl (.inl hb)⟩
theorem Zay {f:VE→Option (List D)} (h:JE X e (tF K M H0 f)):JE X e (tD K M H0 fun ρ=>ZN (f ρ)):=⟨PE.fd h.h⟩
@[simp] def rdV (ρ:VE) (i:Nat):Option D:=match ρ[i]? with
  | some (.val d)=>some d
  | _=>none
@[simp] def rdP (ρ:VE) (i:Nat):Option D:=match ρ[i]? with
  | some (.val d)=>some d
  | some (.own xs b)=>some (.lst xs b)
  | some (.lent xs b)=>some (.lst xs b)
  | _=>none
theorem Zok {ρ:VE} {i:Nat} {d:D} (h:rdV ρ i=some d):ρ[i]?=some (.val d):=by
 unfold rdV at h
 split at h
 ·cases h;assumption
 ·cases h
theorem ZrI {i:Nat} {x:Str} (hN:X.N[i]?=some x) (hv:Vis X.env.scope x) (hd:(x==("__debug__":Str))=false:=by decide) (hcd:(x==("__classdict__":Str))=false:=by decide):PE X (.Name x pos) (tD K M H0 fun ρ=>rdV ρ i) :=
 (Zc4 hN hv hd hcd).mono fun σ H Q ⟨ρ,d,R,e,q⟩=>by
  try dsimp only at e q
  obtain ⟨v,e1,h⟩:=R.slot i _ (Zok e)
  refine ⟨v,?_,q v H (Same.refl H) h⟩
  cases z:σ[i]? with
  | none=>rw [z] at e1;cases e1
  | some o=>rw [z] at e1;cases e1;rfl
theorem ZqB {i:Nat} {x:Str} (hN:X.N[i]?=some x) (hv:Vis X.env.scope x) (hd:(x==("__debug__":Str))=false:=by decide) (hcd:(x==("__classdict__":Str))=false:=by decide):PE X (.Name x pos) (tP K M H0 fun ρ=>rdP ρ i) :=
 (Zc4 hN hv hd hcd).mono fun σ H Q ⟨ρ,d,R,e,q⟩=>by
  try dsimp only at e q
  have fin:∀ v,σ[i]?.join=some v→DenP K (Nf M ρ σ) H d v→∃ v,σ[i]?=some (some v)∧Q v H:=fun v e1 h=>by
   refine ⟨v,?_,q v H (Same.refl H) h⟩
   cases z:σ[i]? with
   | none=>rw [z] at e1;cases e1
   | some o=>rw [z] at e1;cases e1;rfl
  unfold rdP at e
  split at e
  ·next h=>cases e;obtain ⟨v,e1,h⟩:=R.slot i _ h;exact fin v e1 h.p
  ·next h=>cases e;obtain ⟨a,vs,e1,_,_,h3,h4⟩:=R.slot i _ h;exact fin _ e1 (Zha (.inl h3) h4)
  ·next h=>cases e;obtain ⟨a,vs,e1,_,h3,h4⟩:=R.slot i _ h;exact fin _ e1 (Zha h3 h4)
  ·cases e
theorem Zjg {d:D} {v:V} {e:Expr} (h:PE X e (tC v)) (hd:∀ N H,Den K N H d v):PE X e (tD K M H0 fun _=>some d) :=
 h.mono fun σ H Q ⟨ρ,d',R,e,q⟩=>by (try dsimp only at e q);cases e;exact q v H (Same.refl H) (hd _ _)
theorem Zp9 {i j pos}:PE X (.Constant (.int i) j pos) (tD K M H0 fun _=>some (.int i)):=Zjg ZrT fun _ _=>by simp only [Den]
theorem Zd {i j pos}:JE X (.Constant (.int i) j pos) (tD K M H0 fun _=>some (.int i)):=⟨Zp9 ⟩
theorem Zss {i j pos}:PE X (.Constant (.bool i) j pos) (tD K M H0 fun _=>some (.bl i)):=Zjg Zs4 fun _ _=>by simp only [Den]
theorem Zdu {i j pos}:JE X (.Constant (.bool i) j pos) (tD K M H0 fun _=>some (.bl i)):=⟨Zss ⟩
theorem Zqa {j pos}:PE X (.Constant .none j pos) (tD K M H0 fun _=>some .non):=Zjg Zro fun _ _=>by simp only [Den]
theorem Zgf {j pos}:JE X (.Constant .none j pos) (tD K M H0 fun _=>some .non):=⟨Zqa ⟩
theorem ZrH {i j pos}:PE X (.Constant (.str i) j pos) (tD K M H0 fun _=>some (.str i)):=Zjg ZrE fun _ _=>by simp only [Den]
theorem Zfc {i j pos}:JE X (.Constant (.str i) j pos) (tD K M H0 fun _=>some (.str i)):=⟨ZrH ⟩
def R2D (K:PySem.W.Frag) (r:R2) (F:D→D→Option D):Prop:=∀ (N:Fb) (H:Hp) (x y:V) (d1 d2 d:D) (Q:VK),(∀ a,N a→H a≠none)→DenP K N H d1 x→DenP K N H d2 y→F d1 d2=some d →
 (∀ v H',Same H H'→Den K N H' d v→Q v H')→r x y H Q
@[simp] def Ze (F:D→D→Option D) (f g:VE→Option D):VE→Option D:=fun ρ=>(f ρ).bind fun x=>(g ρ).bind fun y=>F x y
theorem Zor {F:D→D→Option D} {f g:VE→Option D} {ρ:VE} {d:D} (h:Ze F f g ρ=some d):∃ x y,f ρ=some x∧g ρ=some y∧F x y=some d:=by
 unfold Ze at h
 cases hf:f ρ with
 | none=>rw [hf] at h;cases h
 | some x =>
  cases hg:g ρ with
  | none=>rw [hf,hg] at h;cases h
  | some y=>rw [hf,hg] at h;exact ⟨x,y,rfl,rfl,h⟩
theorem Zh8 {r:R2} {F:D→D→Option D} (hr:R2D K r F) {σ:St} {H:Hp} {Q:VK} (h:tD K M H0 (Ze F f g) σ H Q):tOp r (tP K M H0 f) (tP K M H0 g) σ H Q:=by
 obtain ⟨ρ,d,R,e,q⟩:=h
 try dsimp only at e q
 obtain ⟨x,y,e1,e2,e3⟩:=Zor e
 refine ⟨ρ,x,R,e1,fun v H1 s1 h1=>⟨ρ,y,R.st s1,e2,fun u H2 s2 h2=>?_⟩⟩
 exact hr (Nf M ρ σ) H2 v u x y d Q ((R.st s1).st s2).nh (h1.same s2) h2 e3 fun w H3 s3 h3=>q w H3 ((s1.trans s2).trans s3) h3
theorem Zga {op:Operator} {r:R2} {F:D→D→Option D} (ho:OpR X (binaryOp op) r) (hr:R2D K r F) (ha:PE X a (tP K M H0 f)) (hb:PE X b (tP K M H0 g)):PE X (.BinOp a op b pos) (tD K M H0 (Ze F f g)) :=
 (ZsG ho ha hb).mono fun _ _ _ h=>Zh8 hr h
theorem ZlZ {op:CmpOp} {r:R2} {F:D→D→Option D} (ho:OpR X (compareOp op) r) (hr:R2D K r F) (ha:PE X a (tP K M H0 f)) (hb:PE X b (tP K M H0 g)) (hm:behindInMarks op b=false):PE X (.Compare a [op] [b] pos) (tD K M H0 (Ze F f g)) :=
 (ZoO ho ha hb hm).mono fun _ _ _ h=>Zh8 hr h
theorem Zoy {r:R2} {F:D→D→Option D} (ho:IxR X r) (hr:R2D K r F) (ha:PE X a (tP K M H0 f)) (hb:PE X b (tP K M H0 g)) (hs:Zds b):PE X (.Subscript a b pos) (tD K M H0 (Ze F f g)) :=
 (Zs0 ho ha hb hs).mono fun _ _ _ h=>Zh8 hr h
@[simp] def orO {α:Type} (a b:Option α):Option α:=match a with
  | some x=>some x
  | none=>b
theorem R2D.or {r r':R2} {F F':D→D→Option D} (h:R2D K r F) (h':R2D K r' F'):R2D K (fun x y H Q=>r x y H Q∨r' x y H Q) (fun x y=>orO (F x y) (F' x y)):=by
 intro N H x y d1 d2 d Q nh h1 h2 e q
 cases hF:F d1 d2 with
 | some z=>simp only [hF,orO] at e;cases e;exact .inl (h N H x y d1 d2 d Q nh h1 h2 hF q)
 | none=>simp only [hF,orO] at e;exact .inr (h' N H x y d1 d2 d Q nh h1 h2 e q)
@[simp] def asB:Option D→Option Bool
  | some (.bl b)=>some b
  | _=>none
theorem ZeX {o:Option D} {b:Bool} (h:asB o=some b):o=some (.bl b):=by
 unfold asB at h
 split at h
 ·cases h;rfl
 ·cases h
theorem Zpz {t:TE} {σ:St} {H:Hp} {Q:Bool→Hp→Prop} (ht:∀ σ H Q,tD K M H0 f σ H Q→t σ H Q) (h:tB' K M H0 (fun ρ=>asB (f ρ)) σ H Q):tB t σ H Q:=by
 obtain ⟨ρ,b,R,e,q⟩:=h
 try dsimp only at e q
 refine ht σ H _ ⟨ρ,.bl b,R,ZeX e,fun v H' s hv=>?_⟩
 simp only [Den] at hv
 exact ⟨b,hv,q H' s⟩
theorem Zft {op:CmpOp} {r:R2} {F:D→D→Option D} (ho:OpR X (compareOp op) r) (hr:R2D K r F) (ha:PE X a (tP K M H0 f)) (hb:PE X b (tP K M H0 g)) (hm:behindInMarks op b=false):PT X (.Compare a [op] [b] pos) (tB' K M H0 fun ρ=>asB (Ze F f g ρ)) :=
 (Zpe ho ha hb hm).mono fun _ _ _ q=>Zpz (t:=tOp r (tP K M H0 f) (tP K M H0 g)) (fun _ _ _ z=>Zh8 hr z) q
@[simp] def ZbG (o:Option Bool):Option Bool:=o.map (!·)
@[simp] def ZiB (o p:Option Bool):Option Bool:=match o with
  | some true=>p
  | some false=>some false
  | none=>none
@[simp] def orB (o p:Option Bool):Option Bool:=match o with
  | some true=>some true
  | some false=>p
  | none=>none
section
variable {c c':VE→Option Bool} {ZZ:List Expr}
theorem Zqi (h:PT X a (tB' K M H0 c)):PT X (.UnaryOp .Not a pos) (tB' K M H0 fun ρ=>ZbG (c ρ)):=(ZqO h).mono fun σ H Q ⟨ρ,b,R,e,q⟩=>by
 try dsimp only at e q
 cases hc:c ρ with
 | none=>rw [hc] at e;cases e
 | some k=>rw [hc] at e;cases e;exact ⟨ρ,k,R,hc,q⟩
theorem Zcj (h:JT X a (tB' K M H0 c)):JT X (.UnaryOp .Not a pos) (tB' K M H0 fun ρ=>ZbG (c ρ)):=⟨Zqi h.h⟩
theorem Zqs (h:PT X a (tB' K M H0 c)):PW X (.BoolOp .Or [a] pos) (tB' K M H0 c):=ZqY h
theorem ZdO (h:JT X a (tB' K M H0 c)):JW X (.BoolOp .Or [a] pos) (tB' K M H0 c):=⟨Zqs h.h⟩
theorem Zso {σ:St} {H:Hp} {Q:Bool→Hp→Prop} (h:tB' K M H0 (fun ρ=>orB (c ρ) (c' ρ)) σ H Q):tOr (tB' K M H0 c) (tB' K M H0 c') σ H Q:=by
 obtain ⟨ρ,b,R,e,q⟩:=h
 try dsimp only at e q
 cases hc:c ρ with
 | none=>rw [hc] at e;cases e
 | some k =>
  cases k with
  | false=>rw [hc] at e;exact ⟨ρ,false,R,hc,fun H1 s=>by refine ZgS ?_;exact ⟨ρ,b,R.st s,e,fun H2 s2=>q H2 (s.trans s2)⟩⟩
  | true=>rw [hc] at e;cases e;exact ⟨ρ,true,R,hc,fun H1 s=>by refine ZgF ?_;exact q H1 s⟩
theorem ZsZ (h:PT X a (tB' K M H0 c)) (h':PW X (.BoolOp .Or (b::ZZ) pos) (tB' K M H0 c')):PW X (.BoolOp .Or (a::b::ZZ) pos) (tB' K M H0 fun ρ=>orB (c ρ) (c' ρ)):=(Zsx h h').mono fun _ _ _ q=>Zso q
theorem ZcK (h:JT X a (tB' K M H0 c)) (h':JW X (.BoolOp .Or (b::ZZ) pos) (tB' K M H0 c')):JW X (.BoolOp .Or (a::b::ZZ) pos) (tB' K M H0 fun ρ=>orB (c ρ) (c' ρ)):=⟨ZsZ h.h h'.h⟩
@[simp] def blO (o:Option Bool):Option D:=o.map D.bl
theorem Zk6 {σ:St} {H:Hp} {Q:VK} (h:tD K M H0 (fun ρ=>blO (c ρ)) σ H Q):∃ ρ b,Rel K M H0 ρ σ H∧c ρ=some b∧∀ H',Same H H'→Q (.bl b) H':=by
 obtain ⟨ρ,d,R,e,q⟩:=h
 try dsimp only at e q
 cases hc:c ρ with
 | none=>rw [hc] at e;cases e
 | some k=>rw [hc] at e;cases e;exact ⟨ρ,k,R,hc,fun H' s=>q _ H' s (by simp only [Den])⟩
theorem ZqM (h:PE X a (tD K M H0 f)):PE X (.UnaryOp .Not a pos) (tD K M H0 fun ρ=>blO (ZbG (asB (f ρ)))):=(Zsa h).mono fun σ H Q q=>by
 obtain ⟨ρ,b,R,e,q⟩:=Zk6 q
 try dsimp only at e q
 cases hc:asB (f ρ) with
 | none=>rw [hc] at e;cases e
 | some k =>
  rw [hc] at e;cases e
  refine ⟨ρ,.bl k,R,ZeX hc,fun v H' s hv=>?_⟩
  simp only [Den] at hv
  exact ⟨k,hv,q H' s⟩
theorem Zoa (h:JE X a (tD K M H0 f)):JE X (.UnaryOp .Not a pos) (tD K M H0 fun ρ=>blO (ZbG (asB (f ρ)))):=⟨ZqM h.h⟩
theorem Zqv {op} (h:PE X a (tD K M H0 f)):PE X (.BoolOp op [a] pos) (tD K M H0 fun ρ=>blO (asB (f ρ))):=(ZqH h).mono fun σ H Q q=>by
 obtain ⟨ρ,b,R,e,q⟩:=Zk6 q
 try dsimp only at e q
 exact ⟨ρ,.bl b,R,ZeX e,fun v H' s hv=>by simp only [Den] at hv;subst hv;exact q H' s⟩
theorem ZiZ {op} (h:JE X a (tD K M H0 f)):JE X (.BoolOp op [a] pos) (tD K M H0 fun ρ=>blO (asB (f ρ))):=⟨Zqv h.h⟩
theorem ZqD (h:PE X a (tD K M H0 f)) (h':PE X (.BoolOp .And (b::ZZ) pos) (tD K M H0 fun ρ=>blO (c' ρ))):PE X (.BoolOp .And (a::b::ZZ) pos) (tD K M H0 fun ρ=>blO (ZiB (asB (f ρ)) (c' ρ))):=(ZqC h h').mono fun σ H Q q=>by
 obtain ⟨ρ,b,R,e,q⟩:=Zk6 q
 try dsimp only at e q
 cases hc:asB (f ρ) with
 | none=>rw [hc] at e;cases e
 | some k =>
  refine ⟨ρ,.bl k,R,ZeX hc,fun v H' s hv=>?_⟩
  simp only [Den] at hv
  refine ⟨k,hv,?_⟩
  cases k with
  | true =>
   rw [hc] at e;refine ZgF ?_
   have e':c' ρ=some b:=e
   exact ⟨ρ,.bl b,R.st s,by show blO (c' ρ)=_;rw [e'];rfl,fun w H2 s2 hw=>by simp only [Den] at hw;subst hw;exact q H2 (s.trans s2)⟩
  | false=>rw [hc] at e;cases e;refine ZgS ?_;exact q H' s
theorem ZjE (h:JE X a (tD K M H0 f)) (h':JE X (.BoolOp .And (b::ZZ) pos) (tD K M H0 fun ρ=>blO (c' ρ))):JE X (.BoolOp .And (a::b::ZZ) pos) (tD K M H0 fun ρ=>blO (ZiB (asB (f ρ)) (c' ρ))):=⟨ZqD h.h h'.h⟩
@[simp] def Zg0 {α:Type} (c:Option Bool) (a b:Option α):Option α:=match c with
  | some true=>a
  | some false=>b
  | none=>none
theorem Zn6 {k:Expr} (hc:PT X k (tB' K M H0 c)) (ha:PE X a (tD K M H0 f)) (hb:PE X b (tD K M H0 g)):PE X (.IfExp k a b pos) (tD K M H0 fun ρ=>Zg0 (c ρ) (f ρ) (g ρ)):=(Zof hc ha hb).mono fun σ H Q ⟨ρ,d,R,e,q⟩=>by
 try dsimp only at e q
 cases hc:c ρ with
 | none=>rw [hc] at e;cases e
 | some k =>
  refine ⟨ρ,k,R,hc,fun H1 s=>?_⟩
  cases k with
  | true=>rw [hc] at e;refine ZgF ?_;exact ⟨ρ,d,R.st s,e,fun w H2 s2 hw=>q w H2 (s.trans s2) hw⟩
  | false=>rw [hc] at e;refine ZgS ?_;exact ⟨ρ,d,R.st s,e,fun w H2 s2 hw=>q w H2 (s.trans s2) hw⟩
theorem ZgM {k:Expr} (hc:JT X k (tB' K M H0 c)) (ha:JE X a (tD K M H0 f)) (hb:JE X b (tD K M H0 g)):JE X (.IfExp k a b pos) (tD K M H0 fun ρ=>Zg0 (c ρ) (f ρ) (g ρ)):=⟨Zn6 hc.h ha.h hb.h⟩
@[simp] def isN:D→Bool
  | .non=>true
  | _=>false
@[simp] def Zk1 (o:Option D):Option Bool:=o.map isN
theorem DenP.isN {K:PySem.W.Frag} {N:Fb} {H:Hp} {d:D} {v:V} (h:DenP K N H d v):decide (v=.non)=L2.isN d:=by
 cases d with
 | non=>simp only [DenP,Den] at h;subst h;rfl
 | bl _=>simp only [DenP,Den] at h;subst h;rfl
 | int _=>simp only [DenP,Den] at h;subst h;rfl
 | str _=>simp only [DenP,Den] at h;subst h;rfl
 | ty _=>simp only [DenP,Den] at h;subst h;rfl
 | tup _=>simp only [DenP,Den] at h;obtain ⟨a,vs,e,_⟩:=h;subst e;rfl
 | lst _ fl=>cases fl<;>(obtain ⟨a,vs,e,_⟩:=h;subst e;rfl)
theorem Zrt {j pos'} (h:PE X a (tP K M H0 f)):PT X (.Compare a [.Is] [.Constant .none j pos'] pos) (tB' K M H0 fun ρ=>Zk1 (f ρ)):=(Zsb (Zr2 h)).mono fun σ H Q ⟨ρ,b,R,e,q⟩=>by
 try dsimp only at e q
 cases hf:f ρ with
 | none=>rw [hf] at e;cases e
 | some d=>rw [hf] at e;cases e;exact ⟨ρ,d,R,hf,fun v H' s hv=>⟨_,rfl,by rw [hv.isN];exact q H' s⟩⟩
theorem ZiI {j pos'} (h:JE X a (tP K M H0 f)):JT X (.Compare a [.Is] [.Constant .none j pos'] pos) (tB' K M H0 fun ρ=>Zk1 (f ρ)):=⟨Zrt h.h⟩
end
end
end L2
set_option Elab.async false
set_option linter.all false
set_option maxRecDepth 100000
namespace L2
open PySem PySem.Spec PyProof.Rows
theorem Z1 {e:Expr} {es:List Expr} {env:Env} (h:∀ x p,e≠.Starred x p):starEach (e::es) env=(false,eval e env)::starEach es env:=by
 cases e with
 | Starred x p=>exact absurd rfl (h x p)
 | _=>rfl
def ArgOk (K:PySem.W.Frag) (N:Fb) (H:Hp):Sl→V→Prop
 | .val d,v=>Den K N H d v
 | .lent xs b,v=>∃ a vs,v=.ref a∧N a∧Rd H a (CO b xs vs)∧DenL K N H xs vs
 | _,_=>False
def ArgsOk (K:PySem.W.Frag) (N:Fb) (H:Hp):List Sl→List V→Prop
 | [],vs=>vs=[]
 | s::ss,vs=>∃ v r,vs=v::r∧ArgOk K N H s v∧ArgsOk K N H ss r
@[simp] def pk:Sl→Option D
  | .val d=>some d
  | .lent xs b=>some (.lst xs b)
  | .own xs b=>some (.lst xs b)
  | .no=>none
  | .exc _=>none
theorem ArgOk.same {K:PySem.W.Frag} {N:Fb} {H H':Hp} {s:Sl} {v:V} (h:ArgOk K N H s v) (sm:Same H H'):ArgOk K N H' s v:=by
 cases s with
 | val d=>exact Den.same h sm
 | lent xs fl=>obtain ⟨a,vs,e,n,q,r⟩:=h;exact ⟨a,vs,e,n,q.same sm,r.same sm⟩
 | no=>exact h
 | own xs fl=>exact h
 | exc c=>exact h
theorem ArgsOk.same {K:PySem.W.Frag} {N:Fb} {H H':Hp} (sm:Same H H'):∀ {ss:List Sl} {vs:List V},ArgsOk K N H ss vs→ArgsOk K N H' ss vs
 | [],_,h=>h
 | s::ss,_,⟨v,r,e,h,t⟩=>⟨v,r,e,h.same sm,ArgsOk.same sm t⟩
theorem ArgOk.p {K:PySem.W.Frag} {N:Fb} {H:Hp} {s:Sl} {v:V} (h:ArgOk K N H s v):∃ d,pk s=some d∧DenP K N H d v:=by
 cases s with
 | val d=>exact ⟨d,rfl,Den.p h⟩
 | lent xs fl=>obtain ⟨a,vs,e,n,q,r⟩:=h;subst e;exact ⟨_,rfl,Zha q r⟩
 | no=>exact False.elim h
 | own xs fl=>exact False.elim h
 | exc c=>exact False.elim h
theorem ArgsOk.length {K:PySem.W.Frag} {N:Fb} {H:Hp}:∀ {ss:List Sl} {vs:List V},ArgsOk K N H ss vs→ss.length=vs.length
 | [],_,h=>by cases h;rfl
 | s::ss,_,⟨v,r,e,h,t⟩=>by subst e;simp [ArgsOk.length t]
theorem ArgsOk.get {K:PySem.W.Frag} {N:Fb} {H:Hp}:∀ {ss:List Sl} {vs:List V} {i:Nat} {s:Sl},ArgsOk K N H ss vs→ss[i]?=some s→∃ v,vs[i]?=some v∧ArgOk K N H s v
 | [],_,i,s,h,e=>by simp at e
 | _::ss,_,0,s,⟨v,r,e1,h,t⟩,e=>by subst e1;simp at e;subst e;exact ⟨v,rfl,h⟩
 | _::ss,_,i+1,s,⟨v,r,e1,h,t⟩,e=>by
  subst e1
  obtain ⟨w,h1,h2⟩:=ArgsOk.get (i:=i) t (by simpa using e)
  exact ⟨w,by simpa using h1,h2⟩
def tA' (K:PySem.W.Frag) (M:Fb) (H0:Hp) (f:VE→Option (List Sl)):TA:=fun σ H Q=>∃ ρ ss,Rel K M H0 ρ σ H∧f ρ=some ss∧∀ vs H',Same H H'→ArgsOk K (Nf M ρ σ) H' ss vs→Q vs H'
def tS1 (K:PySem.W.Frag) (M:Fb) (H0:Hp) (f:VE→Option Sl):TE:=fun σ H Q=>∃ ρ s,Rel K M H0 ρ σ H∧f ρ=some s∧∀ v H',Same H H'→ArgOk K (Nf M ρ σ) H' s v→Q v H'
@[simp] def rdA (ρ:VE) (i:Nat):Option Sl:=match ρ[i]? with
  | some (.val d)=>some (.val d)
  | some (.own xs b)=>some (.lent xs b)
  | some (.lent xs b)=>some (.lent xs b)
  | _=>none
@[simp] def Zk (o:Option D):Option Sl:=o.map Sl.val
@[simp] def Zb {α:Type} (a:Option α) (b:Option (List α)):Option (List α):=a.bind fun x=>b.bind fun y=>some (x::y)
theorem ZdT {α:Type} {a:Option α} {b:Option (List α)} {l:List α} (h:Zb a b=some l):∃ x y,a=some x∧b=some y∧l=x::y:=by
 cases a with
 | none=>cases h
 | some x =>
  cases b with
  | none=>cases h
  | some y=>cases h;exact ⟨x,y,rfl,rfl,rfl⟩
section
variable {X:Cx} {K:PySem.W.Frag} {M:Fb} {H0:Hp} {e a b:Expr} {es:List Expr} {f g:VE→Option D} {fa:VE→Option (List Sl)} {f1:VE→Option Sl} {pos:Pos}
theorem Zru {i:Nat} {x:Str} (hN:X.N[i]?=some x) (hv:Vis X.env.scope x) (hd:(x==("__debug__":Str))=false:=by decide) (hcd:(x==("__classdict__":Str))=false:=by decide):PE X (.Name x pos) (tS1 K M H0 fun ρ=>rdA ρ i) :=
 (Zc4 hN hv hd hcd).mono fun σ H Q ⟨ρ,d,R,e,q⟩=>by
  try dsimp only at e q
  have fin:∀ v,σ[i]?.join=some v→ArgOk K (Nf M ρ σ) H d v→∃ v,σ[i]?=some (some v)∧Q v H:=fun v e1 h=>by
   refine ⟨v,?_,q v H (Same.refl H) h⟩
   cases z:σ[i]? with
   | none=>rw [z] at e1;cases e1
   | some o=>rw [z] at e1;cases e1;rfl
  unfold rdA at e
  split at e
  ·next h=>cases e;obtain ⟨v,e1,h⟩:=R.slot i _ h;exact fin v e1 h
  ·next h =>
   cases e
   obtain ⟨a,vs,e1,_,_,h3,h4⟩:=R.slot i _ h
   refine fin _ e1 ⟨a,vs,rfl,.inr ⟨i,_,_,h,?_⟩,.inl h3,h4⟩
   cases z:σ[i]? with
   | none=>rw [z] at e1;cases e1
   | some o=>rw [z] at e1;cases e1;rfl
  ·next h=>cases e;obtain ⟨a,vs,e1,h2,h3,h4⟩:=R.slot i _ h;exact fin _ e1 ⟨a,vs,rfl,.inl h2,h3,h4⟩
  ·cases e
theorem ZtL (h:PE X e (tD K M H0 f)):PE X e (tS1 K M H0 fun ρ=>Zk (f ρ)):=h.mono fun σ H Q ⟨ρ,s,R,e,q⟩=>by
 try dsimp only at e q
 cases hf:f ρ with
 | none=>rw [hf] at e;cases e
 | some d=>rw [hf] at e;cases e;exact ⟨ρ,d,R,hf,fun v H' s hv=>q v H' s hv⟩
theorem Zh (h:JE X e (tD K M H0 f)):JE X e (tS1 K M H0 fun ρ=>Zk (f ρ)):=⟨ZtL h.h⟩
theorem Zrr:PA X [] (tA' K M H0 fun _=>some []):=pa_nil.mono fun σ H Q ⟨ρ,ss,R,e,q⟩=>by
 try dsimp only at e q
 cases e;exact q [] H (Same.refl H) rfl
theorem Zf :JA X [] (tA' K M H0 fun _=>some []):=⟨Zrr ⟩
theorem Zo2 (h:PE X e (tS1 K M H0 f1)) (hr:PA X es (tA' K M H0 fa)) (hs:starEach (e::es) X.env=(false,eval e X.env)::starEach es X.env:=by exact Z1 (fun _ _ z=>nomatch z)):PA X (e::es) (tA' K M H0 fun ρ=>Zb (f1 ρ) (fa ρ)):=(ZaO h hr hs).mono fun σ H Q ⟨ρ,ss,R,e,q⟩=>by
 try dsimp only at e q
 obtain ⟨s,r,e1,e2,e3⟩:=ZdT e
 subst e3
 exact ⟨ρ,s,R,e1,fun v H1 s1 h1=>⟨ρ,r,R.st s1,e2,fun vs H2 s2 h2=>q (v::vs) H2 (s1.trans s2) ⟨v,vs,rfl,h1.same s2,h2⟩⟩⟩
theorem Za (h:JE X e (tS1 K M H0 f1)) (hr:JA X es (tA' K M H0 fa)) (hs:starEach (e::es) X.env=(false,eval e X.env)::starEach es X.env:=by exact Z1 (fun _ _ z=>nomatch z)):JA X (e::es) (tA' K M H0 fun ρ=>Zb (f1 ρ) (fa ρ)):=⟨Zo2 h.h hr.h hs⟩
@[simp] def Zw:List Sl→Option (List D)
  | []=>some []
  | .val d::r=>Zb (some d) (Zw r)
  | _=>none
theorem ZdE {K:PySem.W.Frag} {N:Fb} {H:Hp}:∀ {ss:List Sl} {vs:List V} {ds:List D},ArgsOk K N H ss vs→Zw ss=some ds→DenL K N H ds vs
 | [],_,_,h,e=>by cases e;cases h;exact DenL.nil
 | .val d::r,_,_,⟨v,t,e1,h,ht⟩,e=>by
  obtain ⟨x,y,e2,e3,e4⟩:=ZdT e
  cases e2;subst e1 e4
  exact DenL.cons h (ZdE ht e3)
 | .no::_,_,_,_,e=>nomatch e
 | .own _ _::_,_,_,_,e=>nomatch e
 | .lent _ _::_,_,_,_,e=>nomatch e
@[simp] def Zo {α:Type} (o:Option (List α)):Option (List α):=o.bind fun l=>if l.length≤sizeLine then some l else none
theorem ZeQ {α:Type} {o:Option (List α)} {l:List α} (h:Zo o=some l):o=some l∧l.length≤sizeLine:=by
 cases o with
 | none=>cases h
 | some x =>
  have h':(if x.length≤sizeLine then some x else none)=some l:=h
  split at h'
  ·cases h';exact ⟨rfl,by assumption⟩
  ·cases h'
theorem ZaH {H:Hp} {p:Addr} {o:HO} (h:H p=none):Same H (upd H p o):=fun b u e=>by rw [Zs (Z3 e h)];exact e
theorem ZfL {fl:Bool} {ρ:VE} {σ:St} {H H1:Hp} {Q:VK} {xs:List D} {vs:List V} {p:Addr} (s:Same H H1) (hp:H1 p=none) (h:DenL K (Nf M ρ σ) H1 xs vs)
  (q:∀ a vs H',Same H H'→H a=none→H' a=some (CO fl xs vs)→DenL K (fun b=>Nf M ρ σ b∨b=a) H' xs vs→Q (.ref a) H'):Q (.ref p) (upd H1 p (CO fl xs vs)):=by
 refine q p vs _ (s.trans (ZaH hp)) (s.free hp) Zam ?_
 refine (h.nw fun b hb=>?_).same (ZaH hp)
 rcases hb with hb | hb
 ·exact .inl hb
 ·subst hb;exact .inr hp
theorem Zrd (h:PA X es (tA' K M H0 fa)):PE X (.List es pos) (tF K M H0 fun ρ=>Zo ((fa ρ).bind Zw)):=(Zrh h).mono fun σ H Q ⟨ρ,xs,R,e,q⟩=>by
 try dsimp only at e q
 obtain ⟨e,hz⟩:=ZeQ e
 cases hf:fa ρ with
 | none=>rw [hf] at e;cases e
 | some ss =>
  rw [hf] at e
  refine ⟨ρ,ss,R,hf,fun vs H1 s1 h1=>?_⟩
  have hd:=ZdE h1 e
  exact ⟨by rw [← hd.length];exact hz,fun p hp=>ZfL s1 hp hd q⟩
theorem Zab (h:JA X es (tA' K M H0 fa)):JE X (.List es pos) (tF K M H0 fun ρ=>Zo ((fa ρ).bind Zw)):=⟨Zrd h.h⟩
theorem ZrY {x1} (h:PA X es (tA' K M H0 fa)):PE X (.Tuple es x1 pos) (tD K M H0 fun ρ=>(Zo ((fa ρ).bind Zw)).map D.tup):=(ZrW h).mono fun σ H Q ⟨ρ,d,R,e,q⟩=>by
 try dsimp only at e q
 cases hz:Zo ((fa ρ).bind Zw) with
 | none=>rw [hz] at e;cases e
 | some xs =>
  rw [hz] at e;cases e
  obtain ⟨e,hz⟩:=ZeQ hz
  cases hf:fa ρ with
  | none=>rw [hf] at e;cases e
  | some ss =>
   rw [hf] at e
   refine ⟨ρ,ss,R,hf,fun vs H1 s1 h1=>?_⟩
   have hd:=ZdE h1 e
   refine ⟨by rw [← hd.length];exact hz,fun p hp=>q _ _ (s1.trans (ZaH hp)) ?_⟩
   simp only [Den]
   exact ⟨p,vs,rfl,SqT.of Zam,hd.same (ZaH hp)⟩
theorem Zag {x1} (h:JA X es (tA' K M H0 fa)):JE X (.Tuple es x1 pos) (tD K M H0 fun ρ=>(Zo ((fa ρ).bind Zw)).map D.tup):=⟨ZrY h.h⟩
end
inductive Rv where
 | val (d:D) | own (xs:List D) (b:Bool:=false)
def Zll (K:PySem.W.Frag) (N:Fb) (H0 H':Hp):Rv→V→Prop
 | .val d,v=>Den K N H' d v
 | .own xs b,v=>∃ a vs,v=.ref a∧H0 a=none∧H' a=some (CO b xs vs)∧DenL K (fun b=>N b∨b=a) H' xs vs
def spD (K:PySem.W.Frag) (F:List Sl→Option Rv):Sp:=fun vs H Q _=>∃ N ss r,(∀ a,N a→H a≠none)∧ArgsOk K N H ss vs∧F ss=some r∧∀ v H',Same H H'→Zll K N H H' r v→Q v H'
@[simp] def rvD:Rv→D
  | .val d=>d
  | .own xs b=>.lst xs b
@[simp] def rvF:Rv→Option (List D)
  | .own xs=>some xs
  | _=>none
@[simp] def rvG:Rv→Option (List D)
  | .own xs true=>some xs
  | _=>none
section
variable {X:Cx} {K:PySem.W.Frag} {M:Fb} {H0:Hp} {e:Expr} {es:List Expr} {fa:VE→Option (List Sl)} {F:List Sl→Option Rv} {CX:CXT} {k:Nat} {fn:Addr} {fd:FuncData} {ps:List Str} {x:Str} {p pos:Pos} {E:XK}
@[simp] def Zr (F:List Sl→Option Rv) (fa:VE→Option (List Sl)):VE→Option D:=fun ρ=>(fa ρ).bind fun ss=>(F ss).map rvD
@[simp] def ZdQ (F:List Sl→Option Rv) (fa:VE→Option (List Sl)):VE→Option (List D):=fun ρ=>(fa ρ).bind fun ss=>(F ss).bind rvF
theorem Zpm {σ:St} {H:Hp} {Q:VK} (h:tD K M H0 (Zr F fa) σ H Q):Zlw (spD K F) [] E (tA' K M H0 fa) σ H Q:=by
 obtain ⟨ρ,d,R,e,q⟩:=h
 try dsimp only at e q
 unfold Zr at e
 cases hf:fa ρ with
 | none=>rw [hf] at e;cases e
 | some ss =>
  rw [hf] at e
  cases hF:F ss with
  | none=>simp only [Option.bind,hF] at e;cases e
  | some r =>
   simp only [Option.bind,hF] at e;cases e
   refine ⟨ρ,ss,R,hf,fun vs H1 s1 h1=>⟨Nf M ρ σ,ss,r,(R.st s1).nh,by rw [List.append_nil];exact h1,hF,fun v H2 s2 h2=>q v H2 (s1.trans s2) ?_⟩⟩
   cases r with
   | val d=>exact h2
   | own xs fl =>
    obtain ⟨a,ws,e1,z1,z2,z3⟩:=h2
    simp only [rvD,Den]
    exact ⟨a,ws,e1,.of (fun z=>(R.st s1).fresh z1 z) z2,z3.nw fun b hb=>.inl (.inl hb)⟩
@[simp] def ZuG (F:List Sl→Option Rv) (fa:VE→Option (List Sl)):VE→Option (List D):=fun ρ=>(fa ρ).bind fun ss=>(F ss).bind rvG
theorem Zpg {σ:St} {H:Hp} {Q:VK} (h:tF K M H0 (ZdQ F fa) σ H Q):Zlw (spD K F) [] E (tA' K M H0 fa) σ H Q:=by
 obtain ⟨ρ,d,R,e,q⟩:=h
 try dsimp only at e q
 unfold ZdQ at e
 cases hf:fa ρ with
 | none=>rw [hf] at e;cases e
 | some ss =>
  rw [hf] at e
  cases hF:F ss with
  | none=>simp only [Option.bind,hF] at e;cases e
  | some r =>
   simp only [Option.bind,hF] at e
   cases r with
   | val d=>cases e
   | own xs fl =>
    cases fl with
    | true=>cases e
    | false =>
     cases e
     refine ⟨ρ,ss,R,hf,fun vs H1 s1 h1=>⟨Nf M ρ σ,ss,_,(R.st s1).nh,by rw [List.append_nil];exact h1,hF,fun v H2 s2 h2=>?_⟩⟩
     obtain ⟨a,ws,e1,z1,z2,z3⟩:=h2
     subst e1
     exact q a ws H2 (s1.trans s2) (s1.free z1) z2 z3
theorem ZpC (G:FnOk X.prog X.w X.K X.mg X.base CX k fn fd ps (spD K F)) (hr:Room k X.A) (hg:Gl X x) (hm:X.mg x=some (.ref fn)) (hk:PySem.W.keepIn X.K (.ref fn)=true) (hb:Binds X.K fd ps []) (hx:ZdB CX X E)
  (ha:PA X (e::es) (tA' K M H0 fa)) (hdb:(x==("__debug__":Str))=false:=by decide) (he:starEach (e::es) X.env=(false,eval e X.env)::starEach es X.env:=by exact Z1 (fun _ _ z=>nomatch z)) (hpl:(backTo pos (starEach es X.env)).any (·.1)=false:=by rfl) :
  PE X (.Call (.Name x p) (e::es) [] pos) (tD K M H0 (Zr F fa)):=(Zkv G hr hg hm hk hb .nil hx ha hdb he hpl).mono fun _ _ _ h=>Zpm h
theorem Zq (G:FnOk X.prog X.w X.K X.mg X.base CX k fn fd ps (spD K F)) (hr:Room k X.A) (hg:Gl X x) (hm:X.mg x=some (.ref fn)) (hk:PySem.W.keepIn X.K (.ref fn)=true) (hb:Binds X.K fd ps []) (hx:ZdB CX X E) (ha:JA X (e::es) (tA' K M H0 fa)) (hdb:(x==("__debug__":Str))=false:=by decide) (he:starEach (e::es) X.env=(false,eval e X.env)::starEach es X.env:=by exact Z1 (fun _ _ z=>nomatch z)) (hpl:(backTo pos (starEach es X.env)).any (·.1)=false:=by rfl):JE X (.Call (.Name x p) (e::es) [] pos) (tD K M H0 (Zr F fa)):=⟨ZpC G hr hg hm hk hb hx ha.h hdb he hpl⟩
theorem Zpu (G:FnOk X.prog X.w X.K X.mg X.base CX k fn fd ps (spD K F)) (hr:Room k X.A) (hg:Gl X x) (hm:X.mg x=some (.ref fn)) (hk:PySem.W.keepIn X.K (.ref fn)=true) (hb:Binds X.K fd ps []) (hx:ZdB CX X E)
  (ha:PA X (e::es) (tA' K M H0 fa)) (hdb:(x==("__debug__":Str))=false:=by decide) (he:starEach (e::es) X.env=(false,eval e X.env)::starEach es X.env:=by exact Z1 (fun _ _ z=>nomatch z)) (hpl:(backTo pos (starEach es X.env)).any (·.1)=false:=by rfl) :
  PE X (.Call (.Name x p) (e::es) [] pos) (tF K M H0 (ZdQ F fa)):=(Zkv G hr hg hm hk hb .nil hx ha hdb he hpl).mono fun _ _ _ h=>Zpg h
theorem ZhB (G:FnOk X.prog X.w X.K X.mg X.base CX k fn fd ps (spD K F)) (hr:Room k X.A) (hg:Gl X x) (hm:X.mg x=some (.ref fn)) (hk:PySem.W.keepIn X.K (.ref fn)=true) (hb:Binds X.K fd ps []) (hx:ZdB CX X E) (ha:JA X (e::es) (tA' K M H0 fa)) (hdb:(x==("__debug__":Str))=false:=by decide) (he:starEach (e::es) X.env=(false,eval e X.env)::starEach es X.env:=by exact Z1 (fun _ _ z=>nomatch z)) (hpl:(backTo pos (starEach es X.env)).any (·.1)=false:=by rfl):JE X (.Call (.Name x p) (e::es) [] pos) (tF K M H0 (ZdQ F fa)):=⟨Zpu G hr hg hm hk hb hx ha.h hdb he hpl⟩
end
def RcD (K:PySem.W.Frag) (r:List V→Hp→VK→Prop) (F:List D→Option D):Prop:=∀ (N:Fb) (H:Hp) (vs:List V) (ds:List D) (d:D) (Q:VK),(∀ a,N a→H a≠none)→Paired (DenP K N H) ds vs→F ds=some d →
 (∀ v H',Same H H'→Den K N H' d v→Q v H')→r vs H Q
def RcF (K:PySem.W.Frag) (r:List V→Hp→VK→Prop) (F:List D→Option (List D)):Prop:=∀ (N:Fb) (H:Hp) (vs:List V) (ds:List D) (xs:List D) (Q:VK),(∀ a,N a→H a≠none)→Paired (DenP K N H) ds vs→F ds=some xs →
 (∀ ws p,H p=none→DenL K N H xs ws→Q (.ref p) (upd H p (.lst ws)))→r vs H Q
@[simp] def pks:List Sl→Option (List D)
  | []=>some []
  | s::r=>Zb (pk s) (pks r)
theorem Zf7 {K:PySem.W.Frag} {N:Fb} {H:Hp}:∀ {ss:List Sl} {vs:List V} {ds:List D},ArgsOk K N H ss vs→pks ss=some ds→Paired (DenP K N H) ds vs
 | [],_,_,h,e=>by cases e;cases h;exact .nil
 | s::r,_,_,⟨v,t,e1,h,ht⟩,e=>by
  obtain ⟨x,y,e2,e3,e4⟩:=ZdT e
  subst e1 e4
  obtain ⟨d,hd,hp⟩:=h.p
  rw [hd] at e2;cases e2
  exact .cons hp (Zf7 ht e3)
section
variable {X:Cx} {K:PySem.W.Frag} {M:Fb} {H0:Hp} {e:Expr} {es:List Expr} {fa:VE→Option (List Sl)} {x:Str} {p pos:Pos} {r:List V→Hp→VK→Prop} {F:List D→Option D} {G:List D→Option (List D)} {id:String}
@[simp] def ZH (F:List D→Option D) (fa:VE→Option (List Sl)):VE→Option D:=fun ρ=>((fa ρ).bind pks).bind F
@[simp] def Zc7 (F:List D→Option (List D)) (fa:VE→Option (List Sl)):VE→Option (List D):=fun ρ=>((fa ρ).bind pks).bind F
theorem ZoE (hr:RcD K r F) {σ:St} {H:Hp} {Q:VK} (h:tD K M H0 (ZH F fa) σ H Q):tCB r (tA' K M H0 fa) σ H Q:=by
 obtain ⟨ρ,d,R,e,q⟩:=h
 try dsimp only at e q
 unfold ZH at e
 cases hf:fa ρ with
 | none=>rw [hf] at e;cases e
 | some ss =>
  rw [hf] at e
  cases hp:pks ss with
  | none=>simp only [Option.bind,hp] at e;cases e
  | some ds =>
   simp only [Option.bind,hp] at e
   exact ⟨ρ,ss,R,hf,fun vs H1 s1 h1=>hr (Nf M ρ σ) H1 vs ds d Q (R.st s1).nh (Zf7 h1 hp) e fun v H' s hv=>q v H' (s1.trans s) hv⟩
theorem ZoB (hr:RcF K r G) {σ:St} {H:Hp} {Q:VK} (h:tF K M H0 (Zc7 G fa) σ H Q):tCB r (tA' K M H0 fa) σ H Q:=by
 obtain ⟨ρ,d,R,e,q⟩:=h
 try dsimp only at e q
 unfold Zc7 at e
 cases hf:fa ρ with
 | none=>rw [hf] at e;cases e
 | some ss =>
  rw [hf] at e
  cases hp:pks ss with
  | none=>simp only [Option.bind,hp] at e;cases e
  | some ds =>
   simp only [Option.bind,hp] at e
   exact ⟨ρ,ss,R,hf,fun vs H1 s1 h1=>hr (Nf M ρ σ) H1 vs ds d Q (R.st s1).nh (Zf7 h1 hp) e fun ws p hp hv=>ZfL s1 hp hv q⟩
theorem Zoq (hc:CallR X (.builtin id) r) (hF:RcD K r F) (hg:Gl X x) (hm:X.mg x=none) (hv:bootBuiltins x=some (.builtin id)) (ha:PA X (e::es) (tA' K M H0 fa)) (hn:x≠"__name__":=by decide) (hdb:(x==("__debug__":Str))=false:=by decide)
  (he:starEach (e::es) X.env=(false,eval e X.env)::starEach es X.env:=by exact Z1 (fun _ _ z=>nomatch z)) (hpl:(backTo pos (starEach es X.env)).any (·.1)=false:=by rfl):PE X (.Call (.Name x p) (e::es) [] pos) (tD K M H0 (ZH F fa)) :=
 (Zi0 hc hg hm hv ha hn hdb he hpl).mono fun _ _ _ h=>ZoE hF h
theorem ZC (hc:CallR X (.builtin id) r) (hF:RcD K r F) (hg:Gl X x) (hm:X.mg x=none) (hv:bootBuiltins x=some (.builtin id)) (ha:JA X (e::es) (tA' K M H0 fa)) (hn:x≠"__name__":=by decide) (hdb:(x==("__debug__":Str))=false:=by decide) (he:starEach (e::es) X.env=(false,eval e X.env)::starEach es X.env:=by exact Z1 (fun _ _ z=>nomatch z)) (hpl:(backTo pos (starEach es X.env)).any (·.1)=false:=by rfl):JE X (.Call (.Name x p) (e::es) [] pos) (tD K M H0 (ZH F fa)):=⟨Zoq hc hF hg hm hv ha.h hn hdb he hpl⟩
theorem Zn8 (hc:CallR X (.builtin id) r) (hF:RcF K r G) (hg:Gl X x) (hm:X.mg x=none) (hv:bootBuiltins x=some (.builtin id)) (ha:PA X (e::es) (tA' K M H0 fa)) (hn:x≠"__name__":=by decide) (hdb:(x==("__debug__":Str))=false:=by decide)
  (he:starEach (e::es) X.env=(false,eval e X.env)::starEach es X.env:=by exact Z1 (fun _ _ z=>nomatch z)) (hpl:(backTo pos (starEach es X.env)).any (·.1)=false:=by rfl):PE X (.Call (.Name x p) (e::es) [] pos) (tF K M H0 (Zc7 G fa)) :=
 (Zi0 hc hg hm hv ha hn hdb he hpl).mono fun _ _ _ h=>ZoB hF h
theorem Zk8 (hc:CallR X (.builtin id) r) (hF:RcF K r G) (hg:Gl X x) (hm:X.mg x=none) (hv:bootBuiltins x=some (.builtin id)) (ha:JA X (e::es) (tA' K M H0 fa)) (hn:x≠"__name__":=by decide) (hdb:(x==("__debug__":Str))=false:=by decide) (he:starEach (e::es) X.env=(false,eval e X.env)::starEach es X.env:=by exact Z1 (fun _ _ z=>nomatch z)) (hpl:(backTo pos (starEach es X.env)).any (·.1)=false:=by rfl):JE X (.Call (.Name x p) (e::es) [] pos) (tF K M H0 (Zc7 G fa)):=⟨Zn8 hc hF hg hm hv ha.h hn hdb he hpl⟩
theorem Zms (hc:CallR X (.type id) r) (hF:RcD K r F) (hg:Gl X x) (hm:X.mg x=none) (hv:bootBuiltins x=some (.type id)) (ha:PA X (e::es) (tA' K M H0 fa)) (hn:x≠"__name__":=by decide) (hdb:(x==("__debug__":Str))=false:=by decide)
  (he:starEach (e::es) X.env=(false,eval e X.env)::starEach es X.env:=by exact Z1 (fun _ _ z=>nomatch z)) (hpl:(backTo pos (starEach es X.env)).any (·.1)=false:=by rfl):PE X (.Call (.Name x p) (e::es) [] pos) (tD K M H0 (ZH F fa)) :=
 (Zhp hc hg hm hv ha hn hdb he hpl).mono fun _ _ _ h=>ZoE hF h
theorem Zai (hc:CallR X (.type id) r) (hF:RcD K r F) (hg:Gl X x) (hm:X.mg x=none) (hv:bootBuiltins x=some (.type id)) (ha:JA X (e::es) (tA' K M H0 fa)) (hn:x≠"__name__":=by decide) (hdb:(x==("__debug__":Str))=false:=by decide) (he:starEach (e::es) X.env=(false,eval e X.env)::starEach es X.env:=by exact Z1 (fun _ _ z=>nomatch z)) (hpl:(backTo pos (starEach es X.env)).any (·.1)=false:=by rfl):JE X (.Call (.Name x p) (e::es) [] pos) (tD K M H0 (ZH F fa)):=⟨Zms hc hF hg hm hv ha.h hn hdb he hpl⟩
theorem ZlS (hc:CallR X (.type id) r) (hF:RcF K r G) (hg:Gl X x) (hm:X.mg x=none) (hv:bootBuiltins x=some (.type id)) (ha:PA X (e::es) (tA' K M H0 fa)) (hn:x≠"__name__":=by decide) (hdb:(x==("__debug__":Str))=false:=by decide)
  (he:starEach (e::es) X.env=(false,eval e X.env)::starEach es X.env:=by exact Z1 (fun _ _ z=>nomatch z)) (hpl:(backTo pos (starEach es X.env)).any (·.1)=false:=by rfl):PE X (.Call (.Name x p) (e::es) [] pos) (tF K M H0 (Zc7 G fa)) :=
 (Zhp hc hg hm hv ha hn hdb he hpl).mono fun _ _ _ h=>ZoB hF h
theorem Zen (hc:CallR X (.type id) r) (hF:RcF K r G) (hg:Gl X x) (hm:X.mg x=none) (hv:bootBuiltins x=some (.type id)) (ha:JA X (e::es) (tA' K M H0 fa)) (hn:x≠"__name__":=by decide) (hdb:(x==("__debug__":Str))=false:=by decide) (he:starEach (e::es) X.env=(false,eval e X.env)::starEach es X.env:=by exact Z1 (fun _ _ z=>nomatch z)) (hpl:(backTo pos (starEach es X.env)).any (·.1)=false:=by rfl):JE X (.Call (.Name x p) (e::es) [] pos) (tF K M H0 (Zc7 G fa)):=⟨ZlS hc hF hg hm hv ha.h hn hdb he hpl⟩
theorem RcD.or {r r':List V→Hp→VK→Prop} {F F':List D→Option D} (h:RcD K r F) (h':RcD K r' F'):RcD K (fun xs H Q=>r xs H Q∨r' xs H Q) (fun ds=>orO (F ds) (F' ds)):=by
 intro N H vs ds d Q nh h1 e q
 cases hF:F ds with
 | some z=>simp only [hF,orO] at e;cases e;exact .inl (h N H vs ds d Q nh h1 hF q)
 | none=>simp only [hF,orO] at e;exact .inr (h' N H vs ds d Q nh h1 e q)
end
inductive Res where
 | fail | next (ρ:VE) | brk (ρ:VE) | cont (ρ:VE) | ret (r:Rv)
def Beh (K:PySem.W.Frag) (M:Fb) (H0:Hp) (ρ:VE) (σ:St) (H:Hp) (ρ':VE) (Q:St→Hp→Prop):Prop:=∀ σ' H',Rel K M H0 ρ' σ' H'→Step M (Nf M ρ σ) (Nf M ρ' σ') H H'→Q σ' H'
def resOk (K:PySem.W.Frag) (M:Fb) (H0:Hp) (ρ:VE) (σ:St) (H:Hp) (D:Ends):Res→Prop
 | .fail=>False
 | .next ρ'=>Beh K M H0 ρ σ H ρ' D.nx
 | .brk ρ'=>Beh K M H0 ρ σ H ρ' D.bk
 | .cont ρ'=>Beh K M H0 ρ σ H ρ' D.ct
 | .ret r=>∀ v H',Same H0 H'→Zll K M H0 H' r v→D.rt v H'
def tS (K:PySem.W.Frag) (M:Fb) (H0:Hp) (g:VE→Res):TS:=fun D σ H=>∃ ρ,Rel K M H0 ρ σ H∧resOk K M H0 ρ σ H D (g ρ)
@[simp] def Zi (a:Res) (g:VE→Res):Res:=match a with
  | .next ρ=>g ρ
  | r=>r
theorem Beh.from {K:PySem.W.Frag} {M:Fb} {H0:Hp} {ρ ρ1 ρ':VE} {σ σ1:St} {H H1:Hp} {Q:St→Hp→Prop} (s:Step M (Nf M ρ σ) (Nf M ρ1 σ1) H H1) (h:Beh K M H0 ρ σ H ρ' Q):Beh K M H0 ρ1 σ1 H1 ρ' Q :=
 fun σ' H' R s'=>h σ' H' R (s.trans s')
theorem resOk.from {K:PySem.W.Frag} {M:Fb} {H0:Hp} {ρ ρ1:VE} {σ σ1:St} {H H1:Hp} {D:Ends} {r:Res} (s:Step M (Nf M ρ σ) (Nf M ρ1 σ1) H H1) (h:resOk K M H0 ρ σ H D r):resOk K M H0 ρ1 σ1 H1 D r:=by
 cases r with
 | fail=>exact h
 | next ρ'=>exact Beh.from s h
 | brk ρ'=>exact Beh.from s h
 | cont ρ'=>exact Beh.from s h
 | ret r=>exact h
section
variable {X:Cx} {K:PySem.W.Frag} {M:Fb} {H0:Hp} {st:Stmt} {ZZ:List Stmt} {g g1 g2:VE→Res} {pos:Pos} {e:Expr} {f:VE→Option D}
theorem ZrX:PSs X [] (tS K M H0 fun ρ=>.next ρ):=pss_nil.mono fun D σ H ⟨ρ,R,q⟩=>q σ H R Step.refl
theorem Zj :JB X [] (tS K M H0 fun ρ=>.next ρ):=⟨ZrX ⟩
theorem Zpx (h1:PS X st (tS K M H0 g1)) (h2:PSs X ZZ (tS K M H0 g2)):PSs X (st::ZZ) (tS K M H0 fun ρ=>Zi (g1 ρ) g2):=(Zoo h1 h2).mono fun D σ H ⟨ρ,R,q⟩=>by
 try dsimp only at q
 refine ⟨ρ,R,?_⟩
 cases hg:g1 ρ with
 | fail=>rw [hg] at q;exact q
 | next ρ1=>rw [hg] at q;exact fun σ1 H1 R1 s1=>⟨ρ1,R1,q.from s1⟩
 | brk ρ1=>rw [hg] at q;exact q
 | cont ρ1=>rw [hg] at q;exact q
 | ret r=>rw [hg] at q;exact q
theorem Zc (h1:JS X st (tS K M H0 g1)) (h2:JB X ZZ (tS K M H0 g2)):JB X (st::ZZ) (tS K M H0 fun ρ=>Zi (g1 ρ) g2):=⟨Zpx h1.h h2.h⟩
@[simp] def ZQ (o:Option D):Res:=match o with
  | some d=>.ret (.val d)
  | none=>.fail
theorem ZrV (h:PE X e (tD K M H0 f)):PS X (.Return (some e) pos) (tS K M H0 fun ρ=>ZQ (f ρ)):=(ZgT h).mono fun D σ H ⟨ρ,R,q⟩=>by
 try dsimp only at q
 cases hf:f ρ with
 | none=>rw [hf] at q;exact False.elim q
 | some d =>
  rw [hf] at q
  exact ⟨ρ,d,R,hf,fun v H' s hv=>q v H' (R.same.trans s) (hv.nw fun a ha=>.inl (.inl ha))⟩
theorem Zy (h:JE X e (tD K M H0 f)):JS X (.Return (some e) pos) (tS K M H0 fun ρ=>ZQ (f ρ)):=⟨ZrV h.h⟩
@[simp] def ZaZ (o:Option (List D)):Res:=match o with
  | some xs=>.ret (.own xs)
  | none=>.fail
@[simp] def ZlJ (o:Option (List D)):Res:=match o with
  | some xs=>.ret (.own xs true)
  | none=>.fail
theorem Zo4 {f:VE→Option (List D)} (h:PE X e (tFb true K M H0 f)):PS X (.Return (some e) pos) (tS K M H0 fun ρ=>ZlJ (f ρ)):=(ZgT h).mono fun D σ H ⟨ρ,R,q⟩=>by
 try dsimp only at q
 cases hf:f ρ with
 | none=>rw [hf] at q;exact False.elim q
 | some xs =>
  rw [hf] at q
  exact ⟨ρ,xs,R,hf,fun a vs H' s z1 z2 z3=>q (.ref a) H' (R.same.trans s) ⟨a,vs,rfl,R.same.free z1,z2,z3.nw fun b hb=>by
   rcases hb with hb | hb
   ·exact .inl (.inl (.inl hb))
   ·exact .inl (.inr hb)⟩⟩
theorem Zl0 {f:VE→Option (List D)} (h:JE X e (tFb true K M H0 f)):JS X (.Return (some e) pos) (tS K M H0 fun ρ=>ZlJ (f ρ)):=⟨Zo4 h.h⟩
theorem Zps {f:VE→Option (List D)} (h:PE X e (tF K M H0 f)):PS X (.Return (some e) pos) (tS K M H0 fun ρ=>ZaZ (f ρ)):=(ZgT h).mono fun D σ H ⟨ρ,R,q⟩=>by
 try dsimp only at q
 cases hf:f ρ with
 | none=>rw [hf] at q;exact False.elim q
 | some xs =>
  rw [hf] at q
  exact ⟨ρ,xs,R,hf,fun a vs H' s z1 z2 z3=>q (.ref a) H' (R.same.trans s) ⟨a,vs,rfl,R.same.free z1,z2,z3.nw fun b hb=>by
   rcases hb with hb | hb
   ·exact .inl (.inl (.inl hb))
   ·exact .inl (.inr hb)⟩⟩
theorem Zcu {f:VE→Option (List D)} (h:JE X e (tF K M H0 f)):JS X (.Return (some e) pos) (tS K M H0 fun ρ=>ZaZ (f ρ)):=⟨Zps h.h⟩
@[simp] def rdO (ρ:VE) (i:Nat):Option (List D):=match ρ[i]? with
  | some (.own xs)=>some xs
  | _=>none
theorem Zgh {ρ:VE} {i:Nat} {xs:List D} (h:rdO ρ i=some xs):ρ[i]?=some (.own xs):=by
 unfold rdO at h
 split at h
 ·cases h;assumption
 ·cases h
@[simp] def rdG (ρ:VE) (i:Nat):Option (List D):=match ρ[i]? with
  | some (.own xs true)=>some xs
  | _=>none
theorem Ziv {ρ:VE} {i:Nat} {xs:List D} (h:rdG ρ i=some xs):ρ[i]?=some (.own xs true):=by
 unfold rdG at h
 split at h
 ·cases h;assumption
 ·cases h
theorem join_some {σ:St} {i:Nat} {v:V} (e1:σ[i]?.join=some v):σ[i]?=some (some v):=by
 cases z:σ[i]? with
 | none=>rw [z] at e1;cases e1
 | some o=>rw [z] at e1;cases e1;rfl
theorem Zo0 {i:Nat} {x:Str} {vpos:Pos} (hN:X.N[i]?=some x) (hv:Vis X.env.scope x) (hd:(x==("__debug__":Str))=false:=by decide) (hcd:(x==("__classdict__":Str))=false:=by decide) :
  PS X (.Return (some (.Name x vpos)) pos) (tS K M H0 fun ρ=>ZaZ (rdO ρ i)):=(ZgT (Zc4 hN hv hd hcd)).mono fun D σ H ⟨ρ,R,q⟩=>by
 try dsimp only at q
 cases hf:rdO ρ i with
 | none=>rw [hf] at q;exact False.elim q
 | some xs =>
  rw [hf] at q
  obtain ⟨a,vs,e1,z1,z2,z3,z4⟩:=R.slot i _ (Zgh hf)
  refine ⟨.ref a,join_some e1,q (.ref a) H R.same ⟨a,vs,rfl,z1,z3,z4.nw fun b hb=>.inl ?_⟩⟩
  rcases hb with hb | hb
  ·exact .inl hb
  ·subst hb;exact .inr ⟨i,xs,_,Zgh hf,join_some e1⟩
@[simp] def Zaa (c:Option Bool) (a b:Res):Res:=match c with
  | some true=>a
  | some false=>b
  | none=>.fail
theorem ZsF {c:Expr} {a b:List Stmt} {t:VE→Option Bool} (hc:PT X c (tB' K M H0 t)) (ha:PSs X a (tS K M H0 g1)) (hb:PSs X b (tS K M H0 g2)):PS X (.If c a b pos) (tS K M H0 fun ρ=>Zaa (t ρ) (g1 ρ) (g2 ρ)):=(ZsP hc ha hb).mono fun D σ H ⟨ρ,R,q⟩=>by
 try dsimp only at q
 cases ht:t ρ with
 | none=>rw [ht] at q;exact False.elim q
 | some k =>
  rw [ht] at q
  refine ⟨ρ,k,R,ht,fun H1 s=>?_⟩
  cases k with
  | true=>refine ZgF ?_;exact ⟨ρ,R.st s,resOk.from (Step.of_same s) q⟩
  | false=>refine ZgS ?_;exact ⟨ρ,R.st s,resOk.from (Step.of_same s) q⟩
theorem Zac {c:Expr} {a b:List Stmt} {t:VE→Option Bool} (hc:JT X c (tB' K M H0 t)) (ha:JB X a (tS K M H0 g1)) (hb:JB X b (tS K M H0 g2)):JS X (.If c a b pos) (tS K M H0 fun ρ=>Zaa (t ρ) (g1 ρ) (g2 ρ)):=⟨ZsF hc.h ha.h hb.h⟩
theorem Zcq {α:Type} {l:List α} {i:Nat} {x y:α} (h:(l.set i x)[i]?=some y):i<l.length∧x=y:=by
 by_cases hi:i<l.length
 ·rw [List.getElem?_set_self hi] at h;exact ⟨hi,Option.some.inj h⟩
 ·rw [List.getElem?_eq_none (by simpa using Nat.le_of_not_lt hi)] at h;cases h
theorem Zfv {M:Fb} {ρ:VE} {σ:St} {i:Nat} {s:Sl} {v:V} {b:Addr} (hl:ρ.length=σ.length) (h:Nf M (ρ.set i s) (σ.set i (some v)) b):Nf M ρ σ b∨∃ xs fl,s=.own xs fl∧v=.ref b:=by
 rcases h with h | ⟨j,xs,fl,h1,h2⟩
 ·exact .inl (.inl h)
 ·by_cases e:i=j
  ·subst e
   have q1:=(Zcq h1).2
   have q2:=(Zcq h2).2
   cases q1;cases q2;exact .inr ⟨xs,fl,rfl,rfl⟩
  ·rw [List.getElem?_set_ne e] at h1 h2
   exact .inl (.inr ⟨j,xs,fl,h1,h2⟩)
theorem Rel.put {ρ:VE} {σ:St} {H H':Hp} {i:Nat} {s:Sl} {v:V} (R:Rel K M H0 ρ σ H) (S:Step M (Nf M ρ σ) (Nf M (ρ.set i s) (σ.set i (some v))) H H') (sm:Same H0 H')
  (ow:∀ j a vs xs fl,j≠i→ρ[j]?=some (.own xs fl)→σ[j]?=some (some (.ref a))→H a=some (CO fl xs vs)→H' a=some (CO fl xs vs))
  (hs:i<ρ.length→Zrn K M (Nf M (ρ.set i s) (σ.set i (some v))) H0 H' s (some v))
  (hinj:∀ xs fl a j ys fl',s=.own xs fl→v=.ref a→j≠i→ρ[j]?=some (.own ys fl')→σ[j]?≠some (some (.ref a))):Rel K M H0 (ρ.set i s) (σ.set i (some v)) H' where
 len:=by rw [List.length_set,List.length_set];exact R.len
 same:=sm
 mh:=fun a h z=>by
  cases e:H a with
  | none=>exact R.mh a h e
  | some o=>rw [S.kp a o e (.inr (.inl h))] at z;cases z
 slot:=fun j sl e=>by
  by_cases eij:i=j
  ·subst eij
   obtain ⟨hi,e⟩:=Zcq e
   subst e
   rw [List.getElem?_set_self (by rw [← R.len];exact hi)]
   exact hs hi
  ·rw [List.getElem?_set_ne eij] at e ⊢
   have q:=R.slot j sl e
   cases sl with
   | no=>trivial
   | val d=>obtain ⟨u,e1,h⟩:=q;exact ⟨u,e1,Den.step S d u h⟩
   | own xs fl=>obtain ⟨a,vs,e1,h1,h2,h3,h4⟩:=q;exact ⟨a,vs,e1,h1,h2,ow j a vs xs fl (Ne.symm eij) e (join_some e1) h3,DenL.step S xs vs h4⟩
   | lent xs fl=>obtain ⟨a,vs,e1,h1,h2,h3⟩:=q;exact ⟨a,vs,e1,h1,h2.step S (.inr (.inl h1)),DenL.step S xs vs h3⟩
   | exc c=>obtain ⟨a,C,e1,h1,h2⟩:=q;exact ⟨a,C,e1,h1,S.kp _ _ h2 (.inr (.inr rfl))⟩
 inj:=fun j k xs ys fl fl' a h1 h2 h3 h4=>by
  by_cases ej:i=j
  ·by_cases ek:i=k
   ·rw [← ej,ek]
   ·subst ej
    rw [List.getElem?_set_ne ek] at h2 h4
    have q1:=(Zcq h1).2
    have q3:=(Zcq h3).2
    cases q1;cases q3;exact absurd h4 (hinj xs fl a k ys fl' rfl rfl (Ne.symm ek) h2)
  ·rw [List.getElem?_set_ne ej] at h1 h3
   by_cases ek:i=k
   ·subst ek
    have q2:=(Zcq h2).2
    have q4:=(Zcq h4).2
    cases q2;cases q4;exact absurd h3 (hinj ys fl' a j xs fl rfl rfl (Ne.symm ej) h1)
   ·rw [List.getElem?_set_ne ek] at h2 h4
    exact R.inj j k xs ys fl fl' a h1 h2 h3 h4
theorem Rel.setV {ρ:VE} {σ:St} {H H':Hp} {i:Nat} {d:D} {v:V} (R:Rel K M H0 ρ σ H) (s:Same H H') (h:Den K (Nf M ρ σ) H' d v) :
  Rel K M H0 (ρ.set i (.val d)) (σ.set i (some v)) H'∧Step M (Nf M ρ σ) (Nf M (ρ.set i (.val d)) (σ.set i (some v))) H H':=by
 have S:Step M (Nf M ρ σ) (Nf M (ρ.set i (.val d)) (σ.set i (some v))) H H':=⟨fun a o e _=>s a o e,fun b hb=>by
  rcases Zfv R.len hb with q | ⟨xs,_,e,_⟩
  ·exact .inl q
  ·cases e⟩
 refine ⟨R.put S (R.same.trans s) (fun j a vs xs fl _ _ _ e=>s _ _ e) (fun _=>⟨v,rfl,h.nw fun b hb=>?_⟩) (fun xs fl a j ys fl' e=>nomatch e),S⟩
 rcases Zfv R.len hb with q | ⟨xs,_,e,_⟩
 ·exact .inl q
 ·cases e
theorem Rel.setO {fl:Bool} {ρ:VE} {σ:St} {H H':Hp} {i:Nat} {xs:List D} {a:Addr} {vs:List V} (R:Rel K M H0 ρ σ H) (s:Same H H') (hn:H a=none) (ha:H' a=some (CO fl xs vs)) (h:DenL K (fun b=>Nf M ρ σ b∨b=a) H' xs vs) :
  Rel K M H0 (ρ.set i (.own xs fl)) (σ.set i (some (.ref a))) H'∧Step M (Nf M ρ σ) (Nf M (ρ.set i (.own xs fl)) (σ.set i (some (.ref a)))) H H':=by
 have nf:∀ b,Nf M (ρ.set i (.own xs fl)) (σ.set i (some (.ref a))) b→Nf M ρ σ b∨b=a:=fun b hb=>by
  rcases Zfv R.len hb with q | ⟨xs,fl,e,e'⟩
  ·exact .inl q
  ·cases e';exact .inr rfl
 have S:Step M (Nf M ρ σ) (Nf M (ρ.set i (.own xs fl)) (σ.set i (some (.ref a)))) H H':=⟨fun a o e _=>s a o e,fun b hb=>by
  rcases nf b hb with q | q
  ·exact .inl q
  ·subst q;exact .inr hn⟩
 refine ⟨R.put S (R.same.trans s) (fun j a vs xs fl _ _ _ e=>s _ _ e) (fun _=>⟨a,vs,rfl,R.same.free hn,fun hm=>R.fresh hn (.inl hm),ha,h.nw fun b hb=>.inl (nf b hb)⟩) (fun xs' fl' a' j ys fl2 e e' hj h1 h2=>?_),S⟩
 cases e'
 exact R.fresh hn (.inr ⟨j,ys,fl2,h1,h2⟩)
theorem Rel.chg {fl fl2:Bool} {ρ:VE} {σ:St} {H:Hp} {i:Nat} {xs ys:List D} {a:Addr} {ws:List V} (R:Rel K M H0 ρ σ H) (hi:ρ[i]?=some (.own xs fl)) (ha:σ[i]?=some (some (.ref a))) (h:DenL K (Nf M ρ σ) H ys ws) :
  Rel K M H0 (ρ.set i (.own ys fl2)) σ (upd H a (CO fl2 ys ws))∧Step M (Nf M ρ σ) (Nf M (ρ.set i (.own ys fl2)) σ) H (upd H a (CO fl2 ys ws)):=by
 obtain ⟨a',vs,e1,z1,z2,z3,z4⟩:=R.slot i _ hi
 rw [ha] at e1
 have ea:a=a':=by simpa using e1
 subst ea
 have hσ:σ.set i (some (.ref a))=σ:=by
  apply List.ext_getElem?
  intro j
  by_cases e:i=j
  ·subst e
   rw [List.getElem?_set_self (List.getElem?_eq_some_iff.mp ha).1,ha]
  ·rw [List.getElem?_set_ne e]
 have na:Nf M ρ σ a:=.inr ⟨i,xs,fl,hi,ha⟩
 have nf:∀ b,Nf M (ρ.set i (.own ys fl2)) (σ.set i (some (.ref a))) b→Nf M ρ σ b:=fun b hb=>by
  rcases Zfv R.len hb with q | ⟨xs,_,e,e'⟩
  ·exact q
  ·cases e';exact na
 have S:Step M (Nf M ρ σ) (Nf M (ρ.set i (.own ys fl2)) (σ.set i (some (.ref a)))) H (upd H a (CO fl2 ys ws)):=⟨fun b o e z=>by
   have ne:b≠a:=by
    rintro rfl
    rcases z with z | z | z
    ·exact z na
    ·exact z2 z
    ·rw [z3] at e;cases e;rw [ZqT] at z;cases z
   rw [Zs ne];exact e,fun b hb=>.inl (nf b hb)⟩
 have key:Rel K M H0 (ρ.set i (.own ys fl2)) (σ.set i (some (.ref a))) (upd H a (CO fl2 ys ws)):=by
  refine R.put S (fun b o e=>?_) (fun j b us xs' fl' hj h1 h2 h3=>?_) (fun _=>⟨a,ws,rfl,z1,z2,Zam,DenL.step S ys ws h⟩) (fun xs' fl3 b j ys' fl' e e' hj h1 h2=>?_)
  ·have ne:b≠a:=by
    rintro rfl
    rw [z1] at e;cases e
   rw [Zs ne];exact R.same b o e
  ·have ne:b≠a:=by
    rintro rfl
    exact hj (R.inj j i xs' xs fl' fl b h1 hi h2 ha)
   rw [Zs ne];exact h3
  ·cases e'
   exact hj (R.inj j i ys' xs fl' fl _ h1 hi h2 ha)
 rw [hσ] at key S
 exact ⟨key,S⟩
theorem Rel.frz {fl:Bool} {ρ:VE} {σ:St} {H:Hp} {i:Nat} {xs:List D} (R:Rel K M H0 ρ σ H) (hi:ρ[i]?=some (.own xs fl)) :
  Rel K M H0 (ρ.set i (.val (.lst xs fl))) σ H∧Step M (Nf M ρ σ) (Nf M (ρ.set i (.val (.lst xs fl))) σ) H H:=by
 obtain ⟨a,vs,e1,z1,z2,z3,z4⟩:=R.slot i _ hi
 have ha:=join_some e1
 have hσ:σ.set i (some (.ref a))=σ:=by
  apply List.ext_getElem?
  intro j
  by_cases e:i=j
  ·subst e
   rw [List.getElem?_set_self (List.getElem?_eq_some_iff.mp ha).1,ha]
  ·rw [List.getElem?_set_ne e]
 have nf:∀ b,Nf M (ρ.set i (.val (.lst xs fl))) (σ.set i (some (.ref a))) b→Nf M ρ σ b:=fun b hb=>by
  rcases Zfv R.len hb with q | ⟨xs,_,e,e'⟩
  ·exact q
  ·cases e
 have nna:¬ Nf M (ρ.set i (.val (.lst xs fl))) (σ.set i (some (.ref a))) a:=by
  rintro (h | ⟨j,ys,fl',h1,h2⟩)
  ·exact z2 h
  ·by_cases e:i=j
   ·subst e
    have q1:=(Zcq h1).2
    cases q1
   ·rw [List.getElem?_set_ne e] at h1 h2
    exact e (R.inj i j xs ys _ _ a hi h1 ha h2)
 have S:Step M (Nf M ρ σ) (Nf M (ρ.set i (.val (.lst xs fl))) (σ.set i (some (.ref a)))) H H:=⟨fun _ _ e _=>e,fun b hb=>.inl (nf b hb)⟩
 have key:Rel K M H0 (ρ.set i (.val (.lst xs fl))) (σ.set i (some (.ref a))) H:=by
  refine R.put S R.same (fun _ _ _ _ _ _ _ _ h=>h) (fun _=>⟨.ref a,rfl,?_⟩) (fun xs' _ b j ys' _ e=>nomatch e)
  simp only [Den]
  exact ⟨a,vs,rfl,.of nna z3,DenL.step S xs vs z4⟩
 rw [hσ] at key S
 exact ⟨key,S⟩
@[simp] def ZL (i:Nat) (o:Option D) (ρ:VE):Res:=match o with
  | some d=>.next (ρ.set i (.val d))
  | none=>.fail
@[simp] def ZaM (i:Nat) (o:Option (List D)) (ρ:VE):Res:=match o with
  | some xs=>.next (ρ.set i (.own xs))
  | none=>.fail
@[simp] def Zdl (i:Nat) (o:Option (List D)) (ρ:VE):Res:=match o with
  | some xs=>.next (ρ.set i (.own xs true))
  | none=>.fail
theorem Zre {f:VE→Option (List D)} {i:Nat} {D':Ends} {σ:St} {H:Hp} (h:tS K M H0 (fun ρ=>Zdl i (f ρ) ρ) D' σ H):Zg7 (tFb true K M H0 f) (ZeW i) D' σ H:=by
 obtain ⟨ρ,R,q⟩:=h
 try dsimp only at q
 cases hf:f ρ with
 | none=>simp only [hf,Zdl] at q;exact False.elim q
 | some d =>
  simp only [hf,Zdl] at q
  refine ⟨ρ,d,R,hf,fun a vs H1 s z1 z2 z3=>?_⟩
  obtain ⟨R1,S1⟩:=R.setO (i:=i) s z1 z2 z3
  exact q _ _ R1 S1
theorem Zo8 {f:VE→Option (List D)} {i:Nat} {x:Str} {pos':Pos} (hN:X.N.Nodup) (hi:X.N[i]?=some x) (hx:Loc X.env.scope x) (he:PE X e (tFb true K M H0 f)) (hs:swapsWith e (some (.Name x pos')) pos.line X.env=pure false:=by rfl) (hf:X.fn x=true∨X.env.scope.names.lookup x=some .local:=by first | exact .inl rfl | exact .inr rfl | assumption) :
  PS X (.Assign [.Name x pos'] e pos) (tS K M H0 fun ρ=>Zdl i (f ρ) ρ):=(Zil hN hi hx he hs hf).mono fun _ _ _ q=>Zre q
theorem ZhL {f:VE→Option (List D)} {i:Nat} {x:Str} {pos':Pos} (hN:X.N.Nodup) (hi:X.N[i]?=some x) (hx:Loc X.env.scope x) (he:JE X e (tFb true K M H0 f)) (hs:swapsWith e (some (.Name x pos')) pos.line X.env=pure false:=by rfl) (hf:X.fn x=true∨X.env.scope.names.lookup x=some .local:=by first | exact .inl rfl | exact .inr rfl | assumption):JS X (.Assign [.Name x pos'] e pos) (tS K M H0 fun ρ=>Zdl i (f ρ) ρ):=⟨Zo8 hN hi hx he.h hs hf⟩
theorem Znh {i:Nat} {D':Ends} {σ:St} {H:Hp} (h:tS K M H0 (fun ρ=>ZL i (f ρ) ρ) D' σ H):Zg7 (tD K M H0 f) (ZeW i) D' σ H:=by
 obtain ⟨ρ,R,q⟩:=h
 try dsimp only at q
 cases hf:f ρ with
 | none=>simp only [hf,ZL] at q;exact False.elim q
 | some d =>
  simp only [hf,ZL] at q
  refine ⟨ρ,d,R,hf,fun v H1 s hv=>?_⟩
  obtain ⟨R1,S1⟩:=R.setV (i:=i) s hv
  exact q _ _ R1 S1
theorem ZqE {f:VE→Option (List D)} {i:Nat} {D':Ends} {σ:St} {H:Hp} (h:tS K M H0 (fun ρ=>ZaM i (f ρ) ρ) D' σ H):Zg7 (tF K M H0 f) (ZeW i) D' σ H:=by
 obtain ⟨ρ,R,q⟩:=h
 try dsimp only at q
 cases hf:f ρ with
 | none=>simp only [hf,ZaM] at q;exact False.elim q
 | some d =>
  simp only [hf,ZaM] at q
  refine ⟨ρ,d,R,hf,fun a vs H1 s z1 z2 z3=>?_⟩
  obtain ⟨R1,S1⟩:=R.setO (i:=i) s z1 z2 z3
  exact q _ _ R1 S1
theorem Zrf {i:Nat} {x:Str} {pos':Pos} (hN:X.N.Nodup) (hi:X.N[i]?=some x) (hx:Loc X.env.scope x) (he:PE X e (tD K M H0 f)) (hs:swapsWith e (some (.Name x pos')) pos.line X.env=pure false:=by rfl) (hf:X.fn x=true∨X.env.scope.names.lookup x=some .local:=by first | exact .inl rfl | exact .inr rfl | assumption) :
  PS X (.Assign [.Name x pos'] e pos) (tS K M H0 fun ρ=>ZL i (f ρ) ρ):=(Zil hN hi hx he hs hf).mono fun _ _ _ q=>Znh q
theorem ZE {i:Nat} {x:Str} {pos':Pos} (hN:X.N.Nodup) (hi:X.N[i]?=some x) (hx:Loc X.env.scope x) (he:JE X e (tD K M H0 f)) (hs:swapsWith e (some (.Name x pos')) pos.line X.env=pure false:=by rfl) (hf:X.fn x=true∨X.env.scope.names.lookup x=some .local:=by first | exact .inl rfl | exact .inr rfl | assumption):JS X (.Assign [.Name x pos'] e pos) (tS K M H0 fun ρ=>ZL i (f ρ) ρ):=⟨Zrf hN hi hx he.h hs hf⟩
theorem ZpJ {f:VE→Option (List D)} {i:Nat} {x:Str} {pos':Pos} (hN:X.N.Nodup) (hi:X.N[i]?=some x) (hx:Loc X.env.scope x) (he:PE X e (tF K M H0 f)) (hs:swapsWith e (some (.Name x pos')) pos.line X.env=pure false:=by rfl) (hf:X.fn x=true∨X.env.scope.names.lookup x=some .local:=by first | exact .inl rfl | exact .inr rfl | assumption) :
  PS X (.Assign [.Name x pos'] e pos) (tS K M H0 fun ρ=>ZaM i (f ρ) ρ):=(Zil hN hi hx he hs hf).mono fun _ _ _ q=>ZqE q
theorem Zbo {f:VE→Option (List D)} {i:Nat} {x:Str} {pos':Pos} (hN:X.N.Nodup) (hi:X.N[i]?=some x) (hx:Loc X.env.scope x) (he:JE X e (tF K M H0 f)) (hs:swapsWith e (some (.Name x pos')) pos.line X.env=pure false:=by rfl) (hf:X.fn x=true∨X.env.scope.names.lookup x=some .local:=by first | exact .inl rfl | exact .inr rfl | assumption):JS X (.Assign [.Name x pos'] e pos) (tS K M H0 fun ρ=>ZaM i (f ρ) ρ):=⟨ZpJ hN hi hx he.h hs hf⟩
@[simp] def ZuR (i:Nat) (ρ:VE):VE:=match ρ[i]? with
  | some (.own xs b)=>ρ.set i (.val (.lst xs b))
  | _=>ρ
@[simp] def Zbd (i:Nat) (o:Option D) (ρ:VE):Res:=match rdO ρ i,o with
  | some xs,some d=>if xs.length<sizeLine then .next (ρ.set i (.own (xs++[d]))) else .fail
  | _,_=>.fail
theorem ZmJ {i:Nat} {x:Str} {vpos apos cpos:Pos} (hN:X.N[i]?=some x) (hv:Vis X.env.scope x) (he:PE X e (tD K M H0 f)) (hd:(x==("__debug__":Str))=false:=by decide) (hcd:(x==("__classdict__":Str))=false:=by decide)
  (hs:swapsWith (.Call (.Attribute (.Name x vpos) "append" apos) [e] [] cpos) none pos.line X.env=pure false:=by rfl)
  (hbase:attributeBase (.Name x vpos) "append" X.env (eval (.Name x vpos) X.env)=eval (.Name x vpos) X.env:=by rfl)
  (hfew:((backTo cpos (starEach [e] X.env)).all (fun x=>!x.1)&&(backToKw cpos (keywordEach [] X.env)).all (fun x=>x.1.isSome)
   && decide ([e].length+([]:List Keyword).length+(if ([]:List Keyword).isEmpty then 0 else 1)<30))=true:=by rfl)
  (hline:(apos.endLine==cpos.line)=true:=by rfl) (hst:starEach [e] X.env=(false,eval e X.env)::starEach [] X.env:=by rfl) (hpl:(backTo cpos (starEach [] X.env)).any (·.1)=false:=by rfl) :
  PS X (.Expr (.Call (.Attribute (.Name x vpos) "append" apos) [e] [] cpos) pos) (tS K M H0 fun ρ=>Zbd i (f ρ) ρ) :=
 (Zo5 (Zk7 PySem.F.plainAttrs_list PySem.F.slot_list_append PySem.F.type_list_append Zm2 (Zc4 hN hv hd hcd) (ZaO he pa_nil hst) hbase hfew hline hst hpl) hs).mono fun D' σ H ⟨ρ,R,q⟩=>by
  try dsimp only at q
  cases hr:rdO ρ i with
  | none=>simp only [hr,Zbd] at q;exact False.elim q
  | some xs =>
   cases hf:f ρ with
   | none=>simp only [hr,hf,Zbd] at q;exact False.elim q
   | some d =>
    simp only [hr,hf,Zbd] at q
    split at q
    ·next hz =>
     have hi:=Zgh hr
     obtain ⟨a,vs,e1,z1,z2,z3,z4⟩:=R.slot i _ hi
     have ha:=join_some e1
     refine ⟨.ref a,ha,.inl ⟨rfl,vs,.inl (.inl z3)⟩,ρ,d,R,hf,fun v H1 s hv=>?_⟩
     have R1:=R.st s
     obtain ⟨R2,S2⟩:=R1.chg (ys:=xs++[d]) (ws:=vs++[v]) hi ha ((z4.same s).append (DenL.cons hv DenL.nil))
     exact ⟨a,vs,v,rfl,rfl,s _ _ z3,by rw [← z4.length];exact hz,q _ _ R2 ((Step.of_same s).trans S2)⟩
    ·exact False.elim q
theorem ZaN {i:Nat} {x:Str} {vpos apos cpos:Pos} (hN:X.N[i]?=some x) (hv:Vis X.env.scope x) (he:JE X e (tD K M H0 f)) (hd:(x==("__debug__":Str))=false:=by decide) (hcd:(x==("__classdict__":Str))=false:=by decide) (hs:swapsWith (.Call (.Attribute (.Name x vpos) "append" apos) [e] [] cpos) none pos.line X.env=pure false:=by rfl) (hbase:attributeBase (.Name x vpos) "append" X.env (eval (.Name x vpos) X.env)=eval (.Name x vpos) X.env:=by rfl) (hfew:((backTo cpos (starEach [e] X.env)).all (fun x=>!x.1)&&(backToKw cpos (keywordEach [] X.env)).all (fun x=>x.1.isSome)
   && decide ([e].length+([]:List Keyword).length+(if ([]:List Keyword).isEmpty then 0 else 1)<30))=true:=by rfl) (hline:(apos.endLine==cpos.line)=true:=by rfl) (hst:starEach [e] X.env=(false,eval e X.env)::starEach [] X.env:=by rfl) (hpl:(backTo cpos (starEach [] X.env)).any (·.1)=false:=by rfl):JS X (.Expr (.Call (.Attribute (.Name x vpos) "append" apos) [e] [] cpos) pos) (tS K M H0 fun ρ=>Zbd i (f ρ) ρ):=⟨ZmJ hN hv he.h hd hcd hs hbase hfew hline hst hpl⟩
end
def ZiV (K:PySem.W.Frag) (M N:Fb) (H1:Hp) (J:It) (ds:List D):Prop:=∀ N2 H2,Step M N N2 H1 H2→∀ i,(∀ d,ds[i]?=some d→J.go i H2∧∀ x H3,J.yld i H2 x H3→Same H2 H3∧Den K N2 H3 d x)∧(i=ds.length→J.stop i H2)
def tI (K:PySem.W.Frag) (M:Fb) (H0:Hp) (f:VE→Option (List D)):TI:=fun σ H R=>∃ ρ ds,Rel K M H0 ρ σ H∧f ρ=some ds∧∀ J H1,Same H H1→ZiV K M (Nf M ρ σ) H1 J ds→R J H1
def tG (K:PySem.W.Frag) (M:Fb) (H0:Hp) (ws:List Nat) (b:D→VE→Option VE):TG:=fun v σ H Q=>∃ ρ d ρ',Rel K M H0 ρ σ H∧Den K (Nf M ρ σ) H d v∧b d ρ=some ρ'∧∀ σ' ,Rel K M H0 ρ' σ' H→Step M (Nf M ρ σ) (Nf M ρ' σ') H H→(∀ j,j∉ws→σ'[j]?=σ[j]?)→Q σ' H
@[simp] def Zm (i:Nat) (d:D) (ρ:VE):Option VE:=some (ρ.set i (.val d))
def ZY (b:D→VE→Option VE) (g:VE→Res):List D→VE→Res
 | [],ρ=>.next ρ
 | d::ds,ρ=>match b d ρ with
  | none=>.fail
  | some ρ1=>match g ρ1 with
   | .next ρ2=>ZY b g ds ρ2
   | .cont ρ2=>ZY b g ds ρ2
   | .brk ρ2=>.next ρ2
   | r=>r
@[simp] def Zaw (f:VE→Option (List D)) (b:D→VE→Option VE) (g:VE→Res):VE→Res:=fun ρ=>match f ρ with
  | some ds=>ZY b g ds ρ
  | none=>.fail
section
variable {X:Cx} {K:PySem.W.Frag} {M:Fb} {H0:Hp} {pos:Pos} {e tg iter:Expr} {f:VE→Option (List D)} {b:D→VE→Option VE} {g:VE→Res} {body:List Stmt}
theorem ZpZ {i:Nat} {x:Str} (hN:X.N.Nodup) (hi:X.N[i]?=some x) (hx:Loc X.env.scope x) (hf:X.fn x=true∨X.env.scope.names.lookup x=some .local:=by first | exact .inl rfl | exact .inr rfl | assumption):PG X (.Name x pos) (tG K M H0 [i] (Zm i)):=by
 intro pins s σ H v u Q I r ⟨ρ,d,ρ',R,hd,e,q⟩
 cases e
 obtain ⟨R1,S1⟩:=R.setV (i:=i) (Same.refl H) hd
 exact Zp2 hN hi hx hf pins s σ H v u Q I r (q _ R1 S1 fun j hj=>by rw [List.getElem?_set_ne (fun e=>hj (by rw [e];simp))])
theorem Zp {i:Nat} {x:Str} (hN:X.N.Nodup) (hi:X.N[i]?=some x) (hx:Loc X.env.scope x) (hf:X.fn x=true∨X.env.scope.names.lookup x=some .local:=by first | exact .inl rfl | exact .inr rfl | assumption):JG X (.Name x pos) (tG K M H0 [i] (Zm i)):=⟨ZpZ hN hi hx hf⟩
theorem Zr7 {ws:List Nat} {D':Ends} {σ:St} {H:Hp} {wi:TI} {tg':TG} {tb:TS} (hi:∀ σ H R,tI K M H0 f σ H R→wi σ H R) (hg:∀ v σ H Q,tG K M H0 ws b v σ H Q→tg' v σ H Q) (hb:∀ D σ H,tS K M H0 g D σ H→tb D σ H)
  (h:tS K M H0 (Zaw f b g) D' σ H):ZrR wi tg' tb D' σ H:=by
 obtain ⟨ρ,R,q⟩:=h
 try dsimp only at q
 unfold Zaw at q
 cases hf:f ρ with
 | none=>rw [hf] at q;exact False.elim q
 | some ds =>
  rw [hf] at q
  refine hi _ _ _ ⟨ρ,ds,R,hf,fun J H1 s1 ok=>?_⟩
  -- at turn i: the slots ρi from which the ZZ of the items gives what is wanted
  refine ⟨fun i m σi Hi=>m=ds.length-i∧i≤ds.length∧∃ ρi,Rel K M H0 ρi σi Hi∧Step M (Nf M ρ σ) (Nf M ρi σi) H1 Hi∧resOk K M H0 ρi σi Hi D' (ZY b g (ds.drop i) ρi),⟨ds.length,by simp,Nat.zero_le _,ρ,R.st s1,Step.refl,?_⟩,?_⟩
  ·exact resOk.from (Step.of_same s1) q
  ·rintro i m σi Hi ⟨rfl,hle,ρi,Ri,Si,qi⟩
   obtain ⟨ok1,ok2⟩:=ok _ _ Si i
   by_cases hlt:i<ds.length
   ·obtain ⟨go,y⟩:=ok1 ds[i] (List.getElem?_eq_getElem hlt)
    rw [List.drop_eq_getElem_cons hlt] at qi
    simp only [ZY] at qi
    refine .inr ⟨go,fun σ' H'=>i+1≤ds.length∧∃ ρi,Rel K M H0 ρi σ' H'∧Step M (Nf M ρ σ) (Nf M ρi σ') H1 H'∧resOk K M H0 ρi σ' H' D' (ZY b g (ds.drop (i+1)) ρi),fun σ' H' z=>⟨ds.length-(i+1),by omega,rfl,z⟩,fun x H' yl=>?_⟩
    obtain ⟨s3,hd⟩:=y x H' yl
    cases hbd:b ds[i] ρi with
    | none=>rw [hbd] at qi;exact False.elim qi
    | some ρ1 =>
     rw [hbd] at qi
     simp only at qi
     refine hg _ _ _ _ ⟨ρi,ds[i],ρ1,Ri.st s3,hd,hbd,fun σ1 R1 S1 _=>hb _ _ _ ⟨ρ1,R1,?_⟩⟩
     have S01:Step M (Nf M ρi σi) (Nf M ρ1 σ1) Hi H':=(Step.of_same s3).trans S1
     cases hgr:g ρ1 with
     | fail=>rw [hgr] at qi;exact qi
     | next ρ2=>rw [hgr] at qi;exact fun σ2 H2 R2 S2=>⟨hlt,ρ2,R2,Si.trans (S01.trans S2),resOk.from (S01.trans S2) qi⟩
     | cont ρ2=>rw [hgr] at qi;exact fun σ2 H2 R2 S2=>⟨hlt,ρ2,R2,Si.trans (S01.trans S2),resOk.from (S01.trans S2) qi⟩
     | brk ρ2=>rw [hgr] at qi;exact fun σ2 H2 R2 S2=>qi σ2 H2 R2 (S01.trans S2)
     | ret r=>rw [hgr] at qi;exact qi
   ·have e:i=ds.length:=by omega
    rw [List.drop_eq_nil_of_le (by omega)] at qi
    exact .inl ⟨ok2 e,qi σi Hi Ri Step.refl⟩
theorem Zqb {ws:List Nat} (hp:PassesOwn (model X.prog X.w) X.A X.env X.xe) (hc:X.calm=true) (hi:PI X tg iter (tI K M H0 f)) (hg:PG X tg (tG K M H0 ws b)) (hb:PSs X body (tS K M H0 g))
  (hs:∀ x,foldedSetIterable iter X.env x=pure x:=by intro _;rfl):PS X (.For tg iter body [] pos) (tS K M H0 (Zaw f b g)) :=
 (Zr0 hp hc hi hg hb hs).mono fun _ _ _ q=>Zr7 (fun _ _ _ z=>z) (fun _ _ _ _ z=>z) (fun _ _ _ z=>z) q
theorem Zat {ws:List Nat} (hp:PassesOwn (model X.prog X.w) X.A X.env X.xe) (hc:X.calm=true) (hi:JI X tg iter (tI K M H0 f)) (hg:JG X tg (tG K M H0 ws b)) (hb:JB X body (tS K M H0 g)) (hs:∀ x,foldedSetIterable iter X.env x=pure x:=by intro _;rfl):JS X (.For tg iter body [] pos) (tS K M H0 (Zaw f b g)):=⟨Zqb hp hc hi.h hg.h hb.h hs⟩
theorem PI.mono {wi wi':TI} (h:PI X tg iter wi) (m:∀ σ H R,wi' σ H R→wi σ H R):PI X tg iter wi':=fun pins s σ H R I q=>h pins s σ H R I (m σ H R q)
def DenQ (K:PySem.W.Frag) (M N:Fb) (H:Hp) (d:D) (v:V):Prop:=match d with
 | .lst xs=>∃ a vs,v=.ref a∧(((¬ N a∨M a)∧Rd H a (.lst vs))∨KL K a vs)∧DenL K N H xs vs
 | .lst xs true=>∃ a vs,v=.ref a∧(¬ N a∨M a)∧Rd H a (.dct (Zff xs) vs)∧DenL K N H xs vs
 | d=>Den K N H d v
def tQ (K:PySem.W.Frag) (M:Fb) (H0:Hp) (f:VE→Option D):TE:=fun σ H Q=>∃ ρ d,Rel K M H0 ρ σ H∧f ρ=some d∧∀ v H',Same H H'→DenQ K M (Nf M ρ σ) H' d v→Q v H'
theorem Den.q {M N:Fb} {H:Hp} {d:D} {v:V} (h:Den K N H d v):DenQ K M N H d v:=by
 cases d with
 | lst xs fl =>
  simp only [Den] at h
  obtain ⟨a,vs,e,q,r⟩:=h
  cases fl with
  | false =>
   refine ⟨a,vs,e,?_,r⟩
   rcases q with ⟨n,q⟩ | ⟨ws,z,q⟩
   ·exact .inl ⟨.inl n,q⟩
   ·cases z;exact .inr q
  | true =>
   rcases q with ⟨n,q⟩ | ⟨ws,z,_⟩
   ·exact ⟨a,vs,e,.inl n,q,r⟩
   ·cases z
 | _=>exact h
theorem PE.q {f:VE→Option D} (h:PE X e (tD K M H0 f)):PE X e (tQ K M H0 f):=h.mono fun σ H Q ⟨ρ,d,R,e,q⟩=>⟨ρ,d,R,e,fun v H' s z=>q v H' s z.q⟩
theorem j_q {f:VE→Option D} (h:JE X e (tD K M H0 f)):JE X e (tQ K M H0 f):=⟨PE.q h.h⟩
theorem Zp1 {M N:Fb} {H:Hp} {xs:List D} {vs:List V} {fl:Bool} {a:Addr} (m:M a) (h:Rd H a (CO fl xs vs)) (r:DenL K N H xs vs):DenQ K M N H (.lst xs fl) (.ref a):=by
 cases fl with
 | false=>exact ⟨a,vs,rfl,.inl ⟨.inr m,h⟩,r⟩
 | true=>exact ⟨a,vs,rfl,.inr m,h,r⟩
@[simp] def rdQ (ρ:VE) (i:Nat):Option D:=match ρ[i]? with
  | some (.val d)=>some d
  | some (.lent xs b)=>some (.lst xs b)
  | _=>none
theorem Zrb {i:Nat} {x:Str} (hN:X.N[i]?=some x) (hv:Vis X.env.scope x) (hd:(x==("__debug__":Str))=false:=by decide) (hcd:(x==("__classdict__":Str))=false:=by decide):PE X (.Name x pos) (tQ K M H0 fun ρ=>rdQ ρ i) :=
 (Zc4 hN hv hd hcd).mono fun σ H Q ⟨ρ,d,R,e,q⟩=>by
  try dsimp only at e q
  unfold rdQ at e
  split at e
  ·next h=>cases e;obtain ⟨v,e1,h⟩:=R.slot i _ h;exact ⟨v,join_some e1,q v H (Same.refl H) h.q⟩
  ·next h=>cases e;obtain ⟨a,vs,e1,h2,h3,h4⟩:=R.slot i _ h;exact ⟨_,join_some e1,q _ H (Same.refl H) (Zp1 h2 h3 h4)⟩
  ·cases e
def Zi1:D→Option (List D)
 | .lst xs=>some xs
 | _=>none
def Znl:D→Option (List D)
 | .tup xs=>some xs
 | _=>none
def ZnV:D→Option (List D)
 | .str x=>some (x.cps.toList.map fun c=>D.str ⟨#[c]⟩)
 | _=>none
theorem Zo7 {l:Expr} {f:VE→Option D} (h:PE X l (tQ X.K M H0 f)):PI X tg l (tI X.K M H0 fun ρ=>(f ρ).bind Zi1):=(Zph h).mono fun σ H R' ⟨ρ,ds,R,e,q⟩=>by
 try dsimp only at e q
 cases hf:f ρ with
 | none=>rw [hf] at e;cases e
 | some d =>
  rw [hf] at e
  cases d with
  | lst xs fl =>
   cases fl with
   | true=>cases e
   | false =>
   cases e
   refine ⟨ρ,.lst _,R,hf,fun v H1 s1 hv=>?_⟩
   obtain ⟨a,vs,e1,hr,hd⟩:=hv
   have sq:∀ N2 H2,Step M (Nf M ρ σ) N2 H1 H2→SqL X.K H2 a vs:=fun N2 H2 S=>by
    rcases hr with ⟨hn,hr⟩ | hr
    ·exact .inl (hr.step S (by rcases hn with z | z;exact .inl z;exact .inr (.inl z)))
    ·exact hr.sq
   refine ⟨a,e1,⟨vs,sq _ _ Step.refl⟩,q _ H1 s1 fun N2 H2 S i=>?_⟩
   have hr2:=sq _ _ S
   have hd2:=DenL.step S _ _ hd
   refine ⟨fun d he=>?_,fun he=>⟨vs,hr2,by rw [he,hd.length];exact Nat.le_refl _⟩⟩
   obtain ⟨w,hw,hdw⟩:=hd2.get he
   refine ⟨⟨vs,w,hr2,hw⟩,fun x H3 y=>?_⟩
   obtain ⟨e3,y⟩:=y
   subst e3
   have:=y vs hr2
   rw [hw] at this;cases this
   exact ⟨Same.refl _,hdw⟩
  | _=>cases e
theorem Zqq {l:Expr} {f:VE→Option D} (h:PE X l (tQ X.K M H0 f)):PI X tg l (tI X.K M H0 fun ρ=>(f ρ).bind Znl):=(Zsd h).mono fun σ H R' ⟨ρ,ds,R,e,q⟩=>by
 try dsimp only at e q
 cases hf:f ρ with
 | none=>rw [hf] at e;cases e
 | some d =>
  rw [hf] at e
  cases d with
  | tup xs =>
   cases e
   refine ⟨ρ,.tup _,R,hf,fun v H1 s1 hv=>?_⟩
   simp only [DenQ,Den] at hv
   obtain ⟨a,vs,e1,hr,hd⟩:=hv
   refine ⟨a,e1,⟨vs,hr⟩,q _ H1 s1 fun N2 H2 S i=>?_⟩
   have hr2:=hr.step S
   have hd2:=DenL.step S _ _ hd
   refine ⟨fun d he=>?_,fun he=>⟨vs,hr2,by rw [he,hd.length];exact Nat.le_refl _⟩⟩
   obtain ⟨w,hw,hdw⟩:=hd2.get he
   refine ⟨⟨vs,w,hr2,hw⟩,fun x H3 y=>?_⟩
   obtain ⟨e3,y⟩:=y
   subst e3
   have:=y vs hr2
   rw [hw] at this;cases this
   exact ⟨Same.refl _,hdw⟩
  | _=>cases e
theorem Zrl {l:Expr} {f:VE→Option D} (h:PE X l (tQ K M H0 f)):PI X tg l (tI K M H0 fun ρ=>(f ρ).bind ZnV):=(Zqp h).mono fun σ H R' ⟨ρ,ds,R,e,q⟩=>by
 try dsimp only at e q
 cases hf:f ρ with
 | none=>rw [hf] at e;cases e
 | some d =>
  rw [hf] at e
  cases d with
  | str x =>
   cases e
   refine ⟨ρ,.str x,R,hf,fun v H1 s1 hv=>?_⟩
   simp only [DenQ,Den] at hv
   refine ⟨x,hv,q _ H1 s1 fun N2 H2 S i=>⟨fun d he=>?_,fun he=>?_⟩⟩
   ·rw [List.getElem?_map] at he
    cases hc:x.cps.toList[i]? with
    | none=>rw [hc] at he;cases he
    | some c =>
     rw [hc] at he;cases he
     have hi:i<x.cps.size:=by
      have:=(List.getElem?_eq_some_iff.mp hc).1
      simpa using this
     refine ⟨hi,fun v H3 y=>?_⟩
     obtain ⟨e3,c',hc',y⟩:=y
     subst e3 y
     rw [← Array.getElem?_toList,hc] at hc';cases hc'
     exact ⟨Same.refl _,by simp only [Den]⟩
   ·have:i=x.cps.size:=by simpa using he
    exact Nat.le_of_eq this.symm
  | _=>cases e
def ZbO (lo:Int) (n:Nat):List D:=(List.range n).map (fun (k:Nat)=>D.int (lo+(k:Int)))
theorem ZmM {M N:Fb} {H1:Hp} {lo:Int} {n:Nat}:ZiV K M N H1 (Itr lo n) (ZbO lo n):=fun N2 H2 S i=>by
 refine ⟨fun d he=>?_,fun he=>?_⟩
 ·have hi:i<n:=by
   have:=(List.getElem?_eq_some_iff.mp he).1
   simpa [ZbO] using this
  have e:d=D.int (lo+i):=by
   simp only [ZbO,List.getElem?_map,List.getElem?_range hi,Option.map_some,Option.some.injEq] at he
   exact he.symm
  subst e
  refine ⟨hi,fun x H3 y=>?_⟩
  obtain ⟨e3,y⟩:=y
  subst e3 y
  exact ⟨Same.refl _,by simp only [Den]⟩
 ·have:i=n:=by simpa [ZbO] using he
  exact Nat.le_of_eq this.symm
noncomputable def gd {α:Type} (p:Prop) (o:Option α):Option α:=@ite _ p (Classical.propDecidable p) o none
theorem Zfu {α:Type} {p:Prop} {o:Option α} (h:p):gd p o=o:=by unfold gd;exact @if_pos _ (Classical.propDecidable p) h _ _ _
theorem ZiW {α:Type} {p:Prop} {o:Option α} {x:α} (h:gd p o=some x):p∧o=some x:=by
 by_cases hp:p
 ·rw [Zfu hp] at h;exact ⟨hp,h⟩
 ·unfold gd at h
  rw [@if_neg _ (Classical.propDecidable p) hp] at h
  cases h
noncomputable def ZcN:List D→Option (List D)
 | [.int j]=>gd (-1000000000≤j∧j<1000000000) (some (ZbO 0 j.toNat))
 | _=>none
noncomputable def Zgq:List D→Option (List D)
 | [.int i,.int j]=>gd (-1000000000≤i∧i<1000000000 ∧ -1000000000≤j∧j<1000000000) (some (ZbO i (j-i).toNat))
 | _=>none
theorem Znf {a:Expr} {fa:VE→Option (List Sl)} {p:Pos} (hg:Gl X "range") (hm:X.mg "range"=none) (ha:PA X [a] (tA' K M H0 fa)) (hs:starEach [a] X.env=[(false,eval a X.env)]:=by rfl):PI X tg (.Call (.Name "range" p) [a] [] pos) (tI K M H0 fun ρ=>((fa ρ).bind Zw).bind ZcN) :=
 (Zmw hg hm ha hs).mono fun σ H R' ⟨ρ,ds,R,e,q⟩=>by
  try dsimp only at e q
  cases hf:fa ρ with
  | none=>rw [hf] at e;cases e
  | some ss =>
   rw [hf] at e
   cases hv:Zw ss with
   | none=>simp only [Option.bind,hv] at e;cases e
   | some l =>
    simp only [Option.bind,hv] at e
    unfold ZcN at e
    split at e
    ·next j =>
     obtain ⟨hz,e⟩:=ZiW e
     cases e
     refine ⟨ρ,ss,R,hf,fun vs H1 s1 h1=>?_⟩
     have hd:=ZdE h1 hv
     simp only [DenL,Den] at hd
     obtain ⟨v,r,e1,e2,e3⟩:=hd
     subst e1 e2 e3
     exact ⟨j,rfl,by omega,by omega,q _ H1 s1 ZmM⟩
    ·cases e
theorem ZbD {a:Expr} {fa:VE→Option (List Sl)} {p:Pos} (hg:Gl X "range") (hm:X.mg "range"=none) (ha:JA X [a] (tA' K M H0 fa)) (hs:starEach [a] X.env=[(false,eval a X.env)]:=by rfl):JI X tg (.Call (.Name "range" p) [a] [] pos) (tI K M H0 fun ρ=>((fa ρ).bind Zw).bind ZcN):=⟨Znf hg hm ha.h hs⟩
theorem ZmA {a b:Expr} {fa:VE→Option (List Sl)} {p:Pos} (hg:Gl X "range") (hm:X.mg "range"=none) (ha:PA X [a,b] (tA' K M H0 fa)) (hs:starEach [a,b] X.env=[(false,eval a X.env),(false,eval b X.env)]:=by rfl) (hs2:starEach [b] X.env=[(false,eval b X.env)]:=by rfl) :
  PI X tg (.Call (.Name "range" p) [a,b] [] pos) (tI K M H0 fun ρ=>((fa ρ).bind Zw).bind Zgq) :=
 (ZlR hg hm ha hs hs2).mono fun σ H R' ⟨ρ,ds,R,e,q⟩=>by
  try dsimp only at e q
  cases hf:fa ρ with
  | none=>rw [hf] at e;cases e
  | some ss =>
   rw [hf] at e
   cases hv:Zw ss with
   | none=>simp only [Option.bind,hv] at e;cases e
   | some l =>
    simp only [Option.bind,hv] at e
    unfold Zgq at e
    split at e
    ·next i j =>
     obtain ⟨hz,e⟩:=ZiW e
     cases e
     refine ⟨ρ,ss,R,hf,fun vs H1 s1 h1=>?_⟩
     have hd:=ZdE h1 hv
     simp only [DenL,Den] at hd
     obtain ⟨v,r,e1,e2,v',r',e3,e4,e5⟩:=hd
     subst e2 e4 e5 e3 e1
     exact ⟨i,j,rfl,⟨by omega,by omega,by omega,by omega⟩,q _ H1 s1 ZmM⟩
    ·cases e
theorem ZjZ {a b:Expr} {fa:VE→Option (List Sl)} {p:Pos} (hg:Gl X "range") (hm:X.mg "range"=none) (ha:JA X [a,b] (tA' K M H0 fa)) (hs:starEach [a,b] X.env=[(false,eval a X.env),(false,eval b X.env)]:=by rfl) (hs2:starEach [b] X.env=[(false,eval b X.env)]:=by rfl):JI X tg (.Call (.Name "range" p) [a,b] [] pos) (tI K M H0 fun ρ=>((fa ρ).bind Zw).bind Zgq):=⟨ZmA hg hm ha.h hs hs2⟩
end
end L2
set_option Elab.async false
set_option linter.all false
set_option maxRecDepth 100000
namespace L2
open PySem PySem.Spec PyProof.Rows
def tGs (K:PySem.W.Frag) (M:Fb) (H0:Hp) (ws:List Nat) (b:List D→VE→Option VE):TGs:=fun vs σ H Q=>∃ ρ ds ρ',Rel K M H0 ρ σ H∧DenL K (Nf M ρ σ) H ds vs∧b ds ρ=some ρ'∧∀ σ' ,Rel K M H0 ρ' σ' H→Step M (Nf M ρ σ) (Nf M ρ' σ') H H→(∀ j,j∉ws→σ'[j]?=σ[j]?)→Q σ' H
@[simp] def Z9:List D→VE→Option VE
  | [],ρ=>some ρ
  | _,_=>none
@[simp] def Zu (b:D→VE→Option VE) (c:List D→VE→Option VE):List D→VE→Option VE
  | d::r,ρ=>(b d ρ).bind (c r)
  | _,_=>none
@[simp] def Z8 (n:Nat) (b:List D→VE→Option VE):D→VE→Option VE
  | .tup ds,ρ=>if ds.length=n then b ds ρ else none
  | _,_=>none
section
variable {X:Cx} {K:PySem.W.Frag} {M:Fb} {H0:Hp} {pos:Pos} {e tg iter:Expr} {es:List Expr} {ws ws':List Nat} {b:D→VE→Option VE} {c:List D→VE→Option VE}
theorem ZoM:PGs X [] (tGs K M H0 [] Z9):=by
 intro pins s σ H vs us Q I r ⟨ρ,ds,ρ',R,hd,e,q⟩
 cases ds with
 | nil =>
  cases e
  simp only [DenL] at hd
  exact ZpL pins s σ H vs us Q I r ⟨hd,q σ R Step.refl fun _ _=>rfl⟩
 | cons=>cases e
theorem Zap :JK X [] (tGs K M H0 [] Z9):=⟨ZoM ⟩
theorem Zn0 (h1:PG X e (tG K M H0 ws b)) (h2:PGs X es (tGs K M H0 ws' c)) (hs:(assignEach (e::es) X.env).map (·.2)=assign e X.env::(assignEach es X.env).map (·.2):=by rfl):PGs X (e::es) (tGs K M H0 (ws++ws') (Zu b c)):=by
 intro pins s σ H vs us Q I r ⟨ρ,ds,ρ',R,hd,e,q⟩
 cases ds with
 | nil=>cases e
 | cons d ds =>
  simp only [DenL] at hd
  obtain ⟨v,vr,e1,hv,hr⟩:=hd
  subst e1
  simp only [Zu] at e
  cases hb:b d ρ with
  | none=>rw [hb] at e;cases e
  | some ρ1 =>
   rw [hb] at e
   refine ZnR h1 h2 hs pins s σ H _ us Q I r ⟨v,vr,rfl,ρ,d,ρ1,R,hv,hb,fun σ1 R1 S1 w1=>⟨ρ1,ds,ρ',R1,DenL.step S1 _ _ hr,e,fun σ2 R2 S2 w2=>q σ2 R2 (S1.trans S2) fun j hj=>?_⟩⟩
   rw [List.mem_append,not_or] at hj
   rw [w2 j hj.2,w1 j hj.1]
theorem ZB (h1:JG X e (tG K M H0 ws b)) (h2:JK X es (tGs K M H0 ws' c)) (hs:(assignEach (e::es) X.env).map (·.2)=assign e X.env::(assignEach es X.env).map (·.2):=by rfl):JK X (e::es) (tGs K M H0 (ws++ws') (Zu b c)):=⟨Zn0 h1.h h2.h hs⟩
theorem Zp6 {k n:Nat} (hc:X.calm=true) (h:PGs X es (tGs X.K M H0 ws c))
  (hn:(assignEach es X.env).length=n:=by rfl) (hst:(assignEach es X.env).findIdx? (·.1)=none:=by rfl):PG X (.Tuple es k pos) (tG X.K M H0 ws (Z8 n c)):=by
 intro pins s σ H v u Q I r ⟨ρ,d,ρ',R,hd,e,q⟩
 cases d with
 | tup ds =>
  simp only [Z8] at e
  split at e
  ·next hl =>
   simp only [Den] at hd
   obtain ⟨a,vs,e1,hq,hd⟩:=hd
   exact Zr5 hc h hn hst pins s σ H v u Q I r ⟨a,vs,e1,hq,by rw [← hd.length];exact hl,ρ,ds,ρ',R,hd,e,q⟩
  ·cases e
 | _=>cases e
theorem ZaG {k n:Nat} (hc:X.calm=true) (h:JK X es (tGs X.K M H0 ws c)) (hn:(assignEach es X.env).length=n:=by rfl) (hst:(assignEach es X.env).findIdx? (·.1)=none:=by rfl):JG X (.Tuple es k pos) (tG X.K M H0 ws (Z8 n c)):=⟨Zp6 hc h.h hn hst⟩
end
@[simp] def Zn2:Option Sl→Sl
  | some (.val d)=>.val d
  | some (.own xs b)=>.lent xs b
  | some (.lent xs b)=>.lent xs b
  | _=>.no
@[simp] def ZU (k:Nat) (oix:List Nat) (ρ:VE):VE:=List.replicate k .no++oix.map fun j=>Zn2 ρ[j]?
def ZaF (b:D→VE→Option VE) (t:VE→Option Bool) (e:VE→Option D) (ρ:VE):List D→Option (List D)
 | []=>some []
 | d::ds=>match b d ρ with
  | none=>none
  | some ρ1=>match t ρ1 with
   | some true=>Zb (e ρ1) (ZaF b t e ρ ds)
   | some false=>ZaF b t e ρ ds
   | none=>none
@[simp] def ZM (k:Nat) (oix:List Nat) (f:VE→Option (List D)) (b:D→VE→Option VE) (t:VE→Option Bool) (e:VE→Option D):VE→Option (List D):=fun ρ=>(Zo (f ρ)).bind (ZaF b t e (ZU k oix ρ))
section
variable {X:Cx} {K:PySem.W.Frag} {M:Fb} {H0:Hp} {pos:Pos} {tg elt iter:Expr} {ifs:List Expr} {scope:Scope} {ws:List Nat} {f:VE→Option (List D)} {b:D→VE→Option VE} {t:VE→Option Bool} {e:VE→Option D} {k:Nat} {oix:List Nat}
theorem Rel.comp {ρ:VE} {σ:St} {H:Hp} (R:Rel K M H0 ρ σ H) (k:Nat) (oix:List Nat):Rel K (Nf M ρ σ) H (ZU k oix ρ) (ZaI k oix σ) H∧∀ a,Nf (Nf M ρ σ) (ZU k oix ρ) (ZaI k oix σ) a→Nf M ρ σ a:=by
 have noown:∀ (j:Nat) (xs:List D) (fl:Bool),(ZU k oix ρ)[j]?≠some (Sl.own xs fl):=fun j xs fl h=>by
  unfold ZU at h
  rw [List.getElem?_append] at h
  split at h
  ·rw [List.getElem?_replicate] at h
   split at h<;>cases h
  ·rw [List.getElem?_map] at h
   cases ho:oix[j-(List.replicate k Sl.no).length]? with
   | none=>rw [ho] at h;cases h
   | some o =>
    rw [ho] at h
    simp only [Option.map_some,Option.some.injEq] at h
    unfold Zn2 at h
    split at h<;>cases h
 have nf:∀ a,Nf (Nf M ρ σ) (ZU k oix ρ) (ZaI k oix σ) a→Nf M ρ σ a:=fun a h=>by
  rcases h with h | ⟨j,xs,fl,h,_⟩
  ·exact h
  ·exact absurd h (noown j xs fl)
 refine ⟨⟨by simp [ZU,ZaI],Same.refl H,R.nh,fun j s h=>?_,fun i j xs ys fl fl' a h=>absurd h (noown i xs fl)⟩,nf⟩
 unfold ZU at h
 rw [List.getElem?_append] at h
 split at h
 ·rw [List.getElem?_replicate] at h
  split at h
  ·cases h;trivial
  ·cases h
 ·next hge =>
  rw [List.getElem?_map] at h
  have hσ:(ZaI k oix σ)[j]?=(oix[j-k]?).map fun i=>(σ[i]?).join:=by
   unfold ZaI
   rw [List.getElem?_append_right (by simpa using hge),List.getElem?_map]
   simp
  rw [hσ]
  simp only [List.length_replicate] at h
  cases ho:oix[j-k]? with
  | none=>rw [ho] at h;cases h
  | some o =>
   rw [ho] at h
   simp only [Option.map_some,Option.some.injEq] at h
   simp only [Option.map_some,Option.join_some]
   unfold Zn2 at h
   split at h
   ·next d hd=>subst h;obtain ⟨v,e1,q⟩:=R.slot o _ hd;exact ⟨v,e1,q.nw fun a ha=>.inl (nf a ha)⟩
   ·next xs fl hd =>
    subst h
    obtain ⟨a,vs,e1,z1,z2,z3,z4⟩:=R.slot o _ hd
    exact ⟨a,vs,e1,.inr ⟨o,xs,fl,hd,join_some e1⟩,.inl z3,z4.nw fun a ha=>.inl (nf a ha)⟩
   ·next xs hd =>
    subst h
    obtain ⟨a,vs,e1,z1,z2,z3⟩:=R.slot o _ hd
    exact ⟨a,vs,e1,.inl z1,z2,z3.nw fun a ha=>.inl (nf a ha)⟩
   ·subst h;trivial
def ZqR (K:PySem.W.Frag) (ws:List Nat) (b:D→VE→Option VE):TG:=fun v σ H Q=>∃ M H0,tG K M H0 ws b v σ H Q
def ZqA (K:PySem.W.Frag) (t:VE→Option Bool):TT:=fun σ H Q=>∃ M H0,tB' K M H0 t σ H Q
def ZrZ (K:PySem.W.Frag) (e:VE→Option D):TE:=fun σ H Q=>∃ M H0,tD K M H0 e σ H Q
theorem Zkz (hw:∀ j∈ws,j<k) {wi:TI} (hi:∀ σ H R,tI K M H0 f σ H R→wi σ H R) {σ:St} {H:Hp} {Q:VK} (h:tF K M H0 (ZM k oix f b t e) σ H Q):Zlj k oix wi (ZqR K ws b) (ZqA K t) (ZrZ K e) σ H Q:=by
 obtain ⟨ρ,xs,R,ex,q⟩:=h
 try dsimp only at ex q
 unfold ZM at ex
 cases hf:Zo (f ρ) with
 | none=>rw [hf] at ex;cases ex
 | some ds =>
  rw [hf] at ex
  obtain ⟨hf,hz⟩:=ZeQ hf
  have ex:ZaF b t e (ZU k oix ρ) ds=some xs:=ex
  refine hi _ _ _ ⟨ρ,ds,R,hf,fun J H1 s1 ok=>?_⟩
  refine ⟨ds.length,fun i ys H2=>i≤ds.length∧ys.length≤i∧Same H1 H2∧∃ acc ZZ,DenL K (Nf M ρ σ) H2 acc ys∧ZaF b t e (ZU k oix ρ) (ds.drop i)=some ZZ∧acc++ZZ=xs,⟨Nat.zero_le _,Nat.le_refl _,Same.refl _,[],xs,DenL.nil,ex,rfl⟩,?_⟩
  rintro i ys H2 ⟨hle,hy,s2,acc,ZZ,hacc,hc,hx⟩
  obtain ⟨ok1,ok2⟩:=ok _ H2 (Step.of_same s2) i
  by_cases hlt:i<ds.length
  ·obtain ⟨go,y⟩:=ok1 ds[i] (List.getElem?_eq_getElem hlt)
   rw [List.drop_eq_getElem_cons hlt] at hc
   simp only [ZaF] at hc
   refine .inr ⟨go,hlt,by omega,fun ys' H'=>ys'.length≤i+1∧Same H1 H'∧∃ acc ZZ,DenL K (Nf M ρ σ) H' acc ys'∧ZaF b t e (ZU k oix ρ) (ds.drop (i+1))=some ZZ∧acc++ZZ=xs,fun ys' H' z=>⟨hlt,z⟩,fun x H3 yl=>?_⟩
   obtain ⟨s3,hd⟩:=y x H3 yl
   have R3:=((R.st s1).st s2).st s3
   obtain ⟨Rc,nf⟩:=R3.comp k oix
   cases hb:b ds[i] (ZU k oix ρ) with
   | none=>rw [hb] at hc;cases hc
   | some ρ1 =>
    rw [hb] at hc
    simp only at hc
    refine ⟨Nf M ρ σ,H3,ZU k oix ρ,ds[i],ρ1,Rc,hd.nw fun a ha=>.inl (nf a ha),hb,fun σ4 R4 S4 w4=>⟨?_,?_⟩⟩
    ·apply List.ext_getElem?
     intro j
     rw [List.getElem?_drop,List.getElem?_drop]
     exact w4 _ fun hj=>absurd (hw _ hj) (by omega)
    ·cases ht:t ρ1 with
     | none=>rw [ht] at hc;cases hc
     | some bb =>
      rw [ht] at hc
      refine ⟨Nf M ρ σ,H3,ρ1,bb,R4,ht,fun H5 s5=>?_⟩
      cases bb with
      | true =>
       simp only at hc
       obtain ⟨yd,rest',e1,e2,e3⟩:=ZdT hc
       refine ZgF ?_
       refine ⟨Nf M ρ σ,H3,ρ1,yd,R4.st s5,e1,fun v H6 s6 hv=>⟨?_,((s2.trans s3).trans s5).trans s6,acc++[yd],rest',(hacc.same ((s3.trans s5).trans s6)).append (DenL.cons (hv.nw fun a ha=>.inl (.inl ha)) DenL.nil),e2,?_⟩⟩
       ·simp only [List.length_append,List.length_singleton];omega
       ·subst e3;rw [← hx];simp
      | false =>
       refine ZgS ?_
       exact ⟨by omega,(s2.trans s3).trans s5,acc,ZZ,hacc.same (s3.trans s5),hc,hx⟩
  ·have ei:i=ds.length:=by omega
   rw [List.drop_eq_nil_of_le (by omega)] at hc
   cases hc
   rw [List.append_nil] at hx
   subst hx
   exact .inl ⟨ok2 ei,by omega,fun p hp=>ZfL (s1.trans s2) hp hacc q⟩
theorem PG.all {Y:Cx} (h:∀ M H0,PG Y tg (tG K M H0 ws b)):PG Y tg (ZqR K ws b):=fun pins s σ H v u Q I r ⟨M,H0,z⟩=>h M H0 pins s σ H v u Q I r z
theorem PFs.all {Y:Cx} (h:∀ M H0,PFs Y ifs (tB' K M H0 t)):PFs Y ifs (ZqA K t):=fun pins s σ H Q I ⟨M,H0,z⟩=>h M H0 pins s σ H Q I z
theorem PE.all {Y:Cx} (h:∀ M H0,PE Y elt (tD K M H0 e)):PE Y elt (ZrZ K e):=fun pins s σ H Q I ⟨M,H0,z⟩=>h M H0 pins s σ H Q I z
theorem ZrB {Y:Cx}:PFs Y [] (tB' K M H0 fun _=>some true):=fun pins s σ H Q I ⟨ρ,b,R,e,q⟩=>Zq7 pins s σ H Q I (by cases e;exact q H (Same.refl H))
theorem Z7 {Y:Cx}:JF Y [] (tB' K M H0 fun _=>some true):=⟨ZrB ⟩
theorem ZpP (own outs:List Str) (oix:List Nat) (S:Z2 own outs scope X.env.scope) (hox:oix.map (fun j=>X.N[j]?)=outs.map some) (hc:X.calm=true) (hi:PI X tg iter (tI K M H0 f))
  (hg:∀ C s2 H2 fp pins M' H',PG (cxC X own outs scope C s2 H2 fp pins) tg (tG K M' H' ws b))
  (ht:∀ C s2 H2 fp pins M' H',PFs (cxC X own outs scope C s2 H2 fp pins) ifs (tB' K M' H' t))
  (he:∀ C s2 H2 fp pins M' H',PE (cxC X own outs scope C s2 H2 fp pins) elt (tD K M' H' e)) (hw:∀ j∈ws,j<own.length)
  (hs:∀ x,foldedSetIterable iter X.env x=pure x:=by intro _;rfl) :
  PE X (.ListComp elt [⟨tg,iter,ifs,0⟩] scope pos) (tF K M H0 (ZM own.length oix f b t e)) :=
 (ZoK own outs oix S hox hc hi (fun C s2 H2 fp pins=>PG.all (hg C s2 H2 fp pins)) (fun C s2 H2 fp pins=>PFs.all (ht C s2 H2 fp pins)) (fun C s2 H2 fp pins=>PE.all (he C s2 H2 fp pins)) hs).mono
  fun _ _ _ z=>Zkz hw (fun _ _ _ z=>z) z
theorem Z0 (own outs:List Str) (oix:List Nat) (S:Z2 own outs scope X.env.scope) (hox:oix.map (fun j=>X.N[j]?)=outs.map some) (hc:X.calm=true) (hi:JI X tg iter (tI K M H0 f)) (hg:∀ C s2 H2 fp pins M' H',JG (cxC X own outs scope C s2 H2 fp pins) tg (tG K M' H' ws b)) (ht:∀ C s2 H2 fp pins M' H',JF (cxC X own outs scope C s2 H2 fp pins) ifs (tB' K M' H' t)) (he:∀ C s2 H2 fp pins M' H',JE (cxC X own outs scope C s2 H2 fp pins) elt (tD K M' H' e)) (hw:∀ j∈ws,j<own.length) (hs:∀ x,foldedSetIterable iter X.env x=pure x:=by intro _;rfl):JE X (.ListComp elt [⟨tg,iter,ifs,0⟩] scope pos) (tF K M H0 (ZM own.length oix f b t e)):=⟨ZpP own outs oix S hox hc hi.h (fun C s2 H2 fp pins M' H'=>(hg C s2 H2 fp pins M' H').h) (fun C s2 H2 fp pins M' H'=>(ht C s2 H2 fp pins M' H').h) (fun C s2 H2 fp pins M' H'=>(he C s2 H2 fp pins M' H').h) hw hs⟩
theorem ZjI (own outs:List Str) (oix:List Nat) {i:Nat} {x:Str} {pos' spos:Pos} (S:Z2 own outs scope X.env.scope) (hox:oix.map (fun j=>X.N[j]?)=outs.map some) (hc:X.calm=true)
  (hN:X.N.Nodup) (hix:X.N[i]?=some x) (hx:X.env.scope.names.lookup x=some .local) (hi:PI X tg iter (tI K M H0 f))
  (hg:∀ C s2 H2 fp pins M' H',PG (cxC X own outs scope C s2 H2 fp pins) tg (tG K M' H' ws b))
  (ht:∀ C s2 H2 fp pins M' H',PFs (cxC X own outs scope C s2 H2 fp pins) ifs (tB' K M' H' t))
  (he:∀ C s2 H2 fp pins M' H',PE (cxC X own outs scope C s2 H2 fp pins) elt (tD K M' H' e)) (hw:∀ j∈ws,j<own.length)
  (hsw:swapsWith (.ListComp elt [⟨tg,iter,ifs,0⟩] scope pos) (some (.Name x pos')) spos.line X.env=pure true:=by rfl)
  (hs:∀ x,foldedSetIterable iter X.env x=pure x:=by intro _;rfl) :
  PS X (.Assign [.Name x pos'] (.ListComp elt [⟨tg,iter,ifs,0⟩] scope pos) spos) (tS K M H0 fun ρ=>ZL i (ZN (ZM own.length oix f b t e ρ)) ρ) :=
 (Zlr own outs oix S hox hc hN hix hx hi (fun C s2 H2 fp pins=>PG.all (hg C s2 H2 fp pins)) (fun C s2 H2 fp pins=>PFs.all (ht C s2 H2 fp pins)) (fun C s2 H2 fp pins=>PE.all (he C s2 H2 fp pins)) hsw hs).mono
  fun D' σ H z=>by
   have z':tD K M H0 (fun ρ=>ZN (ZM own.length oix f b t e ρ)) σ H (fun x H1=>ZeW i x σ H1 D'.nx):=Znh z
   obtain ⟨ρ,d,R,ed,q⟩:=z'
   try dsimp only at ed q
   cases hf:ZM own.length oix f b t e ρ with
   | none=>rw [hf] at ed;cases ed
   | some xs =>
    rw [hf] at ed;cases ed
    refine Zkz hw (fun _ _ _ z=>z) ⟨ρ,xs,R,hf,fun a vs H' s z1 z2 z3=>q _ _ s ?_⟩
    simp only [Den]
    exact ⟨a,vs,rfl,.of (R.fresh z1) z2,z3.nw fun b hb=>.inl (.inl hb)⟩
theorem ZhW (own outs:List Str) (oix:List Nat) {i:Nat} {x:Str} {pos' spos:Pos} (S:Z2 own outs scope X.env.scope) (hox:oix.map (fun j=>X.N[j]?)=outs.map some) (hc:X.calm=true) (hN:X.N.Nodup) (hix:X.N[i]?=some x) (hx:X.env.scope.names.lookup x=some .local) (hi:JI X tg iter (tI K M H0 f)) (hg:∀ C s2 H2 fp pins M' H',JG (cxC X own outs scope C s2 H2 fp pins) tg (tG K M' H' ws b)) (ht:∀ C s2 H2 fp pins M' H',JF (cxC X own outs scope C s2 H2 fp pins) ifs (tB' K M' H' t)) (he:∀ C s2 H2 fp pins M' H',JE (cxC X own outs scope C s2 H2 fp pins) elt (tD K M' H' e)) (hw:∀ j∈ws,j<own.length) (hsw:swapsWith (.ListComp elt [⟨tg,iter,ifs,0⟩] scope pos) (some (.Name x pos')) spos.line X.env=pure true:=by rfl) (hs:∀ x,foldedSetIterable iter X.env x=pure x:=by intro _;rfl):JS X (.Assign [.Name x pos'] (.ListComp elt [⟨tg,iter,ifs,0⟩] scope pos) spos) (tS K M H0 fun ρ=>ZL i (ZN (ZM own.length oix f b t e ρ)) ρ):=⟨ZjI own outs oix S hox hc hN hix hx hi.h (fun C s2 H2 fp pins M' H'=>(hg C s2 H2 fp pins M' H').h) (fun C s2 H2 fp pins M' H'=>(ht C s2 H2 fp pins M' H').h) (fun C s2 H2 fp pins M' H'=>(he C s2 H2 fp pins M' H').h) hw hsw hs⟩
end
def fnP (np n:Nat) (g:VE→Res):List Sl→Option Rv:=fun ss=>if ss.length=np then
  match g (ss++List.replicate (n-np) .no) with
  | .ret r=>some r
  | .next _=>some (.val .non)
  | _=>none
 else none
theorem ZmN {K:PySem.W.Frag} {N:Fb} {H:Hp} {ss:List Sl} {vs:List V} (nh:∀ a,N a→H a≠none) (h:ArgsOk K N H ss vs) (n:Nat):Rel K N H (ss++List.replicate n .no) (vs.map some++List.replicate n none) H:=by
 have hl:=h.length
 have noown:∀ (j:Nat) (xs:List D) (fl:Bool),(ss++List.replicate n Sl.no)[j]?≠some (Sl.own xs fl):=fun j xs fl e=>by
  rw [List.getElem?_append] at e
  split at e
  ·obtain ⟨v,_,q⟩:=h.get e;exact q
  ·rw [List.getElem?_replicate] at e
   split at e<;>cases e
 have nf:∀ a,Nf N (ss++List.replicate n Sl.no) (vs.map some++List.replicate n none) a→N a:=fun a z=>by
  rcases z with z | ⟨j,xs,fl,z,_⟩
  ·exact z
  ·exact absurd z (noown j xs fl)
 refine ⟨by simp [hl],Same.refl H,nh,fun j s e=>?_,fun i j xs ys fl fl' a z=>absurd z (noown i xs fl)⟩
 rw [List.getElem?_append] at e
 split at e
 ·next hj =>
  obtain ⟨v,ev,q⟩:=h.get e
  rw [List.getElem?_append_left (by simpa [← hl] using hj),List.getElem?_map,ev]
  cases s with
  | val d=>exact ⟨v,rfl,Den.nw q fun a ha=>.inl (nf a ha)⟩
  | lent xs fl=>obtain ⟨a,us,e1,z1,z2,z3⟩:=q;exact ⟨a,us,by rw [e1];rfl,z1,z2,z3.nw fun a ha=>.inl (nf a ha)⟩
  | no=>trivial
  | own xs fl=>exact False.elim q
  | exc c=>exact False.elim q
 ·rw [List.getElem?_replicate] at e
  split at e
  ·cases e;trivial
  ·cases e
theorem ZsW {P:Program} {w:World} {K:PySem.W.Frag} {mg:Str→Option Value} {base:Heap} {x qual:Str} {st:Stmt} {f:Addr} {fd:FuncData} {N ps:List Str} {k:Nat} {g:VE→Res} (F:Fun K x qual st f fd) (S:ZA N ps (Zg st)) (hnp:ps.length≤N.length)
  (hb:∀ (cdv:Value) (A:Around) (outer:List Env) (s:Shared) (H:Hp) (E:XK) (M:Fb) (H0:Hp),Room k (A.deeper (envOfC qual (Zg st) s.heap.objs.size f cdv)) →
   PSs (ZfR CX0 P w K mg base N qual (Zg st) f cdv A outer s H E).nox (Zz st) (tS K M H0 g)):FnOk P w K mg base CX0 (k+1) f fd ps (spD K (fnP ps.length N.length g)):=by
 refine F.ok S (fun vs H Q E h=>?_) (fun cdv A outer s H vs Q E hr h=>?_)
 ·obtain ⟨N',ss,r,nh,ha,hF,q⟩:=h
  unfold fnP at hF
  split at hF
  ·next hl=>rw [← ha.length];exact hl
  ·cases hF
 ·obtain ⟨N',ss,r,nh,ha,hF,q⟩:=h
  refine ⟨_,hb cdv A outer s H E N' H hr,?_⟩
  unfold fnP at hF
  split at hF
  ·next hl =>
   have hs:ZcV N vs=vs.map some++List.replicate (N.length-ps.length) none:=by unfold ZcV;rw [← ha.length,hl]
   rw [hs]
   refine ⟨_,ZmN nh ha (N.length-ps.length),?_⟩
   cases hg:g (ss++List.replicate (N.length-ps.length) .no) with
   | fail=>rw [hg] at hF;cases hF
   | next ρ'=>rw [hg] at hF;cases hF;exact fun σ' H' R' S'=>q .non H' R'.same (by simp only [Zll,Den])
   | brk ρ'=>rw [hg] at hF;cases hF
   | cont ρ'=>rw [hg] at hF;cases hF
   | ret r'=>rw [hg] at hF;cases hF;exact fun v H' s hv=>q v H' s hv
  ·cases hF
theorem ZS {P:Program} {w:World} {K:PySem.W.Frag} {mg:Str→Option Value} {base:Heap} {x qual:Str} {st:Stmt} {f:Addr} {fd:FuncData} {N ps:List Str} {k:Nat} {g:VE→Res} (F:Fun K x qual st f fd) (S:ZA N ps (Zg st)) (hnp:ps.length≤N.length)
  (hb:∀ (cdv:Value) (A:Around) (outer:List Env) (s:Shared) (H:Hp) (E:XK) (M:Fb) (H0:Hp),Room k (A.deeper (envOfC qual (Zg st) s.heap.objs.size f cdv)) →
   JB (ZfR CX0 P w K mg base N qual (Zg st) f cdv A outer s H E).nox (Zz st) (tS K M H0 g)):FnOk P w K mg base CX0 (k+1) f fd ps (spD K (fnP ps.length N.length g)) :=
 ZsW F S hnp fun cdv A outer s H E M H0 hr=>(hb cdv A outer s H E M H0 hr).h
theorem ZqF {P:Program} {w:World} {K:PySem.W.Frag} {mg:Str→Option Value} {base:Heap} {k:Nat} {f:Addr} {fd:FuncData} {F:List Sl→Option Rv} (G:FnOk P w K mg base CX0 k f fd ["_law_script"] (spD K F))
  (h:∀ ns:List Int,ns.length≤63→F [.val (.lst (ns.map D.int))]=some (.val (.bl true))):FnOk P w K mg base CX0 k f fd ["_law_script"] (Zic K) :=
 G.imp fun vs H Q E ⟨a,ns,e,hs,hl,q⟩=>by
  refine ⟨fun _=>False,[.val (.lst (ns.map D.int))],.val (.bl true),fun _ z=>z.elim,⟨_,[],e,?_,rfl⟩,h ns hl,fun v H' s hv=>?_⟩
  ·simp only [ArgOk,Den]
   exact ⟨a,_,rfl,.of_sq hs,DenL.ints ns⟩
  ·simp only [Zll,Den] at hv
   subst hv;exact q H'
end L2
set_option Elab.async false
set_option linter.all false
set_option maxRecDepth 100000
namespace L2
open PySem PySem.Spec PyProof.Rows
section
variable {K:PySem.W.Frag}
@[simp] def i2 (g:Int→Int→Option D):D→D→Option D
  | .int i,.int j=>g i j
  | _,_=>none
theorem ZiD {g:Int→Int→Option D} {x y d:D} (h:i2 g x y=some d):∃ i j,x=.int i∧y=.int j∧g i j=some d:=by
 unfold i2 at h
 split at h
 ·exact ⟨_,_,rfl,rfl,h⟩
 ·cases h
theorem DenP.int {N:Fb} {H:Hp} {i:Int} {v:V} (h:DenP K N H (.int i) v):v=.int i:=by simpa only [DenP,Den] using h
theorem DenP.str {N:Fb} {H:Hp} {i:Str} {v:V} (h:DenP K N H (.str i) v):v=.str i:=by simpa only [DenP,Den] using h
theorem DenP.bl {N:Fb} {H:Hp} {i:Bool} {v:V} (h:DenP K N H (.bl i) v):v=.bl i:=by simpa only [DenP,Den] using h
theorem DenP.non {N:Fb} {H:Hp} {v:V} (h:DenP K N H .non v):v=.non:=by simpa only [DenP,Den] using h
theorem DenP.ty {N:Fb} {H:Hp} {i:String} {v:V} (h:DenP K N H (.ty i) v):v=.ty i:=by simpa only [DenP,Den] using h
theorem DenP.tup {N:Fb} {H:Hp} {xs:List D} {v:V} (h:DenP K N H (.tup xs) v):∃ a vs,v=.ref a∧SqT K H a vs∧DenL K N H xs vs:=by simpa only [DenP,Den] using h
theorem ZaE {N:Fb} {H:Hp} {i:Int}:Den K N H (.int i) (.int i):=by simp only [Den]
theorem Zc2 {N:Fb} {H:Hp} {i:Bool}:Den K N H (.bl i) (.bl i):=by simp only [Den]
theorem Zeq {N:Fb} {H:Hp} {i:Str}:Den K N H (.str i) (.str i):=by simp only [Den]
theorem ZsC (g:Int→Int→Int):R2D K (rI0 fun i j=>.int (g i j)) (i2 fun i j=>some (.int (g i j))):=by
 intro N H x y d1 d2 d Q nh h1 h2 e q
 obtain ⟨i,j,rfl,rfl,e⟩:=ZiD e
 cases e
 exact ⟨i,j,h1.int,h2.int,q _ H (Same.refl H) ZaE⟩
theorem ZsQ (g:Int→Int→Bool):R2D K (rI0 fun i j=>.bl (g i j)) (i2 fun i j=>some (.bl (g i j))):=by
 intro N H x y d1 d2 d Q nh h1 h2 e q
 obtain ⟨i,j,rfl,rfl,e⟩:=ZiD e
 cases e
 exact ⟨i,j,h1.int,h2.int,q _ H (Same.refl H) Zc2⟩
theorem ZlD {C:Int→Int→Prop} [∀ i j,Decidable (C i j)] (g:Int→Int→Int):R2D K (rI C fun i j=>.int (g i j)) (i2 fun i j=>if C i j then some (.int (g i j)) else none):=by
 intro N H x y d1 d2 d Q nh h1 h2 e q
 obtain ⟨i,j,rfl,rfl,e'⟩:=ZiD e
 split at e'
 ·next hc=>cases e';exact ⟨i,j,h1.int,h2.int,hc,q _ H (Same.refl H) ZaE⟩
 ·cases e'
instance (i j:Int):Decidable (Zbj i j):=by unfold Zbj;exact inferInstance
instance (i j:Int):Decidable (CMul i j):=by unfold CMul;exact inferInstance
instance (i j:Int):Decidable (Ze9 i j):=by unfold Ze9;exact inferInstance
@[simp] def ZfX:D→D→Option D:=i2 fun i j=>some (.int (i-j))
@[simp] def ZcP:D→D→Option D:=i2 fun i j=>if CMul i j then some (.int (i * j)) else none
@[simp] def Zbg:D→D→Option D:=i2 fun i j=>if Zbj i j then some (.int (i / j)) else none
@[simp] def ZW:D→D→Option D:=i2 fun i j=>if 0<j then some (.int (i%j)) else none
@[simp] def ZiY:D→D→Option D:=i2 fun i j=>if Ze9 i j then some (.int (i^j.toNat)) else none
@[simp] def leD:D→D→Option D:=i2 fun i j=>some (.bl (decide (i≤j)))
@[simp] def gtD:D→D→Option D:=i2 fun i j=>some (.bl (decide (j<i)))
@[simp] def geD:D→D→Option D:=i2 fun i j=>some (.bl (decide (j≤i)))
section
variable {X:Cx} {M:Fb} {H0:Hp} {a b:Expr} {f g:VE→Option D} {pos:Pos}
theorem ZqJ (ha:PE X a (tP K M H0 f)) (hb:PE X b (tP K M H0 g)):PE X (.BinOp a .Sub b pos) (tD K M H0 (Ze ZfX f g)):=Zga ZqI (ZsC _) ha hb
theorem ZeU (ha:JE X a (tP K M H0 f)) (hb:JE X b (tP K M H0 g)):JE X (.BinOp a .Sub b pos) (tD K M H0 (Ze ZfX f g)):=⟨ZqJ ha.h hb.h⟩
theorem Zrg (ha:PE X a (tP K M H0 f)) (hb:PE X b (tP K M H0 g)):PE X (.BinOp a .Mult b pos) (tD K M H0 (Ze ZcP f g)):=Zga ZqS (ZlD _) ha hb
theorem Zbb (ha:JE X a (tP K M H0 f)) (hb:JE X b (tP K M H0 g)):JE X (.BinOp a .Mult b pos) (tD K M H0 (Ze ZcP f g)):=⟨Zrg ha.h hb.h⟩
theorem ZpQ (ha:PE X a (tP K M H0 f)) (hb:PE X b (tP K M H0 g)):PE X (.BinOp a .FloorDiv b pos) (tD K M H0 (Ze Zbg f g)):=Zga ZoU (ZlD _) ha hb
theorem ZaB (ha:JE X a (tP K M H0 f)) (hb:JE X b (tP K M H0 g)):JE X (.BinOp a .FloorDiv b pos) (tD K M H0 (Ze Zbg f g)):=⟨ZpQ ha.h hb.h⟩
theorem Zrz (ha:PE X a (tP K M H0 f)) (hb:PE X b (tP K M H0 g)):PE X (.BinOp a .Mod b pos) (tD K M H0 (Ze ZW f g)):=Zga Zr4 (ZlD _) ha hb
theorem ZG (ha:JE X a (tP K M H0 f)) (hb:JE X b (tP K M H0 g)):JE X (.BinOp a .Mod b pos) (tD K M H0 (Ze ZW f g)):=⟨Zrz ha.h hb.h⟩
theorem ZqU (ha:PE X a (tP K M H0 f)) (hb:PE X b (tP K M H0 g)):PE X (.BinOp a .Pow b pos) (tD K M H0 (Ze ZiY f g)):=Zga Zrv (ZlD _) ha hb
theorem Zjz (ha:JE X a (tP K M H0 f)) (hb:JE X b (tP K M H0 g)):JE X (.BinOp a .Pow b pos) (tD K M H0 (Ze ZiY f g)):=⟨ZqU ha.h hb.h⟩
@[simp] def Zg1:Option D→Option D
  | some (.int i)=>some (.int (-i))
  | _=>none
theorem Zq5 (ha:PE X a (tP K M H0 f)):PE X (.UnaryOp .USub a pos) (tD K M H0 fun ρ=>Zg1 (f ρ)):=(Zsm Zq2 ha).mono fun σ H Q ⟨ρ,d,R,e,q⟩=>by
 try dsimp only at e q
 unfold Zg1 at e
 split at e
 ·next i hf=>cases e;exact ⟨ρ,.int i,R,hf,fun v H' s hv=>⟨i,hv.int,q _ H' s ZaE⟩⟩
 ·cases e
theorem Zit (ha:JE X a (tP K M H0 f)):JE X (.UnaryOp .USub a pos) (tD K M H0 fun ρ=>Zg1 (f ρ)):=⟨Zq5 ha.h⟩
end
end
section
variable {X:Cx}
def Zoz (K:PySem.W.Frag):R2:=fun x y H Q=>∃ l b xs zs,x=.ref l∧y=.ref b∧SqL K H l xs∧SqL K H b zs∧xs.length+zs.length≤sizeLine∧∀ p,H p=none→Q (.ref p) (upd H p (.lst (xs++zs)))
theorem op_catG:OpR X (binaryOp .Add) (Zoz X.K):=by
 intro pins s σ H x y v u Q I rx ry h
 obtain ⟨l,b,xs,zs,rfl,rfl,hH,hB,hz,q⟩:=h
 cases rx
 cases ry
 obtain ⟨its,r,p1,z1⟩:=I.list hH
 obtain ⟨its2,r2,p2,z2⟩:=I.list hB
 have hl:=r.length
 have hl2:=r2.length
 obtain ⟨⟨cls,dd,data,sl⟩,ho,hc,n,hd⟩:=p1.isList
 obtain ⟨⟨cls2,dd2,data2,sl2⟩,ho2,hc2,n2,hd2⟩:=p2.isList
 simp only at hc hd hc2 hd2
 subst hc hd hc2 hd2
 have e:its.toArray++its2.toArray=(its++its2).toArray:=by simp
 refine concat_meets ⟨_,ho,rfl⟩ ⟨_,ho2,rfl⟩ noFill_list_add seq_list_add PySem.F.slot_list_add PySem.F.entry_list_add (PySem.F.args_list_add_2 _ _) (list_addW l b its.toArray its2.toArray n n2 dd dd2 sl sl2 (by rw [List.size_toArray,List.size_toArray];omega)) ⟨ho,ho2,?_⟩
 rw [e]
 exact ⟨.ref _,_,I.lnew (t':=s.toks) (r.append r2) (by rw [List.length_append];omega),rfl,q _ I.fresh⟩
def Zl1 (K:PySem.W.Frag):R2:=fun x y H Q=>∃ l b xs zs,x=.ref l∧y=.ref b∧SqT K H l xs∧SqT K H b zs∧xs.length+zs.length≤sizeLine ∧
 (xs=[]→Q (.ref b) H)∧(zs=[]→Q (.ref l) H)∧∀ p,H p=none→Q (.ref p) (upd H p (.tup (xs++zs)))
theorem Znq:OpR X (binaryOp .Add) (Zl1 X.K):=by
 intro pins s σ H x y v u Q I rx ry h
 obtain ⟨l,b,xs,zs,rfl,rfl,hH,hB,hz,qx,qz,q⟩:=h
 cases rx
 cases ry
 obtain ⟨its,r,p1,z1⟩:=I.tuple hH
 obtain ⟨its2,r2,p2,z2⟩:=I.tuple hB
 have hl:=r.length
 have hl2:=r2.length
 obtain ⟨⟨cls,dd,data,sl⟩,ho,hc,n,hd⟩:=id p1
 obtain ⟨⟨cls2,dd2,data2,sl2⟩,ho2,hc2,n2,hd2⟩:=id p2
 simp only at hc hd hc2 hd2
 subst hc hd hc2 hd2
 by_cases h1:xs=[]
 ·have hi:its.toArray.isEmpty=true:=by
   subst h1
   have:its=[]:=List.length_eq_zero_iff.mp hl.symm
   subst this;rfl
  exact concat_meets ⟨_,ho,rfl⟩ ⟨_,ho2,rfl⟩ noFill_tuple_add seq_tuple_add PySem.F.slot_tuple_add PySem.F.entry_tuple_add (PySem.F.args_tuple_add_2 _ _) (tuple_addW0 l b its.toArray its2.toArray n n2 dd dd2 sl sl2 hi) ⟨ho,ho2,⟨.ref b,H,I,rfl,qx h1⟩⟩
 ·have hi:¬ its.toArray.isEmpty=true:=by
   intro z
   have:its=[]:=by simpa using z
   subst this
   exact h1 (List.length_eq_zero_iff.mp hl)
  by_cases h2:zs=[]
  ·have hi2:its2.toArray.isEmpty=true:=by
    subst h2
    have:its2=[]:=List.length_eq_zero_iff.mp hl2.symm
    subst this;rfl
   exact concat_meets ⟨_,ho,rfl⟩ ⟨_,ho2,rfl⟩ noFill_tuple_add seq_tuple_add PySem.F.slot_tuple_add PySem.F.entry_tuple_add (PySem.F.args_tuple_add_2 _ _) (tuple_addW1 l b its.toArray its2.toArray n n2 dd dd2 sl sl2 hi hi2) ⟨ho,ho2,⟨.ref l,H,I,rfl,qz h2⟩⟩
  ·have hi2:¬ its2.toArray.isEmpty=true:=by
    intro z
    have:its2=[]:=by simpa using z
    subst this
    exact h2 (List.length_eq_zero_iff.mp hl2)
   have e:its.toArray++its2.toArray=(its++its2).toArray:=by simp
   refine concat_meets ⟨_,ho,rfl⟩ ⟨_,ho2,rfl⟩ noFill_tuple_add seq_tuple_add PySem.F.slot_tuple_add PySem.F.entry_tuple_add (PySem.F.args_tuple_add_2 _ _) (tuple_addW2 l b its.toArray its2.toArray n n2 dd dd2 sl sl2 hi hi2 (by rw [List.size_toArray,List.size_toArray];omega)) ⟨ho,ho2,?_⟩
   rw [e]
   refine ⟨.ref s.heap.objs.size,upd H s.heap.objs.size (.tup (xs++zs)),I.laid (t':=s.toks) (fun b u e=>Heap.get?_push_of_some _ e) (Nat.le_refl _) ?_,rfl,q _ I.fresh⟩
   exact ⟨by rw [List.length_append];omega,its++its2,r.append r2,IsTup.new _ _⟩
end
@[simp] def Zx:D→D→Option D
  | .int i,.int j=>some (.int (i+j))
  | .str x,.str y=>if x.length+y.length≤sizeLine then some (.str (x++y)) else none
  | .lst xs,.lst ys=>if xs.length+ys.length≤sizeLine then some (.lst (xs++ys)) else none
  | .tup xs,.tup ys=>if xs.length+ys.length≤sizeLine then some (.tup (xs++ys)) else none
  | _,_=>none
def ZoI (K:PySem.W.Frag):R2:=fun x y H Q=>rI0 (fun i j=>.int (i+j)) x y H Q∨(∃ i j,x=.str i∧y=.str j∧i.length+j.length≤sizeLine∧Q (.str (i++j)) H)∨Zoz K x y H Q∨Zl1 K x y H Q
theorem ZpO {X:Cx}:OpR X (binaryOp .Add) (ZoI X.K):=op_add.or (op_add_str.or (op_catG.or Znq))
theorem Ziq {K:PySem.W.Frag} {N:Fb} {H:Hp} {xs:List D} {vs:List V} {p:Addr} (nh:∀ a,N a→H a≠none) (hp:H p=none) (h:DenL K N H xs vs):Den K N (upd H p (.lst vs)) (.lst xs) (.ref p):=by
 simp only [Den]
 exact ⟨p,vs,rfl,.of (fun z=>nh p z hp) Zam,h.same (ZaH hp)⟩
theorem ZcJ {K:PySem.W.Frag} {N:Fb} {H:Hp} {xs:List D} {vs:List V} {p:Addr} (hp:H p=none) (h:DenL K N H xs vs):Den K N (upd H p (.tup vs)) (.tup xs) (.ref p):=by
 simp only [Den]
 exact ⟨p,vs,rfl,SqT.of Zam,h.same (ZaH hp)⟩
theorem ZqQ {K:PySem.W.Frag}:R2D K (ZoI K) Zx:=by
 intro N H x y d1 d2 d Q nh h1 h2 e q
 unfold Zx at e
 split at e
 ·cases e;exact .inl ⟨_,_,h1.int,h2.int,q _ H (Same.refl H) ZaE⟩
 ·split at e
  ·next hz=>cases e;exact .inr (.inl ⟨_,_,h1.str,h2.str,hz,q _ H (Same.refl H) Zeq⟩)
  ·cases e
 ·split at e
  ·next hz =>
   cases e
   obtain ⟨a,vs,e1,q1,r1⟩:=h1
   obtain ⟨b,ws,e2,q2,r2⟩:=h2
   exact .inr (.inr (.inl ⟨a,b,vs,ws,e1,e2,q1,q2,by rw [← r1.length,← r2.length];exact hz,fun p hp=>q _ _ (ZaH hp) (Ziq nh hp (r1.append r2))⟩))
  ·cases e
 ·split at e
  ·next hz =>
   cases e
   obtain ⟨a,vs,e1,q1,r1⟩:=h1.tup
   obtain ⟨b,ws,e2,q2,r2⟩:=h2.tup
   refine .inr (.inr (.inr ⟨a,b,vs,ws,e1,e2,q1,q2,by rw [← r1.length,← r2.length];exact hz,fun z=>?_,fun z=>?_,fun p hp=>q _ _ (ZaH hp) (ZcJ hp (r1.append r2))⟩))
   ·refine q _ H (Same.refl H) ?_
    simp only [Den]
    exact ⟨b,vs++ws,rfl,by rw [z];exact q2,r1.append r2⟩
   ·refine q _ H (Same.refl H) ?_
    simp only [Den]
    exact ⟨a,vs++ws,rfl,by rw [z,List.append_nil];exact q1,r1.append r2⟩
  ·cases e
 ·cases e
theorem Zqk {X:Cx} {M:Fb} {H0:Hp} {a b:Expr} {f g:VE→Option D} {pos:Pos} (ha:PE X a (tP X.K M H0 f)) (hb:PE X b (tP X.K M H0 g)):PE X (.BinOp a .Add b pos) (tD X.K M H0 (Ze Zx f g)):=Zga ZpO ZqQ ha hb
theorem Zv {X:Cx} {M:Fb} {H0:Hp} {a b:Expr} {f g:VE→Option D} {pos:Pos} (ha:JE X a (tP X.K M H0 f)) (hb:JE X b (tP X.K M H0 g)):JE X (.BinOp a .Add b pos) (tD X.K M H0 (Ze Zx f g)):=⟨Zqk ha.h hb.h⟩
section
variable {prog:Program} {w:World} {A:Around} {E:Value→Shared→Prop} {s:Shared}
theorem Zfs {t sl:Addr} {items:Array Value} {vl vu:Value} {lo hi:Option Int} {Q:Value→Shared→Prop} (ht:IsTup s.heap t items) (hs:s.heap.IsSliceOf sl vl vu .none) (pl:IsPart vl lo) (pu:IsPart vu hi)
  (hw:HT.sIx items.size 0 lo=0∧HT.sIx items.size items.size hi=items.size) (h:Q (.ref t) s):wpAny (model prog w) A (getItem (.ref t) (.ref sl)) Q E s:=by
 obtain ⟨os,hos,hcs,hds⟩:=id hs
 have hTs:s.TypeIs (.ref sl) "slice":=⟨os,hos,hcs⟩
 unfold getItem
 try with_reducible refine wpAny_holding ?_
 first | refine wpAny_bind (wpAny_pure ?_) | skip
 refine wpAny_bind (wpAny_sequenceKey ht.typeIs (by decide) ?_)
 refine wpAny_bind (wpAny_callSpecial?_slot (name:=Str.ofString "__getitem__") ht.typeIs PyProof.Rows.slot_tuple_getitem
  (wpAny_call_entry PyProof.Rows.slot_tuple_getitem ht.typeIs entry_tuple_getitem ?_ (args_tuple_getitem _ _)))
 show wpAny _ _ (Builtin.Tuple.tupleItemsOf (.ref t) >>= _) _ _ s
 refine wpAny_bind (PyProof.Rows.tupleItemsOf_ ht ?_)
 refine wpAny_bind (wpAny_typeOf hTs ?_)
 rw [if_pos (by decide)]
 refine wpAny_bind (HT.sliceApplied_gen hs pl pu ?_)
 have hyes:(((HT.sIx items.size 0 lo:Nat):Int)==0&&(1:Int)==1&&(HT.sIx items.size items.size hi-HT.sIx items.size 0 lo)==items.size)=true:=by
  rw [hw.1,hw.2];simp
 show wpAny _ _ (if (((HT.sIx items.size 0 lo:Nat):Int)==0&&(1:Int)==1&&(HT.sIx items.size items.size hi-HT.sIx items.size 0 lo)==items.size)=true then _ else _) _ _ s
 rw [if_pos hyes]
 unfold Builtin.Tuple.tupleIsExact
 refine wpAny_bind (wpAny_bind (wpAny_typeOf ht.typeIs (wpAny_pure ?_)))
 rw [if_pos (by decide)]
 exact wpAny_bind (wpAny_rule (wpAny_pure ⟨_,rfl,wpAny_pure h⟩))
end
def ZsB (K:PySem.W.Frag):V→Option Int→Option Int→Hp→VK→Prop:=fun x lo hi H Q=>∃ a xs,x=.ref a∧SqT K H a xs∧(ZdC xs lo hi=xs→Q (.ref a) H)∧∀ p,H p=none→Q (.ref p) (upd H p (.tup (ZdC xs lo hi)))
theorem sl_tupG {X:Cx}:SlR X (ZsB X.K):=by
 intro pins s σ H x v vl vu lo hi sl Q I rx hs pl pu h
 obtain ⟨a,xs,rfl,hx,qw,q⟩:=h
 by_cases hw:HT.sIx xs.length 0 lo=0∧HT.sIx xs.length xs.length hi=xs.length
 ·cases rx
  obtain ⟨its,r,ht,hz⟩:=I.tuple hx
  have hlen:its.toArray.size=xs.length:=by rw [List.size_toArray];exact r.length.symm
  refine ⟨"tuple",_,PyProof.Rows.slot_tuple_getitem.lookup,ht.typeIs,Zfs ht hs pl pu (by rw [hlen];exact hw) ⟨.ref a,H,I,rfl,qw ?_⟩⟩
  unfold ZdC
  rw [hw.1,hw.2,List.drop_zero,Nat.sub_zero,List.take_length]
 ·exact Zqz pins s σ H _ v vl vu lo hi sl Q I rx hs pl pu ⟨a,xs,rfl,hx,hw,q⟩
@[simp] def ixD:D→D→Option D
  | .lst xs,.int i=>atI xs i
  | .tup xs,.int i=>atI xs i
  | .str x,.int i=>if x.length≤sizeLine then (atI x.cps.toList i).map fun c=>.str ⟨#[c]⟩ else none
  | _,_=>none
theorem DenL.atI {K:PySem.W.Frag} {N:Fb} {H:Hp} {xs:List D} {vs:List V} {i:Int} {d:D} (h:DenL K N H xs vs) (e:L2.atI xs i=some d):∃ v,L2.atI vs i=some v∧Den K N H d v:=by
 unfold L2.atI at e ⊢
 rw [← h.length]
 cases hj:ixN xs.length i with
 | none=>rw [hj] at e;cases e
 | some j=>rw [hj] at e;exact h.get e
theorem Zs1 {K:PySem.W.Frag}:R2D K (rIx K) ixD:=by
 intro N H x y d1 d2 d Q nh h1 h2 e q
 unfold ixD at e
 split at e
 ·obtain ⟨a,vs,e1,q1,r1⟩:=h1
  obtain ⟨v,ev,hv⟩:=r1.atI e
  exact .inl ⟨a,vs,_,v,e1,h2.int,q1,ev,q v H (Same.refl H) hv⟩
 ·obtain ⟨a,vs,e1,q1,r1⟩:=h1.tup
  obtain ⟨v,ev,hv⟩:=r1.atI e
  exact .inr (.inl ⟨a,vs,_,v,e1,h2.int,q1,ev,q v H (Same.refl H) hv⟩)
 ·split at e
  ·next z i hz =>
   cases hc:atI z.cps.toList i with
   | none=>rw [hc] at e;cases e
   | some c=>rw [hc] at e;cases e;exact .inr (.inr ⟨z,i,c,h1.str,h2.int,hz,hc,q _ H (Same.refl H) Zeq⟩)
  ·cases e
 ·cases e
section
variable {X:Cx} {K:PySem.W.Frag} {M:Fb} {H0:Hp} {a b e:Expr} {f g:VE→Option D} {pos p2:Pos}
theorem ZpN (ha:PE X a (tP X.K M H0 f)) (hb:PE X b (tP X.K M H0 g)) (hs:Zds b):PE X (.Subscript a b pos) (tD X.K M H0 (Ze ixD f g)):=Zoy Zsj Zs1 ha hb hs
theorem Zn (ha:JE X a (tP X.K M H0 f)) (hb:JE X b (tP X.K M H0 g)) (hs:Zds b):JE X (.Subscript a b pos) (tD X.K M H0 (Ze ixD f g)):=⟨ZpN ha.h hb.h hs⟩
def tO (K:PySem.W.Frag) (M:Fb) (H0:Hp) (o:VE→Option (Option Int)):TO:=fun σ H Q=>∃ ρ i,Rel K M H0 ρ σ H∧o ρ=some i∧∀ H',Same H H'→Q i H'
@[simp] def asI:Option D→Option (Option Int)
  | some (.int i)=>some (some i)
  | _=>none
theorem PO.mono {e:Option Expr} {t t':TO} (h:PO X e t) (m:∀ σ H Q,t' σ H Q→t σ H Q):PO X e t':=by
 intro pins s σ H Q I q
 exact h pins s σ H Q I (m σ H Q q)
theorem ZoP:PO X none (tO K M H0 fun _=>some none):=PO.mono ZoS fun σ H Q ⟨ρ,i,R,e,q⟩=>by (try dsimp only at e q);cases e;exact q H (Same.refl H)
theorem ZdY :JO X none (tO K M H0 fun _=>some none):=⟨ZoP ⟩
theorem ZoY (h:PE X e (tP K M H0 f)):PO X (some e) (tO K M H0 fun ρ=>asI (f ρ)):=PO.mono (Zpb h) fun σ H Q ⟨ρ,i,R,e,q⟩=>by
 try dsimp only at e q
 unfold asI at e
 split at e
 ·next j hf=>cases e;exact ⟨ρ,.int j,R,hf,fun v H' s hv=>⟨j,hv.int,q H' s⟩⟩
 ·cases e
theorem Zco (h:JE X e (tP K M H0 f)):JO X (some e) (tO K M H0 fun ρ=>asI (f ρ)):=⟨ZoY h.h⟩
def ZbJ {α:Type} (xs:List α) (lo hi:Option Int):List α:=(xs.drop (HT.sIx xs.length 0 lo)).take (HT.sIx xs.length xs.length hi-HT.sIx xs.length 0 lo)
@[simp] def slD (x:D) (lo hi:Option Int):Option D:=match x with
  | .lst xs=>some (.lst (ZbJ xs lo hi))
  | .tup xs=>some (.tup (ZbJ xs lo hi))
  | .str x=>if x.length≤sizeLine then some (.str (Txt.slice x lo hi)) else none
  | _=>none
@[simp] def slL (x:D) (lo hi:Option Int):Option (List D):=match x with
  | .lst xs=>some (ZbJ xs lo hi)
  | _=>none
theorem DenL.cut {K:PySem.W.Frag} {N:Fb} {H:Hp} {xs:List D} {vs:List V} (h:DenL K N H xs vs) (lo hi:Option Int):DenL K N H (ZbJ xs lo hi) (ZdC vs lo hi):=by
 unfold ZbJ ZdC
 rw [h.length]
 exact (h.drop _).take _
@[simp] def sl3 {α:Type} (f:VE→Option D) (lo hi:VE→Option (Option Int)) (F:D→Option Int→Option Int→Option α):VE→Option α:=fun ρ=>(f ρ).bind fun x=>(lo ρ).bind fun l=>(hi ρ).bind fun h=>F x l h
theorem ZoV {α:Type} {f:VE→Option D} {lo hi:VE→Option (Option Int)} {F:D→Option Int→Option Int→Option α} {ρ:VE} {d:α} (h:sl3 f lo hi F ρ=some d):∃ x l u,f ρ=some x∧lo ρ=some l∧hi ρ=some u∧F x l u=some d:=by
 unfold sl3 at h
 cases hf:f ρ with
 | none=>rw [hf] at h;cases h
 | some x =>
  cases hl:lo ρ with
  | none=>rw [hf,hl] at h;cases h
  | some l =>
   cases hu:hi ρ with
   | none=>rw [hf,hl,hu] at h;cases h
   | some u=>rw [hf,hl,hu] at h;exact ⟨x,l,u,rfl,rfl,rfl,h⟩
theorem Zoh {el eu:Option Expr} {lo hi:VE→Option (Option Int)} (he:PE X e (tP X.K M H0 f)) (hl:PO X el (tO X.K M H0 lo)) (hu:PO X eu (tO X.K M H0 hi)) :
  PE X (.Subscript e (.Slice el eu none p2) pos) (tD X.K M H0 (sl3 f lo hi slD)):=(ZnS (sl_list.or (sl_tupG.or ZqZ)) he hl hu).mono fun σ H Q ⟨ρ,d,R,ex,q⟩=>by
 try dsimp only at ex q
 obtain ⟨x,l,u,e1,e2,e3,e4⟩:=ZoV ex
 refine ⟨ρ,x,R,e1,fun v H1 s1 hv=>⟨ρ,l,R.st s1,e2,fun H2 s2=>⟨ρ,u,(R.st s1).st s2,e3,fun H3 s3=>?_⟩⟩⟩
 have hv:=(hv.same s2).same s3
 have s:=(s1.trans s2).trans s3
 have R3:=R.st s
 unfold slD at e4
 split at e4
 ·cases e4
  obtain ⟨a,vs,ea,qa,ra⟩:=hv
  exact .inl ⟨a,vs,ea,qa,fun p hp=>q _ _ (s.trans (ZaH hp)) (Ziq R3.nh hp (ra.cut l u))⟩
 ·cases e4
  obtain ⟨a,vs,ea,qa,ra⟩:=hv.tup
  refine .inr (.inl ⟨a,vs,ea,qa,fun z=>q _ _ s ?_,fun p hp=>q _ _ (s.trans (ZaH hp)) (ZcJ hp (ra.cut l u))⟩)
  simp only [Den]
  exact ⟨a,vs,rfl,qa,z ▸ ra.cut l u⟩
 ·split at e4
  ·next hz=>cases e4;exact .inr (.inr ⟨_,hv.str,hz,q _ _ s Zeq⟩)
  ·cases e4
 ·cases e4
theorem Zcx {el eu:Option Expr} {lo hi:VE→Option (Option Int)} (he:JE X e (tP X.K M H0 f)) (hl:JO X el (tO X.K M H0 lo)) (hu:JO X eu (tO X.K M H0 hi)):JE X (.Subscript e (.Slice el eu none p2) pos) (tD X.K M H0 (sl3 f lo hi slD)):=⟨Zoh he.h hl.h hu.h⟩
end
end L2
set_option Elab.async false
set_option linter.all false
set_option maxRecDepth 100000
namespace L2
open PySem PySem.Spec PyProof.Rows
mutual
def eqD:D→D→Bool
 | .non,.non=>true
 | .bl a,.bl b=>a==b
 | .bl a,.int b=>(if a then 1 else 0)==b
 | .int a,.bl b=>a==(if b then 1 else 0)
 | .int a,.int b=>a==b
 | .str a,.str b=>a==b
 | .tup xs,.tup ys=>Zad xs ys
 | .lst xs,.lst ys=>Zad xs ys
 | _,_=>false
def Zad:List D→List D→Bool
 | [],[]=>true
 | x::xs,y::ys=>eqD x y&&Zad xs ys
 | _,_=>false
end
@[simp] def okD:Nat→D→Bool
  | _,.non=>true
  | _,.bl _=>true
  | _,.int _=>true
  | _,.str _=>true
  | n+1,.tup xs=>xs.all (okD n)
  | n+1,.lst xs=>xs.all (okD n)
  | _,_=>false
mutual
theorem Zjf:∀ (n:Nat) (d:D),okD n d=true→eqD d d=true
 | _,.non,_=>by simp only [eqD]
 | _,.bl _,_=>by simp only [eqD,beq_self_eq_true]
 | _,.int _,_=>by simp only [eqD,beq_self_eq_true]
 | _,.str _,_=>by simp only [eqD,beq_self_eq_true]
 | 0,.ty _,h=>by simp [okD] at h
 | _+1,.ty _,h=>by simp [okD] at h
 | 0,.tup xs,h=>by simp [okD] at h
 | 0,.lst xs _,h=>by simp [okD] at h
 | n+1,.tup xs,h=>by simp only [okD] at h;simp only [eqD];exact Zc0 n xs h
 | n+1,.lst xs false,h=>by simp only [okD] at h;simp only [eqD];exact Zc0 n xs h
 | n+1,.lst xs true,h=>by simp [okD] at h
theorem Zc0:∀ (n:Nat) (xs:List D),xs.all (okD n)=true→Zad xs xs=true
 | _,[],_=>by simp only [Zad]
 | n,x::xs,h=>by
  simp only [List.all_cons,Bool.and_eq_true] at h
  simp only [Zad,Bool.and_eq_true]
  exact ⟨Zjf n x h.1,Zc0 n xs h.2⟩
end
theorem Zgl:∀ {xs ys:List D},xs.length≠ys.length→Zad xs ys=false
 | [],[],h=>absurd rfl h
 | [],_::_,_=>by simp only [Zad]
 | _::_,[],_=>by simp only [Zad]
 | x::xs,y::ys,h=>by
  simp only [Zad]
  rw [Zgl (xs:=xs) (ys:=ys) (by simpa using h),Bool.and_false]
theorem Zgw:∀ {xs ys:List D},xs.length=ys.length→Zad xs ys=(List.range xs.length).all fun j=>eqD (xs.getD j .non) (ys.getD j .non)
 | [],[],_=>by simp [Zad]
 | [],_::_,h=>by simp at h
 | _::_,[],h=>by simp at h
 | x::xs,y::ys,h=>by
  have ih:=Zgw (xs:=xs) (ys:=ys) (by simpa using h)
  simp only [Zad,List.length_cons,List.range_succ_eq_map,List.all_cons,List.getD_cons_zero,List.all_map,ih]
  rfl
section
variable {X:Cx} {pins:List (Addr×Obj)} {σ:St} {H:Hp} {s:Shared}
theorem Inv.apart (I:Inv X pins σ H s) {a:Addr} {xs ys:List V} (h:SqL X.K H a xs) (h':SqT X.K H a ys):False:=by
 obtain ⟨its,r,⟨o,n,e,c,_⟩,_⟩:=I.list h
 obtain ⟨its',r',⟨o',e',c',_⟩,_⟩:=I.tuple h'
 rw [e] at e';cases e'
 rw [c] at c'
 exact absurd c' (by decide)
theorem Rd.dct_inj {H:Hp} {a:Addr} {ks ks':List KT} {vs vs':List V} (h:Rd H a (.dct ks vs)) (h':Rd H a (.dct ks' vs')):vs=vs':=by
 rcases h with h | ⟨o,h⟩<;>rcases h' with h' | ⟨o',h'⟩<;>(rw [h] at h';cases h';try rfl)
theorem Inv.apartDL (I:Inv X pins σ H s) {a:Addr} {ks:List KT} {xs ys:List V} (h:Rd H a (.dct ks xs)) (h':SqL X.K H a ys):False:=by
 obtain ⟨_,_,_,o,_,_,e,c,_⟩:=h.ok I.hok
 obtain ⟨its',r',⟨o',n',e',c',_⟩,_⟩:=I.list h'
 rw [e] at e';cases e'
 rw [c.1] at c'
 exact absurd c' (by decide)
theorem Inv.apartDT (I:Inv X pins σ H s) {a:Addr} {ks:List KT} {xs ys:List V} (h:Rd H a (.dct ks xs)) (h':SqT X.K H a ys):False:=by
 obtain ⟨_,_,_,o,_,_,e,c,_⟩:=h.ok I.hok
 obtain ⟨its',r',⟨o',e',c',_⟩,_⟩:=I.tuple h'
 rw [e] at e';cases e'
 rw [c.1] at c'
 exact absurd c' (by decide)
mutual
/-- what an address denotes is one thing -/
theorem Zpf (I:Inv X pins σ H s) {N N':Fb}:∀ (d d':D) (v:V),DenP X.K N H d v→DenP X.K N' H d' v→d=d'
 | .non,d',v,h,h'=>by
  have h:=h.non
  cases d' with
  | non=>rfl
  | bl _=>rw [h'.bl] at h;cases h
  | int _=>rw [h'.int] at h;cases h
  | str _=>rw [h'.str] at h;cases h
  | ty _=>rw [h'.ty] at h;cases h
  | tup _=>obtain ⟨_,_,e,_⟩:=h'.tup;rw [e] at h;cases h
  | lst _ fl=>cases fl<;>(obtain ⟨_,_,e,_⟩:=h';rw [e] at h;cases h)
 | .bl _,d',v,h,h'=>by
  have h:=h.bl
  cases d' with
  | non=>rw [h'.non] at h;cases h
  | bl _=>rw [h'.bl] at h;cases h;rfl
  | int _=>rw [h'.int] at h;cases h
  | str _=>rw [h'.str] at h;cases h
  | ty _=>rw [h'.ty] at h;cases h
  | tup _=>obtain ⟨_,_,e,_⟩:=h'.tup;rw [e] at h;cases h
  | lst _ fl=>cases fl<;>(obtain ⟨_,_,e,_⟩:=h';rw [e] at h;cases h)
 | .int _,d',v,h,h'=>by
  have h:=h.int
  cases d' with
  | non=>rw [h'.non] at h;cases h
  | bl _=>rw [h'.bl] at h;cases h
  | int _=>rw [h'.int] at h;cases h;rfl
  | str _=>rw [h'.str] at h;cases h
  | ty _=>rw [h'.ty] at h;cases h
  | tup _=>obtain ⟨_,_,e,_⟩:=h'.tup;rw [e] at h;cases h
  | lst _ fl=>cases fl<;>(obtain ⟨_,_,e,_⟩:=h';rw [e] at h;cases h)
 | .str _,d',v,h,h'=>by
  have h:=h.str
  cases d' with
  | non=>rw [h'.non] at h;cases h
  | bl _=>rw [h'.bl] at h;cases h
  | int _=>rw [h'.int] at h;cases h
  | str _=>rw [h'.str] at h;cases h;rfl
  | ty _=>rw [h'.ty] at h;cases h
  | tup _=>obtain ⟨_,_,e,_⟩:=h'.tup;rw [e] at h;cases h
  | lst _ fl=>cases fl<;>(obtain ⟨_,_,e,_⟩:=h';rw [e] at h;cases h)
 | .ty _,d',v,h,h'=>by
  have h:=h.ty
  cases d' with
  | non=>rw [h'.non] at h;cases h
  | bl _=>rw [h'.bl] at h;cases h
  | int _=>rw [h'.int] at h;cases h
  | str _=>rw [h'.str] at h;cases h
  | ty _=>rw [h'.ty] at h;cases h;rfl
  | tup _=>obtain ⟨_,_,e,_⟩:=h'.tup;rw [e] at h;cases h
  | lst _ fl=>cases fl<;>(obtain ⟨_,_,e,_⟩:=h';rw [e] at h;cases h)
 | .tup xs,d',v,h,h'=>by
  obtain ⟨a,vs,e,q,r⟩:=h.tup
  subst e
  cases d' with
  | non=>cases h'.non
  | bl _=>cases h'.bl
  | int _=>cases h'.int
  | str _=>cases h'.str
  | ty _=>cases h'.ty
  | tup ys =>
   obtain ⟨b,ws,e,q',r'⟩:=h'.tup
   cases e
   have:=I.tuple_inj q q'
   subst this
   rw [ZcS I xs ys vs r r']
  | lst _ fl =>
   cases fl with
   | false=>obtain ⟨b,ws,e,q',_⟩:=h';cases e;exact (I.apart q' q).elim
   | true=>obtain ⟨b,ws,e,q',_⟩:=h';cases e;exact (I.apartDT q' q).elim
 | .lst xs true,d',v,h,h'=>by
  obtain ⟨a,vs,e,q,r⟩:=h
  subst e
  cases d' with
  | non=>cases h'.non
  | bl _=>cases h'.bl
  | int _=>cases h'.int
  | str _=>cases h'.str
  | ty _=>cases h'.ty
  | tup ys=>obtain ⟨b,ws,e,q',r'⟩:=h'.tup;cases e;exact (I.apartDT q q').elim
  | lst ys fl =>
   cases fl with
   | false=>obtain ⟨b,ws,e,q',r'⟩:=h';cases e;exact (I.apartDL q q').elim
   | true =>
    obtain ⟨b,ws,e,q',r'⟩:=h'
    cases e
    have:=Rd.dct_inj q q'
    subst this
    rw [ZcS I xs ys vs r r']
 | .lst xs false,d',v,h,h'=>by
  obtain ⟨a,vs,e,q,r⟩:=h
  subst e
  cases d' with
  | non=>cases h'.non
  | bl _=>cases h'.bl
  | int _=>cases h'.int
  | str _=>cases h'.str
  | ty _=>cases h'.ty
  | tup ys=>obtain ⟨b,ws,e,q',r'⟩:=h'.tup;cases e;exact (I.apart q q').elim
  | lst ys fl =>
   cases fl with
   | true=>obtain ⟨b,ws,e,q',r'⟩:=h';cases e;exact (I.apartDL q' q).elim
   | false =>
   obtain ⟨b,ws,e,q',r'⟩:=h'
   cases e
   have:=I.list_inj q q'
   subst this
   rw [ZcS I xs ys vs r r']
theorem ZcS (I:Inv X pins σ H s) {N N':Fb}:∀ (xs ys:List D) (vs:List V),DenL X.K N H xs vs→DenL X.K N' H ys vs→xs=ys
 | [],ys,vs,h,h'=>by
  simp only [DenL] at h;subst h
  cases ys with
  | nil=>rfl
  | cons y ys=>simp only [DenL] at h';obtain ⟨_,_,e,_⟩:=h';cases e
 | x::xs,ys,vs,h,h'=>by
  simp only [DenL] at h
  obtain ⟨v,r,e,q,t⟩:=h
  subst e
  cases ys with
  | nil=>simp only [DenL] at h';cases h'
  | cons y ys =>
   simp only [DenL] at h'
   obtain ⟨v',r',e,q',t'⟩:=h'
   cases e
   rw [Zpf I x y v q.p q'.p,ZcS I xs ys r t t']
end
open SeqAt
theorem getD_some {α:Type} {xs:List α} {j:Nat} {d e:α} (h:xs[j]?=some e):xs.getD j d=e:=by simp [List.getD_eq_getElem?_getD,h]
theorem Zf3 {its:List Value} {j:Nat} {u:Value} (h1:j<its.toArray.size) (e:its[j]?=some u):its.toArray[j]=u:=by
 obtain ⟨_,e⟩:=List.getElem?_eq_some_iff.mp e
 simpa using e
def Zqm (A:Around) (s:Shared) (u v:Value) (b:Bool):Prop:=RcAt A s u v b∧EqAt A s u v b∧RcNeAt A s u v (!b)
theorem Zcr (A:Around):A.in1.units=A.units+1:=rfl
theorem ZdM (I:Inv X pins σ H s) {N:Fb}:∀ (n:Nat) (A:Around) (x y:D) (vx vy:V) (u v:Value),A.units+n<cLine→okD n x=true→okD n y=true→DenP X.K N H x vx→DenP X.K N H y vy→RelV vx u→RelV vy v→Zqm A s u v (eqD x y):=by
 intro n
 induction n with
 | zero =>
  intro A x y vx vy u v hu ox oy hx hy rx ry
  have hu':A.units<cLine:=by omega
  cases x with
  | non =>
   rw [hx.non] at rx;cases rx
   cases y with
   | non=>rw [hy.non] at ry;cases ry;simp only [eqD];exact ⟨RcAt.none_none,EqAt.same _,RcNeAt.none_none⟩
   | bl _=>rw [hy.bl] at ry;cases ry;simp only [eqD];exact ⟨RcAt.none_bool _,EqAt.none_bool _,RcNeAt.none_bool _⟩
   | int _=>rw [hy.int] at ry;obtain ⟨t2,rfl⟩:=ry;simp only [eqD];exact ⟨RcAt.none_int _ _,EqAt.none_int _ _,RcNeAt.none_int _ _⟩
   | str _=>rw [hy.str] at ry;obtain ⟨t2,rfl⟩:=ry;simp only [eqD];exact ⟨RcAt.none_str _ _,EqAt.none_str _ _,RcNeAt.none_str _ _⟩
   | tup ys=>simp [okD] at oy
   | lst ys=>simp [okD] at oy
   | ty _=>simp [okD] at oy
  | bl _ =>
   rw [hx.bl] at rx;cases rx
   cases y with
   | non=>rw [hy.non] at ry;cases ry;simp only [eqD];exact ⟨RcAt.bool_none _,EqAt.bool_none _,RcNeAt.bool_none _⟩
   | bl _=>rw [hy.bl] at ry;cases ry;simp only [eqD];exact ⟨RcAt.bool_bool _ _,EqAt.bool_bool _ _,RcNeAt.bool_bool _ _⟩
   | int _=>rw [hy.int] at ry;obtain ⟨t2,rfl⟩:=ry;simp only [eqD];exact ⟨RcAt.bool_int _ _ _,EqAt.bool_int _ _ _,RcNeAt.bool_int _ _ _⟩
   | str _=>rw [hy.str] at ry;obtain ⟨t2,rfl⟩:=ry;simp only [eqD];exact ⟨RcAt.bool_str _ _ _,EqAt.bool_str _ _ _,RcNeAt.bool_str _ _ _⟩
   | tup ys=>simp [okD] at oy
   | lst ys=>simp [okD] at oy
   | ty _=>simp [okD] at oy
  | int _ =>
   rw [hx.int] at rx;obtain ⟨t1,rfl⟩:=rx
   cases y with
   | non=>rw [hy.non] at ry;cases ry;simp only [eqD];exact ⟨RcAt.int_none _ _,EqAt.int_none _ _,RcNeAt.int_none _ _⟩
   | bl _=>rw [hy.bl] at ry;cases ry;simp only [eqD];exact ⟨RcAt.int_bool _ _ _,EqAt.int_bool _ _ _,RcNeAt.int_bool _ _ _⟩
   | int _=>rw [hy.int] at ry;obtain ⟨t2,rfl⟩:=ry;simp only [eqD];exact ⟨RcAt.int_int _ _ _ _,EqAt.int_int _ _ _ _,RcNeAt.int_int _ _ _ _⟩
   | str _=>rw [hy.str] at ry;obtain ⟨t2,rfl⟩:=ry;simp only [eqD];exact ⟨RcAt.int_str _ _ _ _,EqAt.int_str _ _ _ _,RcNeAt.int_str _ _ _ _⟩
   | tup ys=>simp [okD] at oy
   | lst ys=>simp [okD] at oy
   | ty _=>simp [okD] at oy
  | str _ =>
   rw [hx.str] at rx;obtain ⟨t1,rfl⟩:=rx
   cases y with
   | non=>rw [hy.non] at ry;cases ry;simp only [eqD];exact ⟨RcAt.str_none _ _,EqAt.str_none _ _,RcNeAt.str_none _ _⟩
   | bl _=>rw [hy.bl] at ry;cases ry;simp only [eqD];exact ⟨RcAt.str_bool _ _ _,EqAt.str_bool _ _ _,RcNeAt.str_bool _ _ _⟩
   | int _=>rw [hy.int] at ry;obtain ⟨t2,rfl⟩:=ry;simp only [eqD];exact ⟨RcAt.str_int _ _ _ _,EqAt.str_int _ _ _ _,RcNeAt.str_int _ _ _ _⟩
   | str _=>rw [hy.str] at ry;obtain ⟨t2,rfl⟩:=ry;simp only [eqD];exact ⟨RcAt.str_str _ _ _ _,EqAt.str_str _ _ _ _,RcNeAt.str_str _ _ _ _⟩
   | tup ys=>simp [okD] at oy
   | lst ys=>simp [okD] at oy
   | ty _=>simp [okD] at oy
  | tup xs=>simp [okD] at ox
  | lst xs=>simp [okD] at ox
  | ty _=>simp [okD] at ox
 | succ n ih =>
  intro A x y vx vy u v hu ox oy hx hy rx ry
  have hu':A.units<cLine:=by omega
  cases x with
  | non =>
   rw [hx.non] at rx;cases rx
   cases y with
   | non=>rw [hy.non] at ry;cases ry;simp only [eqD];exact ⟨RcAt.none_none,EqAt.same _,RcNeAt.none_none⟩
   | bl _=>rw [hy.bl] at ry;cases ry;simp only [eqD];exact ⟨RcAt.none_bool _,EqAt.none_bool _,RcNeAt.none_bool _⟩
   | int _=>rw [hy.int] at ry;obtain ⟨t2,rfl⟩:=ry;simp only [eqD];exact ⟨RcAt.none_int _ _,EqAt.none_int _ _,RcNeAt.none_int _ _⟩
   | str _=>rw [hy.str] at ry;obtain ⟨t2,rfl⟩:=ry;simp only [eqD];exact ⟨RcAt.none_str _ _,EqAt.none_str _ _,RcNeAt.none_str _ _⟩
   | tup ys=>obtain ⟨a2,vs2,e2,q2,d2⟩:=hy.tup;subst e2;cases ry;obtain ⟨its2,r2,p2,z2⟩:=I.tuple q2;simp only [eqD];exact ⟨RcAt.none_tuple p2 hu',EqAt.none_tuple p2 hu',RcNeAt.none_tuple p2 hu'⟩
   | lst ys fl =>
    cases fl with
    | true=>simp [okD] at oy
    | false =>
     obtain ⟨a2,vs2,e2,q2,d2⟩:=hy;subst e2;cases ry;obtain ⟨its2,r2,p2,z2⟩:=I.list q2;simp only [eqD];exact ⟨RcAt.none_list p2.isList hu',EqAt.none_list p2.isList hu',RcNeAt.none_list p2.isList hu'⟩
   | ty _=>simp [okD] at oy
  | bl _ =>
   rw [hx.bl] at rx;cases rx
   cases y with
   | non=>rw [hy.non] at ry;cases ry;simp only [eqD];exact ⟨RcAt.bool_none _,EqAt.bool_none _,RcNeAt.bool_none _⟩
   | bl _=>rw [hy.bl] at ry;cases ry;simp only [eqD];exact ⟨RcAt.bool_bool _ _,EqAt.bool_bool _ _,RcNeAt.bool_bool _ _⟩
   | int _=>rw [hy.int] at ry;obtain ⟨t2,rfl⟩:=ry;simp only [eqD];exact ⟨RcAt.bool_int _ _ _,EqAt.bool_int _ _ _,RcNeAt.bool_int _ _ _⟩
   | str _=>rw [hy.str] at ry;obtain ⟨t2,rfl⟩:=ry;simp only [eqD];exact ⟨RcAt.bool_str _ _ _,EqAt.bool_str _ _ _,RcNeAt.bool_str _ _ _⟩
   | tup ys=>obtain ⟨a2,vs2,e2,q2,d2⟩:=hy.tup;subst e2;cases ry;obtain ⟨its2,r2,p2,z2⟩:=I.tuple q2;simp only [eqD];exact ⟨RcAt.bool_tuple _ p2 hu',EqAt.bool_tuple _ p2 hu',RcNeAt.bool_tuple _ p2 hu'⟩
   | lst ys fl =>
    cases fl with
    | true=>simp [okD] at oy
    | false =>
     obtain ⟨a2,vs2,e2,q2,d2⟩:=hy;subst e2;cases ry;obtain ⟨its2,r2,p2,z2⟩:=I.list q2;simp only [eqD];exact ⟨RcAt.bool_list _ p2.isList hu',EqAt.bool_list _ p2.isList hu',RcNeAt.bool_list _ p2.isList hu'⟩
   | ty _=>simp [okD] at oy
  | int _ =>
   rw [hx.int] at rx;obtain ⟨t1,rfl⟩:=rx
   cases y with
   | non=>rw [hy.non] at ry;cases ry;simp only [eqD];exact ⟨RcAt.int_none _ _,EqAt.int_none _ _,RcNeAt.int_none _ _⟩
   | bl _=>rw [hy.bl] at ry;cases ry;simp only [eqD];exact ⟨RcAt.int_bool _ _ _,EqAt.int_bool _ _ _,RcNeAt.int_bool _ _ _⟩
   | int _=>rw [hy.int] at ry;obtain ⟨t2,rfl⟩:=ry;simp only [eqD];exact ⟨RcAt.int_int _ _ _ _,EqAt.int_int _ _ _ _,RcNeAt.int_int _ _ _ _⟩
   | str _=>rw [hy.str] at ry;obtain ⟨t2,rfl⟩:=ry;simp only [eqD];exact ⟨RcAt.int_str _ _ _ _,EqAt.int_str _ _ _ _,RcNeAt.int_str _ _ _ _⟩
   | tup ys=>obtain ⟨a2,vs2,e2,q2,d2⟩:=hy.tup;subst e2;cases ry;obtain ⟨its2,r2,p2,z2⟩:=I.tuple q2;simp only [eqD];exact ⟨RcAt.int_tuple _ _ p2 hu',EqAt.int_tuple _ _ p2 hu',RcNeAt.int_tuple _ _ p2 hu'⟩
   | lst ys fl =>
    cases fl with
    | true=>simp [okD] at oy
    | false =>
     obtain ⟨a2,vs2,e2,q2,d2⟩:=hy;subst e2;cases ry;obtain ⟨its2,r2,p2,z2⟩:=I.list q2;simp only [eqD];exact ⟨RcAt.int_list _ _ p2.isList hu',EqAt.int_list _ _ p2.isList hu',RcNeAt.int_list _ _ p2.isList hu'⟩
   | ty _=>simp [okD] at oy
  | str _ =>
   rw [hx.str] at rx;obtain ⟨t1,rfl⟩:=rx
   cases y with
   | non=>rw [hy.non] at ry;cases ry;simp only [eqD];exact ⟨RcAt.str_none _ _,EqAt.str_none _ _,RcNeAt.str_none _ _⟩
   | bl _=>rw [hy.bl] at ry;cases ry;simp only [eqD];exact ⟨RcAt.str_bool _ _ _,EqAt.str_bool _ _ _,RcNeAt.str_bool _ _ _⟩
   | int _=>rw [hy.int] at ry;obtain ⟨t2,rfl⟩:=ry;simp only [eqD];exact ⟨RcAt.str_int _ _ _ _,EqAt.str_int _ _ _ _,RcNeAt.str_int _ _ _ _⟩
   | str _=>rw [hy.str] at ry;obtain ⟨t2,rfl⟩:=ry;simp only [eqD];exact ⟨RcAt.str_str _ _ _ _,EqAt.str_str _ _ _ _,RcNeAt.str_str _ _ _ _⟩
   | tup ys=>obtain ⟨a2,vs2,e2,q2,d2⟩:=hy.tup;subst e2;cases ry;obtain ⟨its2,r2,p2,z2⟩:=I.tuple q2;simp only [eqD];exact ⟨RcAt.str_tuple _ _ p2 hu',EqAt.str_tuple _ _ p2 hu',RcNeAt.str_tuple _ _ p2 hu'⟩
   | lst ys fl =>
    cases fl with
    | true=>simp [okD] at oy
    | false =>
     obtain ⟨a2,vs2,e2,q2,d2⟩:=hy;subst e2;cases ry;obtain ⟨its2,r2,p2,z2⟩:=I.list q2;simp only [eqD];exact ⟨RcAt.str_list _ _ p2.isList hu',EqAt.str_list _ _ p2.isList hu',RcNeAt.str_list _ _ p2.isList hu'⟩
   | ty _=>simp [okD] at oy
  | tup xs =>
   obtain ⟨a1,vs1,e1,q1,d1⟩:=hx.tup;subst e1;cases rx;obtain ⟨its1,r1,p1,z1⟩:=I.tuple q1
   cases y with
   | non=>rw [hy.non] at ry;cases ry;simp only [eqD];exact ⟨RcAt.tuple_none p1 hu',EqAt.tuple_none p1 hu',RcNeAt.tuple_none p1 hu'⟩
   | bl _=>rw [hy.bl] at ry;cases ry;simp only [eqD];exact ⟨RcAt.tuple_bool _ p1 hu',EqAt.tuple_bool _ p1 hu',RcNeAt.tuple_bool _ p1 hu'⟩
   | int _=>rw [hy.int] at ry;obtain ⟨t2,rfl⟩:=ry;simp only [eqD];exact ⟨RcAt.tuple_int _ _ p1 hu',EqAt.tuple_int _ _ p1 hu',RcNeAt.tuple_int _ _ p1 hu'⟩
   | str _=>rw [hy.str] at ry;obtain ⟨t2,rfl⟩:=ry;simp only [eqD];exact ⟨RcAt.tuple_str _ _ p1 hu',EqAt.tuple_str _ _ p1 hu',RcNeAt.tuple_str _ _ p1 hu'⟩
   | tup ys =>
    obtain ⟨a2,vs2,e2,q2,d2⟩:=hy.tup;subst e2;cases ry;obtain ⟨its2,r2,p2,z2⟩:=I.tuple q2
    simp only [okD] at ox oy
    have l1:=r1.length
    have l2:=r2.length
    have m1:=d1.length
    have m2:=d2.length
    simp only [eqD]
    have rc:RcAt A s (.ref a1) (.ref a2) (Zad xs ys)∧RcNeAt A s (.ref a1) (.ref a2) (!Zad xs ys):=by
     have each:∀ j (h1:j<its1.toArray.size) (h2:j<its2.toArray.size),EqAt A.in1 s its1.toArray[j] its2.toArray[j] (eqD (xs.getD j .non) (ys.getD j .non)):=fun j h1 h2=>?_
     ·have key:=RcAt.tuples (A:=A) (s:=s) (e:=fun j=>eqD (xs.getD j .non) (ys.getD j .non)) p1 p2 hu' each
      have key2:=RcNeAt.tuples (A:=A) (s:=s) (e:=fun j=>eqD (xs.getD j .non) (ys.getD j .non)) p1 p2 hu' each
      have e:((List.range (min its1.toArray.size its2.toArray.size)).all (fun j=>eqD (xs.getD j .non) (ys.getD j .non))&&its1.toArray.size==its2.toArray.size)=Zad xs ys:=by
       rw [List.size_toArray,List.size_toArray]
       by_cases hl:xs.length=ys.length
       ·rw [Zgw hl,show its1.length=xs.length by omega,show its2.length=xs.length by omega,Nat.min_self];simp
       ·rw [Zgl hl,show (its1.length==its2.length)=false by simp;omega,Bool.and_false]
      rw [e] at key key2
      exact ⟨key,key2⟩
     ·have h1':j<xs.length:=by rw [List.size_toArray] at h1;omega
      have h2':j<ys.length:=by rw [List.size_toArray] at h2;omega
      have g1:=List.getElem?_eq_getElem h1'
      have g2:=List.getElem?_eq_getElem h2'
      obtain ⟨w1,hw1,dw1⟩:=d1.get g1
      obtain ⟨w2,hw2,dw2⟩:=d2.get g2
      obtain ⟨u1,hu1,ru1⟩:=r1.get hw1
      obtain ⟨u2,hu2,ru2⟩:=r2.get hw2
      rw [Zf3 h1 hu1,Zf3 h2 hu2,getD_some g1,getD_some g2]
      exact (ih A.in1 _ _ _ _ _ _ (by rw [Zcr];omega) (List.all_eq_true.mp ox _ (List.getElem_mem h1')) (List.all_eq_true.mp oy _ (List.getElem_mem h2')) dw1.p dw2.p ru1 ru2).2.1
    refine ⟨rc.1,?_,rc.2⟩
    by_cases ea:a1=a2
    ·subst ea
     have:=I.tuple_inj q1 q2
     subst this
     rw [ZcS I xs ys _ d1 d2,Zc0 n ys oy]
     exact EqAt.same _
    ·exact EqAt.of_refs ea rc.1
   | lst ys fl =>
    cases fl with
    | true=>simp [okD] at oy
    | false =>
     obtain ⟨a2,vs2,e2,q2,d2⟩:=hy;subst e2;cases ry;obtain ⟨its2,r2,p2,z2⟩:=I.list q2;simp only [eqD];exact ⟨RcAt.tuple_list p1 p2.isList hu',EqAt.tuple_list p1 p2.isList hu',RcNeAt.tuple_list p1 p2.isList hu'⟩
   | ty _=>simp [okD] at oy
  | lst xs fl =>
   cases fl with
   | true=>simp [okD] at ox
   | false =>
    obtain ⟨a1,vs1,e1,q1,d1⟩:=hx;subst e1;cases rx;obtain ⟨its1,r1,p1,z1⟩:=I.list q1
    cases y with
    | non=>rw [hy.non] at ry;cases ry;simp only [eqD];exact ⟨RcAt.list_none p1.isList hu',EqAt.list_none p1.isList hu',RcNeAt.list_none p1.isList hu'⟩
    | bl _=>rw [hy.bl] at ry;cases ry;simp only [eqD];exact ⟨RcAt.list_bool _ p1.isList hu',EqAt.list_bool _ p1.isList hu',RcNeAt.list_bool _ p1.isList hu'⟩
    | int _=>rw [hy.int] at ry;obtain ⟨t2,rfl⟩:=ry;simp only [eqD];exact ⟨RcAt.list_int _ _ p1.isList hu',EqAt.list_int _ _ p1.isList hu',RcNeAt.list_int _ _ p1.isList hu'⟩
    | str _=>rw [hy.str] at ry;obtain ⟨t2,rfl⟩:=ry;simp only [eqD];exact ⟨RcAt.list_str _ _ p1.isList hu',EqAt.list_str _ _ p1.isList hu',RcNeAt.list_str _ _ p1.isList hu'⟩
    | tup ys=>obtain ⟨a2,vs2,e2,q2,d2⟩:=hy.tup;subst e2;cases ry;obtain ⟨its2,r2,p2,z2⟩:=I.tuple q2;simp only [eqD];exact ⟨RcAt.list_tuple p1.isList p2 hu',EqAt.list_tuple p1.isList p2 hu',RcNeAt.list_tuple p1.isList p2 hu'⟩
    | lst ys fl =>
     cases fl with
     | true=>simp [okD] at oy
     | false =>
      obtain ⟨a2,vs2,e2,q2,d2⟩:=hy;subst e2;cases ry;obtain ⟨its2,r2,p2,z2⟩:=I.list q2
      simp only [okD] at ox oy
      have l1:=r1.length
      have l2:=r2.length
      have m1:=d1.length
      have m2:=d2.length
      simp only [eqD]
      have rc:RcAt A s (.ref a1) (.ref a2) (Zad xs ys)∧RcNeAt A s (.ref a1) (.ref a2) (!Zad xs ys):=by
       by_cases hl:xs.length=ys.length
       ·have each:∀ j (h1:j<its1.toArray.size) (h2:j<its2.toArray.size),EqAt A.in1 s its1.toArray[j] its2.toArray[j] (eqD (xs.getD j .non) (ys.getD j .non)):=fun j h1 h2=>?_
        ·have key:=RcAt.lists (A:=A) (s:=s) (e:=fun j=>eqD (xs.getD j .non) (ys.getD j .non)) p1.isList p2.isList (by rw [List.size_toArray,List.size_toArray];omega) hu' each
         have key2:=RcNeAt.lists (A:=A) (s:=s) (e:=fun j=>eqD (xs.getD j .non) (ys.getD j .non)) p1.isList p2.isList (by rw [List.size_toArray,List.size_toArray];omega) hu' each
         have e:(List.range its1.toArray.size).all (fun j=>eqD (xs.getD j .non) (ys.getD j .non))=Zad xs ys:=by
          rw [List.size_toArray,Zgw hl,show its1.length=xs.length by omega]
         rw [e] at key key2
         exact ⟨key,key2⟩
        ·have h1':j<xs.length:=by rw [List.size_toArray] at h1;omega
         have h2':j<ys.length:=by rw [List.size_toArray] at h2;omega
         have g1:=List.getElem?_eq_getElem h1'
         have g2:=List.getElem?_eq_getElem h2'
         obtain ⟨w1,hw1,dw1⟩:=d1.get g1
         obtain ⟨w2,hw2,dw2⟩:=d2.get g2
         obtain ⟨u1,hu1,ru1⟩:=r1.get hw1
         obtain ⟨u2,hu2,ru2⟩:=r2.get hw2
         rw [Zf3 h1 hu1,Zf3 h2 hu2,getD_some g1,getD_some g2]
         exact (ih A.in1 _ _ _ _ _ _ (by rw [Zcr];omega) (List.all_eq_true.mp ox _ (List.getElem_mem h1')) (List.all_eq_true.mp oy _ (List.getElem_mem h2')) dw1.p dw2.p ru1 ru2).2.1
       ·rw [Zgl hl]
        have hne:(its1.toArray.size != its2.toArray.size)=true:=by rw [List.size_toArray,List.size_toArray];simp;omega
        exact ⟨RcAt.lists_lengths p1.isList p2.isList hne hu',RcNeAt.lists_lengths p1.isList p2.isList hne hu'⟩
      refine ⟨rc.1,?_,rc.2⟩
      by_cases ea:a1=a2
      ·subst ea
       have:=I.list_inj q1 q2
       subst this
       rw [ZcS I xs ys _ d1 d2,Zc0 n ys oy]
       exact EqAt.same _
      ·exact EqAt.of_refs ea rc.1
    | ty _=>simp [okD] at oy
  | ty _=>simp [okD] at ox
end
def Zaz:Nat:=12
@[simp] def eqO (x y:D):Option D:=if okD Zaz x&&okD Zaz y then some (.bl (eqD x y)) else none
@[simp] def neO (x y:D):Option D:=if okD Zaz x&&okD Zaz y then some (.bl (!eqD x y)) else none
def Zli (K:PySem.W.Frag) (neg:Bool):R2:=fun x y H Q=>∃ N d1 d2,DenP K N H d1 x∧DenP K N H d2 y∧okD Zaz d1=true∧okD Zaz d2=true∧Q (.bl (if neg then !eqD d1 d2 else eqD d1 d2)) H
section
variable {X:Cx} {K:PySem.W.Frag} {M:Fb} {H0:Hp} {a b:Expr} {f g:VE→Option D} {pos:Pos}
theorem ZlQ (hu:X.A.units+64<cLine):OpR X (compareOp .Eq) (Zli X.K false):=by
 intro pins s σ H x y v u Q I rx ry h
 obtain ⟨N,d1,d2,h1,h2,o1,o2,q⟩:=h
 exact (ZdM I Zaz X.A d1 d2 x y v u (by unfold Zaz;omega) o1 o2 h1 h2 rx ry).1 X.prog X.w X.xe _ ⟨.bl _,H,I,rfl,q⟩
theorem Zq4 (hu:X.A.units+64<cLine):OpR X (compareOp .NotEq) (Zli X.K true):=by
 intro pins s σ H x y v u Q I rx ry h
 obtain ⟨N,d1,d2,h1,h2,o1,o2,q⟩:=h
 exact (ZdM I Zaz X.A d1 d2 x y v u (by unfold Zaz;omega) o1 o2 h1 h2 rx ry).2.2 X.prog X.w X.xe _ ⟨.bl _,H,I,rfl,q⟩
theorem ZoD:R2D K (Zli K false) eqO:=by
 intro N H x y d1 d2 d Q nh h1 h2 e q
 unfold eqO at e
 split at e
 ·next ho=>rw [Bool.and_eq_true] at ho;cases e;exact ⟨N,d1,d2,h1,h2,ho.1,ho.2,q _ H (Same.refl H) Zc2⟩
 ·cases e
theorem ZsX:R2D K (Zli K true) neO:=by
 intro N H x y d1 d2 d Q nh h1 h2 e q
 unfold neO at e
 split at e
 ·next ho=>rw [Bool.and_eq_true] at ho;cases e;exact ⟨N,d1,d2,h1,h2,ho.1,ho.2,q _ H (Same.refl H) Zc2⟩
 ·cases e
def Zlo (x:D) (ys:List D):Bool:=ys.any fun y=>eqD y x
@[simp] def inD (neg:Bool) (x y:D):Option D:=match y with
  | .lst ys=>if okD Zaz x&&ys.all (okD Zaz) then some (.bl (if neg then !Zlo x ys else Zlo x ys)) else none
  | .tup ys=>if okD Zaz x&&ys.all (okD Zaz) then some (.bl (if neg then !Zlo x ys else Zlo x ys)) else none
  | .str z=>match x with
   | .str w=>some (.bl (if neg then !(!(Builtin.Str.occurrences z w 0 z.length 1).isEmpty) else !(Builtin.Str.occurrences z w 0 z.length 1).isEmpty))
   | _=>none
  | _=>none
open Classical in
@[simp] def Zb5 (lt:D→D→Option Bool):List D→List D→Option Bool
  | [],[]=>some false
  | [],_::_=>some true
  | _::_,[]=>some false
  | x::xs,y::ys=>if okD Zaz x&&okD Zaz y then (if eqD x y then Zb5 lt xs ys else lt x y) else none
@[simp] def ltN:Nat→D→D→Option Bool
  | _,.int i,.int j=>some (decide (i<j))
  | _,.str a,.str b=>some (decide (a.cps.toList<b.cps.toList))
  | n+1,.tup xs,.tup ys=>Zb5 (ltN n) xs ys
  | n+1,.lst xs false,.lst ys false=>Zb5 (ltN n) xs ys
  | _,_,_=>none
@[simp] def ltO (x y:D):Option D:=(ltN 6 x y).map D.bl
def Zrj (K:PySem.W.Frag):R2:=fun x y H Q=>∃ N d1 d2 b,DenP K N H d1 x∧DenP K N H d2 y∧ltN 6 d1 d2=some b∧Q (.bl b) H
theorem Zid {pins:List (Addr×Obj)} {σ:St} {H:Hp} {s:Shared} (I:Inv X pins σ H s) {N:Fb}:∀ (n:Nat) (A:Around) (x y:D) (vx vy:V) (u v:Value) (b:Bool),A.units+n+Zaz<cLine→ltN n x y=some b→DenP X.K N H x vx→DenP X.K N H y vy→RelV vx u→RelV vy v →
  ∀ (prog:Program) (wo:World) (E Q:Value→Shared→Prop),Q (.bool b) s→wpAny (model prog wo) A (richCompare .Lt u v) Q E s:=by
 intro n
 induction n with
 | zero =>
  intro A x y vx vy u v b hu h hx hy rx ry prog wo E Q q
  unfold ltN at h
  split at h
  ·cases h;rw [hx.int] at rx;rw [hy.int] at ry;obtain ⟨t,rfl⟩:=rx;obtain ⟨t',rfl⟩:=ry;exact HT.rcLt_int A s _ _ _ _ prog wo E Q q
  ·cases h;rw [hx.str] at rx;rw [hy.str] at ry;obtain ⟨t,rfl⟩:=rx;obtain ⟨t',rfl⟩:=ry;exact (PyProof.Rows.lt_str q:wpAny (model prog wo) A (compareOp .Lt _ _) Q E s)
  ·next h0=>cases h0
  ·next h0=>cases h0
  ·cases h
 | succ n ih =>
  intro A x y vx vy u v b hu h hx hy rx ry prog wo E Q q
  have lists:∀ (xs ys:List D) (vs1 vs2:List V) (us1 us2:List Value),Zb5 (ltN n) xs ys=some b→DenL X.K N H xs vs1→DenL X.K N H ys vs2→Vals vs1 us1→Vals vs2 us2→Zcg A.in1 s us1 us2 b:=by
   intro xs
   induction xs with
   | nil =>
    intro ys vs1 vs2 us1 us2 h d1 d2 r1 r2
    simp only [DenL] at d1;subst d1;cases r1
    cases ys with
    | nil=>simp only [DenL] at d2;subst d2;cases r2;cases h;exact .nn
    | cons y ys=>simp only [DenL] at d2;obtain ⟨w,t,e,_,_⟩:=d2;subst e;cases r2;cases h;exact .nc
   | cons x xs ihx =>
    intro ys vs1 vs2 us1 us2 h d1 d2 r1 r2
    simp only [DenL] at d1;obtain ⟨w1,t1,e1,dw1,dt1⟩:=d1;subst e1
    cases r1 with
    | cons rw1 rt1 =>
     cases ys with
     | nil=>simp only [DenL] at d2;subst d2;cases r2;cases h;exact .cn
     | cons y ys =>
      simp only [DenL] at d2;obtain ⟨w2,t2,e2,dw2,dt2⟩:=d2;subst e2
      cases r2 with
      | cons rw2 rt2 =>
       simp only [Zb5] at h
       split at h
       ·next ho =>
        rw [Bool.and_eq_true] at ho
        have he:=(ZdM I Zaz A.in1 x y _ _ _ _ (by rw [Zcr];omega) ho.1 ho.2 dw1.p dw2.p rw1 rw2).2.1
        split at h
        ·next e=>rw [e] at he;exact .eq he (ihx ys _ _ _ _ h dt1 dt2 rt1 rt2)
        ·next e =>
         rw [Bool.not_eq_true] at e
         rw [e] at he
         exact .ne he fun prog wo E Q q=>ih A.in1 x y _ _ _ _ b (by rw [Zcr];omega) h dw1.p dw2.p rw1 rw2 prog wo E Q q
       ·cases h
  unfold ltN at h
  split at h
  ·cases h;rw [hx.int] at rx;rw [hy.int] at ry;obtain ⟨t,rfl⟩:=rx;obtain ⟨t',rfl⟩:=ry;exact HT.rcLt_int A s _ _ _ _ prog wo E Q q
  ·cases h;rw [hx.str] at rx;rw [hy.str] at ry;obtain ⟨t,rfl⟩:=rx;obtain ⟨t',rfl⟩:=ry;exact (PyProof.Rows.lt_str q:wpAny (model prog wo) A (compareOp .Lt _ _) Q E s)
  ·next m xs ys e0 =>
   cases e0
   obtain ⟨a1,vs1,e1,q1,d1⟩:=hx.tup
   obtain ⟨a2,vs2,e2,q2,d2⟩:=hy.tup
   subst e1 e2
   cases rx
   cases ry
   obtain ⟨its1,r1,p1,_⟩:=I.tuple q1
   obtain ⟨its2,r2,p2,_⟩:=I.tuple q2
   exact Zn7 p1 p2 (by simpa using lists xs ys _ _ _ _ h d1 d2 r1 r2) (by omega) q
  ·next m xs ys e0 =>
   cases e0
   obtain ⟨a1,vs1,e1,q1,d1⟩:=hx
   obtain ⟨a2,vs2,e2,q2,d2⟩:=hy
   subst e1 e2
   cases rx
   cases ry
   obtain ⟨its1,r1,⟨⟨cls,dd,data,sl⟩,n1,ho1,hc1,hdd1,hd1⟩,_⟩:=I.list q1
   obtain ⟨its2,r2,⟨⟨cls2,dd2,data2,sl2⟩,n2,ho2,hc2,hdd2,hd2⟩,_⟩:=I.list q2
   simp only at hc1 hd1 hc2 hd2
   subst hc1 hd1 hc2 hd2
   exact Znm ho1 ho2 (by simpa using lists xs ys _ _ _ _ h d1 d2 r1 r2) (by omega) q
  ·cases h
theorem Zrc (hu:X.A.units+64<cLine):OpR X (compareOp .Lt) (Zrj X.K):=by
 intro pins s σ H x y v u Q I rx ry h
 obtain ⟨N,d1,d2,b,h1,h2,hb,q⟩:=h
 have fin:EP X pins σ Q (.bool b) s:=⟨.bl b,H,I,rfl,q⟩
 exact Zid I 6 X.A d1 d2 x y v u b (by unfold Zaz;omega) hb h1 h2 rx ry X.prog X.w X.xe _ fin
theorem Zsr:R2D K (Zrj K) ltO:=by
 intro N H x y d1 d2 d Q nh h1 h2 e q
 unfold ltO at e
 cases hl:ltN 6 d1 d2 with
 | none=>rw [hl] at e;cases e
 | some b=>rw [hl] at e;cases e;exact ⟨N,d1,d2,b,h1,h2,hl,q _ H (Same.refl H) Zc2⟩
end
end L2
set_option Elab.async false
set_option linter.all false
set_option maxRecDepth 100000
namespace L2
open PySem PySem.Spec PyProof.Rows
section
variable {K:PySem.W.Frag} {N:Fb} {H:Hp}
theorem Paired.one' {α β:Type} {F:α→β→Prop} {x:α} {vs:List β} (h:Paired F [x] vs):∃ v,vs=[v]∧F x v:=by
 cases h with
 | cons r t=>cases t;exact ⟨_,rfl,r⟩
theorem Paired.two' {α β:Type} {F:α→β→Prop} {x y:α} {vs:List β} (h:Paired F [x,y] vs):∃ v w,vs=[v,w]∧F x v∧F y w:=by
 cases h with
 | cons r t =>
  obtain ⟨w,e,q⟩:=Paired.one' t
  subst e
  exact ⟨_,w,rfl,r,q⟩
@[simp] def Zba:List D→Option D
  | [.lst xs]=>some (.int xs.length)
  | [.tup xs]=>some (.int xs.length)
  | [.str x]=>if x.length≤sizeLine then some (.int x.length) else none
  | _=>none
theorem ZcY:RcD K (fun xs H Q=>∃ x n,xs=[x]∧ZrG K x H n∧Q (.int n) H) Zba:=by
 intro N H vs ds d Q nh h e q
 unfold Zba at e
 split at e
 ·cases e
  obtain ⟨v,rfl,hv⟩:=Paired.one' h
  obtain ⟨a,ws,e1,q1,r1⟩:=hv
  subst e1
  exact ⟨.ref a,_,rfl,.inl ⟨ws,q1,rfl⟩,by rw [← r1.length];exact q _ H (Same.refl H) ZaE⟩
 ·cases e
  obtain ⟨v,rfl,hv⟩:=Paired.one' h
  obtain ⟨a,ws,e1,q1,r1⟩:=hv.tup
  subst e1
  exact ⟨.ref a,_,rfl,.inr ⟨ws,q1,rfl⟩,by rw [← r1.length];exact q _ H (Same.refl H) ZaE⟩
 ·split at e
  ·next hz =>
   cases e
   obtain ⟨v,rfl,hv⟩:=Paired.one' h
   exact ⟨v,_,rfl,by rw [hv.str];exact ⟨hz,rfl⟩,q _ H (Same.refl H) ZaE⟩
  ·cases e
 ·cases e
@[simp] def ZjG:List D→Option (List D)
  | [.lst xs]=>some xs
  | [.tup xs]=>some xs
  | _=>none
theorem Zky:RcF K (fun xs H Q=>∃ p ys,xs=[.ref p]∧(SqL K H p ys∨SqT K H p ys)∧∀ l,H l=none→Q (.ref l) (upd H l (.lst ys))) ZjG:=by
 intro N H vs ds xs Q nh h e q
 unfold ZjG at e
 split at e
 ·cases e
  obtain ⟨v,rfl,hv⟩:=Paired.one' h
  obtain ⟨a,ws,e1,q1,r1⟩:=hv
  subst e1
  exact ⟨a,ws,rfl,.inl q1,fun l hl=>q ws l hl r1⟩
 ·cases e
  obtain ⟨v,rfl,hv⟩:=Paired.one' h
  obtain ⟨a,ws,e1,q1,r1⟩:=hv.tup
  subst e1
  exact ⟨a,ws,rfl,.inr q1,fun l hl=>q ws l hl r1⟩
 ·cases e
@[simp] def Zbp:List D→Option D
  | [.lst xs]=>some (.tup xs)
  | [.tup xs]=>some (.tup xs)
  | _=>none
theorem ZbQ:RcD K (fun xs H Q=>∃ p ys,xs=[.ref p]∧((SqL K H p ys∧∀ l,H l=none→Q (.ref l) (upd H l (.tup ys)))∨(SqT K H p ys∧Q (.ref p) H))) Zbp:=by
 intro N H vs ds d Q nh h e q
 unfold Zbp at e
 split at e
 ·cases e
  obtain ⟨v,rfl,hv⟩:=Paired.one' h
  obtain ⟨a,ws,e1,q1,r1⟩:=hv
  subst e1
  exact ⟨a,ws,rfl,.inl ⟨q1,fun l hl=>q _ _ (ZaH hl) (ZcJ hl r1)⟩⟩
 ·cases e
  obtain ⟨v,rfl,hv⟩:=Paired.one' h
  obtain ⟨a,ws,e1,q1,r1⟩:=hv.tup
  subst e1
  exact ⟨a,ws,rfl,.inr ⟨q1,q _ _ (Same.refl H) (by simp only [Den];exact ⟨a,ws,rfl,q1,r1⟩)⟩⟩
 ·cases e
def Zec:List D→Option (List Bool)
 | []=>some []
 | .bl b::r=>(Zec r).map (b::·)
 | _=>none
theorem Zgs:∀ {xs:List D} {bs:List Bool},Zec xs=some bs→xs=bs.map D.bl
 | [],_,e=>by cases e;rfl
 | .bl b::r,_,e=>by
  simp only [Zec] at e
  cases h:Zec r with
  | none=>rw [h] at e;cases e
  | some bs=>rw [h] at e;cases e;rw [Zgs h];rfl
 | .non::_,_,e=>nomatch e
 | .int _::_,_,e=>nomatch e
 | .str _::_,_,e=>nomatch e
 | .ty _::_,_,e=>nomatch e
 | .tup _::_,_,e=>nomatch e
 | .lst _ _::_,_,e=>nomatch e
theorem Zgg:∀ {bs:List Bool} {vs:List V},DenL K N H (bs.map D.bl) vs→vs=bs.map V.bl
 | [],_,h=>by simpa only [List.map_nil,DenL] using h
 | b::bs,_,h=>by
  simp only [List.map_cons,DenL,Den] at h
  obtain ⟨v,r,e,hv,t⟩:=h
  subst e hv
  rw [Zgg t];rfl
@[simp] def Zim:List D→Option D
  | [.lst xs]=>(Zec xs).map fun bs=>.bl (bs.all id)
  | _=>none
@[simp] def Zig:List D→Option D
  | [.lst xs]=>(Zec xs).map fun bs=>.bl (bs.any id)
  | _=>none
theorem Zqh:RcD K (fun xs H Q=>∃ (a:Addr) (bs:List Bool),xs=[.ref a]∧SqL K H a (bs.map V.bl)∧Q (.bl (bs.all id)) H) Zim:=by
 intro N H vs ds d Q nh h e q
 unfold Zim at e
 split at e
 ·next xs =>
  cases hb:Zec xs with
  | none=>rw [hb] at e;cases e
  | some bs =>
   rw [hb] at e;cases e
   obtain ⟨v,rfl,hv⟩:=Paired.one' h
   obtain ⟨a,ws,e1,q1,r1⟩:=hv
   subst e1
   rw [Zgs hb] at r1
   rw [Zgg r1] at q1
   exact ⟨a,bs,rfl,q1,q _ H (Same.refl H) Zc2⟩
 ·cases e
theorem Zrk:RcD K (fun xs H Q=>∃ (a:Addr) (bs:List Bool),xs=[.ref a]∧SqL K H a (bs.map V.bl)∧Q (.bl (bs.any id)) H) Zig:=by
 intro N H vs ds d Q nh h e q
 unfold Zig at e
 split at e
 ·next xs =>
  cases hb:Zec xs with
  | none=>rw [hb] at e;cases e
  | some bs =>
   rw [hb] at e;cases e
   obtain ⟨v,rfl,hv⟩:=Paired.one' h
   obtain ⟨a,ws,e1,q1,r1⟩:=hv
   subst e1
   rw [Zgs hb] at r1
   rw [Zgg r1] at q1
   exact ⟨a,bs,rfl,q1,q _ H (Same.refl H) Zc2⟩
 ·cases e
@[simp] def Zlp:List D→Option D
  | [.int i,.int j]=>some (.int (if j > i then j else i))
  | _=>none
@[simp] def Zlf:List D→Option D
  | [.int i,.int j]=>some (.int (if j<i then j else i))
  | _=>none
theorem Zo9:RcD K (fun xs H Q=>∃ i j,xs=[.int i,.int j]∧Q (.int (if j > i then j else i)) H) Zlp:=by
 intro N H vs ds d Q nh h e q
 unfold Zlp at e
 split at e
 ·cases e
  obtain ⟨v,w,rfl,hv,hw⟩:=Paired.two' h
  exact ⟨_,_,by rw [hv.int,hw.int],q _ H (Same.refl H) ZaE⟩
 ·cases e
theorem ZoX:RcD K (fun xs H Q=>∃ i j,xs=[.int i,.int j]∧Q (.int (if j<i then j else i)) H) Zlf:=by
 intro N H vs ds d Q nh h e q
 unfold Zlf at e
 split at e
 ·cases e
  obtain ⟨v,w,rfl,hv,hw⟩:=Paired.two' h
  exact ⟨_,_,by rw [hv.int,hw.int],q _ H (Same.refl H) ZaE⟩
 ·cases e
@[simp] def Zu0:List D→Option D
  | [.int i]=>some (.int (if i<0 then -i else i))
  | _=>none
@[simp] def Zg4:List D→Option D
  | [.int i]=>if i.natAbs.log2<1920 then some (.str (toString i)) else none
  | _=>none
theorem Zpr:RcD K (fun xs H Q=>∃ i,xs=[.int i]∧i.natAbs.log2<1920∧Q (.str (toString i)) H) Zg4:=by
 intro N H vs ds d Q nh h e q
 unfold Zg4 at e
 split at e
 ·split at e
  ·next hz =>
   cases e
   obtain ⟨v,rfl,hv⟩:=Paired.one' h
   exact ⟨_,by rw [hv.int],hz,q _ H (Same.refl H) Zeq⟩
  ·cases e
 ·cases e
@[simp] def Zlk:List D→Option D
  | [.int i]=>some (.int i)
  | [.bl k]=>some (.int (if k then 1 else 0))
  | _=>none
theorem Zqd:RcD K (fun xs H Q=>(∃ i,xs=[.int i]∧Q (.int i) H)∨∃ k,xs=[.bl k]∧Q (.int (if k then 1 else 0)) H) Zlk:=by
 intro N H vs ds d Q nh h e q
 unfold Zlk at e
 split at e
 ·cases e
  obtain ⟨v,rfl,hv⟩:=Paired.one' h
  exact .inl ⟨_,by rw [hv.int],q _ H (Same.refl H) ZaE⟩
 ·cases e
  obtain ⟨v,rfl,hv⟩:=Paired.one' h
  exact .inr ⟨_,by rw [hv.bl],q _ H (Same.refl H) ZaE⟩
 ·cases e
def Zb7:List D→Option (List Int)
 | []=>some []
 | .int b::r=>(Zb7 r).map (b::·)
 | _=>none
theorem Zdw:∀ {xs:List D} {bs:List Int},Zb7 xs=some bs→xs=bs.map D.int
 | [],_,e=>by cases e;rfl
 | .int b::r,_,e=>by
  simp only [Zb7] at e
  cases h:Zb7 r with
  | none=>rw [h] at e;cases e
  | some bs=>rw [h] at e;cases e;rw [Zdw h];rfl
 | .non::_,_,e=>nomatch e
 | .bl _::_,_,e=>nomatch e
 | .str _::_,_,e=>nomatch e
 | .ty _::_,_,e=>nomatch e
 | .tup _::_,_,e=>nomatch e
 | .lst _ _::_,_,e=>nomatch e
theorem ZfP:∀ (ns:List Int),Zb7 (ns.map D.int)=some ns
 | []=>rfl
 | n::ns=>by simp only [List.map_cons,Zb7,ZfP ns];rfl
theorem ZcX:∀ {bs:List Int} {vs:List V},DenL K N H (bs.map D.int) vs→vs=bs.map V.int
 | [],_,h=>by simpa only [List.map_nil,DenL] using h
 | b::bs,_,h=>by
  simp only [List.map_cons,DenL,Den] at h
  obtain ⟨v,r,e,hv,t⟩:=h
  subst e hv
  rw [ZcX t];rfl
end
section
variable {X:Cx}
theorem Zht (hc:X.calm=true):CallR X (.builtin "sum") (fun xs H Q=>∃ (a:Addr) (ns:List Int),xs=[.ref a]∧SqL X.K H a (ns.map V.int)∧Q (.int ns.sum) H):=by
 intro pins s σ H xs us Q I r h
 obtain ⟨a,ns,rfl,hs,q⟩:=h
 obtain ⟨u,rfl,rx⟩:=ZaK r
 cases rx
 obtain ⟨its,rv,p,hz⟩:=I.list hs
 have hi:IntsAre its ns:=Zdf rv
 obtain ⟨ys,hy⟩:=hi.allInts.items
 have hl':s.heap.IsList a (intItems ys):=hy ▸ p.isList
 refine sum_intListG (I.ok.hd hc) hl' fun h' tk t' hk=>?_
 have e1:ns=ys.toList.map (·.1):=by
  rw [← nums_intItems,← hy]
  exact (show numsOf its.toArray.toList=ns from hi.numsOf).symm
 have e2:preSum (numAt ys) ys.size=ns.sum:=by
  rw [preSum_eq,List.take_of_length_le (by simp),e1]
 rw [e2]
 exact ⟨.int ns.sum,H,I.kept (t':=tk) hk,⟨_,rfl⟩,q⟩
theorem Zmf (hc:X.calm=true):CallR X (.builtin "min") (fun xs H Q=>∃ (a:Addr) (ns:List Int),xs=[.ref a]∧SqL X.K H a (ns.map V.int)∧0<ns.length∧∀ m,m∈ns→(∀ a,a∈ns→m≤a)→Q (.int m) H):=by
 intro pins s σ H xs us Q I r h
 obtain ⟨a,ns,rfl,hs,hne,q⟩:=h
 obtain ⟨u,rfl,rx⟩:=ZaK r
 cases rx
 obtain ⟨its,rv,p,hz⟩:=I.list hs
 have hi:IntsAre its ns:=Zdf rv
 obtain ⟨ys,e⟩:=hi.allInts.items
 have hns:ns=ys.toList.map (·.1):=by rw [← hi.numsOf,← nums_intItems,← e]
 have hsz:0<ys.size:=by
  have h3:=hne;rw [hns,List.length_map,Array.length_toList] at h3;exact h3
 have hl:s.heap.IsList a (intItems ys):=e ▸ p.isList
 refine min_intList (I.ok.hd hc) hl hsz fun v h' tk hv hk=>?_
 obtain ⟨t,rfl⟩:=intItems_at hv
 obtain ⟨h1,h2⟩:=argBest_lt (numAt ys) (ys.size-1)
 refine ⟨.int _,H,I.kept (t':=tk) hk,⟨t,rfl⟩,q _ ?_ fun b hb=>?_⟩
 ·rw [hns,numAt_eq];exact getD_mem (by rw [List.length_map,Array.length_toList];omega)
 ·rw [hns] at hb
  obtain ⟨j,hj,rfl⟩:=mem_getD hb
  rw [List.length_map,Array.length_toList] at hj
  rw [← numAt_eq];exact h2 j (by omega)
theorem Zl9 (hc:X.calm=true):CallR X (.builtin "max") (fun xs H Q=>∃ (a:Addr) (ns:List Int),xs=[.ref a]∧SqL X.K H a (ns.map V.int)∧0<ns.length∧∀ m,m∈ns→(∀ a,a∈ns→a≤m)→Q (.int m) H):=by
 intro pins s σ H xs us Q I r h
 obtain ⟨a,ns,rfl,hs,hne,q⟩:=h
 obtain ⟨u,rfl,rx⟩:=ZaK r
 cases rx
 obtain ⟨its,rv,p,hz⟩:=I.list hs
 have hi:IntsAre its ns:=Zdf rv
 obtain ⟨ys,e⟩:=hi.allInts.items
 have hns:ns=ys.toList.map (·.1):=by rw [← hi.numsOf,← nums_intItems,← e]
 have hsz:0<ys.size:=by
  have h3:=hne;rw [hns,List.length_map,Array.length_toList] at h3;exact h3
 have hl:s.heap.IsList a (intItems ys):=e ▸ p.isList
 refine max_intList (I.ok.hd hc) hl hsz fun v h' tk hv hk=>?_
 obtain ⟨t,rfl⟩:=intItems_at hv
 obtain ⟨h1,h2⟩:=argBest_gt (numAt ys) (ys.size-1)
 refine ⟨.int _,H,I.kept (t':=tk) hk,⟨t,rfl⟩,q _ ?_ fun b hb=>?_⟩
 ·rw [hns,numAt_eq];exact getD_mem (by rw [List.length_map,Array.length_toList];omega)
 ·rw [hns] at hb
  obtain ⟨j,hj,rfl⟩:=mem_getD hb
  rw [List.length_map,Array.length_toList] at hj
  rw [← numAt_eq];exact h2 j (by omega)
end
def Zlu:List Int→Option Int
 | []=>none
 | x::xs=>some (xs.foldl (fun m y=>if y<m then y else m) x)
def Zk2:List Int→Option Int
 | []=>none
 | x::xs=>some (xs.foldl (fun m y=>if y > m then y else m) x)
theorem ZiR:∀ (xs:List Int) (x:Int),(xs.foldl (fun m y=>if y<m then y else m) x)∈x::xs∧∀ a∈x::xs,(xs.foldl (fun m y=>if y<m then y else m) x)≤a
 | [],x=>by simp
 | y::ys,x=>by
  simp only [List.foldl_cons]
  obtain ⟨h1,h2⟩:=ZiR ys (if y<x then y else x)
  have hle:=h2 _ List.mem_cons_self
  have k1:(if y<x then y else x)≤x:=by split<;>omega
  have k2:(if y<x then y else x)≤y:=by split<;>omega
  refine ⟨?_,fun a ha=>?_⟩
  ·rcases List.mem_cons.mp h1 with h | h
   ·rw [h];split<;>simp
   ·exact List.mem_cons_of_mem _ (List.mem_cons_of_mem _ h)
  ·rcases List.mem_cons.mp ha with rfl | ha
   ·exact Int.le_trans hle k1
   ·rcases List.mem_cons.mp ha with rfl | ha
    ·exact Int.le_trans hle k2
    ·exact h2 a (List.mem_cons_of_mem _ ha)
theorem Zjs:∀ (xs:List Int) (x:Int),(xs.foldl (fun m y=>if y > m then y else m) x)∈x::xs∧∀ a∈x::xs,a≤(xs.foldl (fun m y=>if y > m then y else m) x)
 | [],x=>by simp
 | y::ys,x=>by
  simp only [List.foldl_cons]
  obtain ⟨h1,h2⟩:=Zjs ys (if y > x then y else x)
  have hle:=h2 _ List.mem_cons_self
  have k1:x≤(if y > x then y else x):=by split<;>omega
  have k2:y≤(if y > x then y else x):=by split<;>omega
  refine ⟨?_,fun a ha=>?_⟩
  ·rcases List.mem_cons.mp h1 with h | h
   ·rw [h];split<;>simp
   ·exact List.mem_cons_of_mem _ (List.mem_cons_of_mem _ h)
  ·rcases List.mem_cons.mp ha with rfl | ha
   ·exact Int.le_trans k1 hle
   ·rcases List.mem_cons.mp ha with rfl | ha
    ·exact Int.le_trans k2 hle
    ·exact h2 a (List.mem_cons_of_mem _ ha)
theorem Zmg {ns:List Int} {m k:Int} (h:Zlu ns=some k) (h1:m∈ns) (h2:∀ a,a∈ns→m≤a):m=k:=by
 cases ns with
 | nil=>cases h
 | cons x xs =>
  cases h
  obtain ⟨q1,q2⟩:=ZiR xs x
  have:=h2 _ q1
  have:=q2 _ h1
  omega
theorem Zmd {ns:List Int} {m k:Int} (h:Zk2 ns=some k) (h1:m∈ns) (h2:∀ a,a∈ns→a≤m):m=k:=by
 cases ns with
 | nil=>cases h
 | cons x xs =>
  cases h
  obtain ⟨q1,q2⟩:=Zjs xs x
  have:=h2 _ q1
  have:=q2 _ h1
  omega
section
variable {K:PySem.W.Frag}
@[simp] def ZlC:List D→Option D
  | [.lst xs]=>(Zb7 xs).map fun ns=>.int ns.sum
  | _=>none
@[simp] def Zln:List D→Option D
  | [.lst xs]=>((Zb7 xs).bind Zlu).map D.int
  | _=>none
@[simp] def ZlO:List D→Option D
  | [.lst xs]=>((Zb7 xs).bind Zk2).map D.int
  | _=>none
theorem ZlY:RcD K (fun xs H Q=>∃ (a:Addr) (ns:List Int),xs=[.ref a]∧SqL K H a (ns.map V.int)∧Q (.int ns.sum) H) ZlC:=by
 intro N H vs ds d Q nh h e q
 unfold ZlC at e
 split at e
 ·next xs =>
  cases hb:Zb7 xs with
  | none=>rw [hb] at e;cases e
  | some bs =>
   rw [hb] at e;cases e
   obtain ⟨v,rfl,hv⟩:=Paired.one' h
   obtain ⟨a,ws,e1,q1,r1⟩:=hv
   subst e1
   rw [Zdw hb] at r1
   rw [ZcX r1] at q1
   exact ⟨a,bs,rfl,q1,q _ H (Same.refl H) ZaE⟩
 ·cases e
theorem ZpF:RcD K (fun xs H Q=>∃ (a:Addr) (ns:List Int),xs=[.ref a]∧SqL K H a (ns.map V.int)∧0<ns.length∧∀ m,m∈ns→(∀ a,a∈ns→m≤a)→Q (.int m) H) Zln:=by
 intro N H vs ds d Q nh h e q
 unfold Zln at e
 split at e
 ·next xs =>
  cases hb:Zb7 xs with
  | none=>rw [hb] at e;cases e
  | some bs =>
   rw [hb] at e
   simp only [Option.bind] at e
   cases hm:Zlu bs with
   | none=>rw [hm] at e;cases e
   | some k =>
    rw [hm] at e;cases e
    obtain ⟨v,rfl,hv⟩:=Paired.one' h
    obtain ⟨a,ws,e1,q1,r1⟩:=hv
    subst e1
    rw [Zdw hb] at r1
    rw [ZcX r1] at q1
    refine ⟨a,bs,rfl,q1,?_,fun m h1 h2=>?_⟩
    ·cases bs with
     | nil=>cases hm
     | cons=>simp
    ·rw [Zmg hm h1 h2];exact q _ H (Same.refl H) ZaE
 ·cases e
theorem Zp3:RcD K (fun xs H Q=>∃ (a:Addr) (ns:List Int),xs=[.ref a]∧SqL K H a (ns.map V.int)∧0<ns.length∧∀ m,m∈ns→(∀ a,a∈ns→a≤m)→Q (.int m) H) ZlO:=by
 intro N H vs ds d Q nh h e q
 unfold ZlO at e
 split at e
 ·next xs =>
  cases hb:Zb7 xs with
  | none=>rw [hb] at e;cases e
  | some bs =>
   rw [hb] at e
   simp only [Option.bind] at e
   cases hm:Zk2 bs with
   | none=>rw [hm] at e;cases e
   | some k =>
    rw [hm] at e;cases e
    obtain ⟨v,rfl,hv⟩:=Paired.one' h
    obtain ⟨a,ws,e1,q1,r1⟩:=hv
    subst e1
    rw [Zdw hb] at r1
    rw [ZcX r1] at q1
    refine ⟨a,bs,rfl,q1,?_,fun m h1 h2=>?_⟩
    ·cases bs with
     | nil=>cases hm
     | cons=>simp
    ·rw [Zmd hm h1 h2];exact q _ H (Same.refl H) ZaE
 ·cases e
@[simp] def tyD:D→Option String
  | .non=>some "NoneType"
  | .bl _=>some "bool"
  | .int _=>some "int"
  | .str _=>some "str"
  | .tup _=>some "tuple"
  | .lst _=>some "list"
  | .lst _ true=>none
  | .ty _=>none
def Zhe (t n:String):Bool:=t==n||(t=="bool"&&n=="int")
end
def Zbk:List String:=["NoneType","bool","int","str","tuple","list"]
theorem Zkr (K:PySem.W.Frag):∀ t∈Zbk,∀ n∈Zbk,PySem.W.kitOne K (.type t) (.type n)=some (Zhe t n):=by
 intro t ht n hn
 simp only [Zbk,List.mem_cons,List.not_mem_nil,or_false] at ht hn
 rcases ht with rfl | rfl | rfl | rfl | rfl | rfl<;>rcases hn with rfl | rfl | rfl | rfl | rfl | rfl<;>with_unfolding_all rfl
theorem ZkG (K:PySem.W.Frag) {t:String} (ht:t∈Zbk):∀ (ns:List String),(∀ n∈ns,n∈Zbk)→PySem.W.kitAny K (.type t) (ns.map Value.type)=some (ns.any fun n=>Zhe t n)
 | [],_=>rfl
 | n::ns,h=>by
  have h1:=Zkr K t ht n (h n List.mem_cons_self)
  have h2:=ZkG K ht ns fun m hm=>h m (List.mem_cons_of_mem _ hm)
  simp only [List.map_cons,PySem.W.kitAny,h1,h2,List.any_cons]
  cases Zhe t n<;>rfl
theorem Zkp {d:D} {t:String} (h:tyD d=some t):t∈Zbk:=by
 cases d with
 | lst xs fl=>cases fl<;>simp [tyD] at h;subst h;simp [Zbk]
 | _=>simp [tyD] at h<;>subst h<;>simp [Zbk]
section
variable {X:Cx} {K:PySem.W.Frag}
theorem ZrK {pins:List (Addr×Obj)} {σ:St} {H:Hp} {s:Shared} (I:Inv X pins σ H s) {N:Fb} {d:D} {x:V} {u:Value} {t:String} (hx:DenP X.K N H d x) (rx:RelV x u) (ht:tyD d=some t) :
  ∃ HP:Heap→Prop,PySem.W.KitX X.K u (.type t) HP∧HP s.heap∧u≠.builtin "__main__.__loader__#opaque":=by
 cases d with
 | non=>cases ht;rw [hx.non] at rx;cases rx;exact ⟨_,PySem.W.kitx_none,trivial,fun z=>nomatch z⟩
 | bl b=>cases ht;rw [hx.bl] at rx;cases rx;exact ⟨_,PySem.W.kitx_bool,trivial,fun z=>nomatch z⟩
 | int b=>cases ht;rw [hx.int] at rx;obtain ⟨t,rfl⟩:=rx;exact ⟨_,PySem.W.kitx_int,trivial,fun z=>nomatch z⟩
 | str b=>cases ht;rw [hx.str] at rx;obtain ⟨t,rfl⟩:=rx;exact ⟨_,PySem.W.kitx_str,trivial,fun z=>nomatch z⟩
 | ty n=>cases ht
 | tup xs =>
  cases ht
  obtain ⟨a,vs,e,q,r⟩:=hx.tup
  subst e;cases rx
  obtain ⟨its,_,⟨o,h1,h2,_⟩,_⟩:=I.tuple q
  exact ⟨_,PySem.W.kitx_tuple,⟨o,h1,h2⟩,fun z=>nomatch z⟩
 | lst xs fl =>
  cases fl with
  | true=>cases ht
  | false =>
  cases ht
  obtain ⟨a,vs,e,q,r⟩:=hx
  subst e;cases rx
  obtain ⟨its,_,⟨o,n,h1,h2,_⟩,_⟩:=I.list q
  exact ⟨_,PySem.W.kitx_list,⟨o,h1,h2⟩,fun z=>nomatch z⟩
@[simp] def tysOf:D→Option (List String)
  | .ty n=>some [n]
  | .tup xs=>tysL xs
  | _=>none
where tysL:List D→Option (List String)
 | []=>some []
 | .ty n::r=>(tysL r).map (n::·)
 | _=>none
theorem ZiM:∀ {xs:List D} {ns:List String},tysOf.tysL xs=some ns→xs=ns.map D.ty
 | [],_,e=>by cases e;rfl
 | .ty b::r,_,e=>by
  simp only [tysOf.tysL] at e
  cases h:tysOf.tysL r with
  | none=>rw [h] at e;cases e
  | some bs=>rw [h] at e;cases e;rw [ZiM h];rfl
 | .non::_,_,e=>nomatch e
 | .bl _::_,_,e=>nomatch e
 | .int _::_,_,e=>nomatch e
 | .str _::_,_,e=>nomatch e
 | .tup _::_,_,e=>nomatch e
 | .lst _ _::_,_,e=>nomatch e
@[simp] def isD:List D→Option D
  | [x,c]=>(tysOf c).bind fun ns=>if (∀ n∈ns,n∈Zbk) then (tyD x).map fun t=>.bl (ns.any fun n=>Zhe t n) else none
  | _=>none
def Zr8 (K:PySem.W.Frag):List V→Hp→VK→Prop:=fun vs H Q=>∃ N d c x y ns t,vs=[x,y]∧DenP K N H d x∧DenP K N H c y∧tysOf c=some ns∧(∀ n∈ns,n∈Zbk)∧tyD d=some t∧Q (.bl (ns.any fun n=>Zhe t n)) H
theorem Zjq {N:Fb} {H:Hp}:∀ {ns:List String} {vs:List V},DenL K N H (ns.map D.ty) vs→vs=ns.map V.ty
 | [],_,h=>by simpa only [List.map_nil,DenL] using h
 | b::bs,_,h=>by
  simp only [List.map_cons,DenL,Den] at h
  obtain ⟨v,r,e,hv,t⟩:=h
  subst e hv
  rw [Zjq t];rfl
theorem Zjt:∀ {ns:List String} {us:List Value},Vals (ns.map V.ty) us→us=ns.map Value.type
 | [],_,r=>by cases r;rfl
 | n::ns,_,r=>by
  cases r with
  | cons r1 r2=>cases r1;rw [Zjt r2];rfl
theorem Zbu:CallR X (.builtin "isinstance") (Zr8 X.K):=by
 intro pins s σ H xs us Q I r h
 obtain ⟨N,d,c,x,y,ns,t,rfl,hx,hy,hns,hin,ht,q⟩:=h
 obtain ⟨u,w',rfl,rx,ry⟩:=Zh7 r
 obtain ⟨HP,Z,p,hne⟩:=ZrK I hx rx ht
 cases c with
 | ty n =>
  cases hns
  rw [hy.ty] at ry;cases ry
  refine PySem.W.kia_one Z I.kIn p (Zkr X.K t (Zkp ht) n (hin n (by simp))) hne fun tk=>⟨.bl _,H,I.tok tk,rfl,?_⟩
  simpa using q
 | tup xs =>
  have e:=ZiM hns
  subst e
  obtain ⟨a,vs,e,sq,dl⟩:=hy.tup
  subst e;cases ry
  obtain ⟨its,rv,⟨⟨cls,dd,data,sl⟩,h1,h2,n,h3⟩,_⟩:=I.tuple sq
  simp only at h2 h3
  subst h2 h3
  have e2:=Zjq dl
  subst e2
  have e3:=Zjt rv
  subst e3
  exact PySem.W.kia_tup Z I.kIn p h1 (ZkG X.K (Zkp ht) ns hin) hne fun tk=>⟨.bl _,H,I.tok tk,rfl,q⟩
 | non=>cases hns
 | bl _=>cases hns
 | int _=>cases hns
 | str _=>cases hns
 | lst _=>cases hns
theorem Zdm:RcD K (Zr8 K) isD:=by
 intro N H vs ds d Q nh h e q
 unfold isD at e
 split at e
 ·next x c =>
  cases hc:tysOf c with
  | none=>rw [hc] at e;cases e
  | some ns =>
   rw [hc] at e
   simp only [Option.bind] at e
   split at e
   ·next hin =>
    cases ht:tyD x with
    | none=>rw [ht] at e;cases e
    | some t =>
     rw [ht] at e;cases e
     obtain ⟨v,w,rfl,hv,hw⟩:=Paired.two' h
     exact ⟨N,x,c,v,w,ns,t,rfl,hv,hw,hc,hin,ht,q _ H (Same.refl H) Zc2⟩
   ·cases e
 ·cases e
theorem Zqt {M:Fb} {H0:Hp} {x:Str} {n:String} {pos:Pos} (hg:Gl X x) (hm:X.mg x=none) (hv:bootBuiltins x=some (.type n)) (hn:x≠"__name__":=by decide) (hd:(x==("__debug__":Str))=false:=by decide):PE X (.Name x pos) (tD K M H0 fun _=>some (.ty n)) :=
 Zjg (Zp4 hg hm hv (v:=.ty n) rfl hn hd) fun _ _=>by simp only [Den]
theorem Zbv {M:Fb} {H0:Hp} {x:Str} {n:String} {pos:Pos} (hg:Gl X x) (hm:X.mg x=none) (hv:bootBuiltins x=some (.type n)) (hn:x≠"__name__":=by decide) (hd:(x==("__debug__":Str))=false:=by decide):JE X (.Name x pos) (tD K M H0 fun _=>some (.ty n)):=⟨Zqt hg hm hv hn hd⟩
end
end L2
set_option Elab.async false
set_option linter.all false
set_option maxRecDepth 100000
namespace L2
open PySem PySem.Spec PyProof.Rows
section
variable {X:Cx} {K:PySem.W.Frag} {M:Fb} {H0:Hp} {a b c e tg iter:Expr} {es:List Expr} {f g h:VE→Option D} {fa:VE→Option (List Sl)} {pos:Pos}
theorem vv (i:Nat) {x:Str} (hN:X.N[i]?=some x:=by rfl) (hv:Vis X.env.scope x:=by first | exact Or.inl rfl | exact Or.inr (Or.inl rfl) | exact Or.inr (Or.inr rfl)) (hd:(x==("__debug__":Str))=false:=by decide) (hcd:(x==("__classdict__":Str))=false:=by decide) :
  PE X (.Name x pos) (tD K M H0 fun ρ=>rdV ρ i):=ZrI hN hv hd hcd
theorem Zbr (i:Nat) {x:Str} (hN:X.N[i]?=some x:=by rfl) (hv:Vis X.env.scope x:=by first | exact Or.inl rfl | exact Or.inr (Or.inl rfl) | exact Or.inr (Or.inr rfl)) (hd:(x==("__debug__":Str))=false:=by decide) (hcd:(x==("__classdict__":Str))=false:=by decide):JE X (.Name x pos) (tD K M H0 fun ρ=>rdV ρ i):=⟨vv i hN hv hd hcd⟩
theorem vp (i:Nat) {x:Str} (hN:X.N[i]?=some x:=by rfl) (hv:Vis X.env.scope x:=by first | exact Or.inl rfl | exact Or.inr (Or.inl rfl) | exact Or.inr (Or.inr rfl)) (hd:(x==("__debug__":Str))=false:=by decide) (hcd:(x==("__classdict__":Str))=false:=by decide) :
  PE X (.Name x pos) (tP K M H0 fun ρ=>rdP ρ i):=ZqB hN hv hd hcd
theorem Zl (i:Nat) {x:Str} (hN:X.N[i]?=some x:=by rfl) (hv:Vis X.env.scope x:=by first | exact Or.inl rfl | exact Or.inr (Or.inl rfl) | exact Or.inr (Or.inr rfl)) (hd:(x==("__debug__":Str))=false:=by decide) (hcd:(x==("__classdict__":Str))=false:=by decide):JE X (.Name x pos) (tP K M H0 fun ρ=>rdP ρ i):=⟨vp i hN hv hd hcd⟩
theorem vq (i:Nat) {x:Str} (hN:X.N[i]?=some x:=by rfl) (hv:Vis X.env.scope x:=by first | exact Or.inl rfl | exact Or.inr (Or.inl rfl) | exact Or.inr (Or.inr rfl)) (hd:(x==("__debug__":Str))=false:=by decide) (hcd:(x==("__classdict__":Str))=false:=by decide) :
  PE X (.Name x pos) (tQ K M H0 fun ρ=>rdQ ρ i):=Zrb hN hv hd hcd
theorem ZaT (i:Nat) {x:Str} (hN:X.N[i]?=some x:=by rfl) (hv:Vis X.env.scope x:=by first | exact Or.inl rfl | exact Or.inr (Or.inl rfl) | exact Or.inr (Or.inr rfl)) (hd:(x==("__debug__":Str))=false:=by decide) (hcd:(x==("__classdict__":Str))=false:=by decide):JE X (.Name x pos) (tQ K M H0 fun ρ=>rdQ ρ i):=⟨vq i hN hv hd hcd⟩
theorem va (i:Nat) {x:Str} (hN:X.N[i]?=some x:=by rfl) (hv:Vis X.env.scope x:=by first | exact Or.inl rfl | exact Or.inr (Or.inl rfl) | exact Or.inr (Or.inr rfl)) (hd:(x==("__debug__":Str))=false:=by decide) (hcd:(x==("__classdict__":Str))=false:=by decide) :
  PE X (.Name x pos) (tS1 K M H0 fun ρ=>rdA ρ i):=Zru hN hv hd hcd
theorem Zt (i:Nat) {x:Str} (hN:X.N[i]?=some x:=by rfl) (hv:Vis X.env.scope x:=by first | exact Or.inl rfl | exact Or.inr (Or.inl rfl) | exact Or.inr (Or.inr rfl)) (hd:(x==("__debug__":Str))=false:=by decide) (hcd:(x==("__classdict__":Str))=false:=by decide):JE X (.Name x pos) (tS1 K M H0 fun ρ=>rdA ρ i):=⟨va i hN hv hd hcd⟩
theorem ZtH (i:Nat) {x:Str} {vpos:Pos} (hN:X.N[i]?=some x:=by rfl) (hv:Vis X.env.scope x:=by first | exact Or.inl rfl | exact Or.inr (Or.inl rfl) | exact Or.inr (Or.inr rfl)) (hd:(x==("__debug__":Str))=false:=by decide) (hcd:(x==("__classdict__":Str))=false:=by decide) :
  PS X (.Return (some (.Name x vpos)) pos) (tS K M H0 fun ρ=>ZaZ (rdO ρ i)):=Zo0 hN hv hd hcd
theorem Zi2 (i:Nat) {x:Str} {vpos:Pos} (hN:X.N[i]?=some x:=by rfl) (hv:Vis X.env.scope x:=by first | exact Or.inl rfl | exact Or.inr (Or.inl rfl) | exact Or.inr (Or.inr rfl)) (hd:(x==("__debug__":Str))=false:=by decide) (hcd:(x==("__classdict__":Str))=false:=by decide):JS X (.Return (some (.Name x vpos)) pos) (tS K M H0 fun ρ=>ZaZ (rdO ρ i)):=⟨ZtH i hN hv hd hcd⟩
theorem Ztc (hu:X.A.units+64<cLine) (ha:PE X a (tP X.K M H0 f)) (hb:PE X b (tP X.K M H0 g)):PE X (.Compare a [.Eq] [b] pos) (tD X.K M H0 (Ze eqO f g)):=ZlZ (ZlQ hu) ZoD ha hb (ZcI _ (by decide) (by decide))
theorem Zhj (hu:X.A.units+64<cLine) (ha:JE X a (tP X.K M H0 f)) (hb:JE X b (tP X.K M H0 g)):JE X (.Compare a [.Eq] [b] pos) (tD X.K M H0 (Ze eqO f g)):=⟨Ztc hu ha.h hb.h⟩
theorem Zr9 (hu:X.A.units+64<cLine) (ha:PE X a (tP X.K M H0 f)) (hb:PE X b (tP X.K M H0 g)):PT X (.Compare a [.Eq] [b] pos) (tB' X.K M H0 fun ρ=>asB (Ze eqO f g ρ)):=Zft (ZlQ hu) ZoD ha hb (ZcI _ (by decide) (by decide))
theorem ZdN (hu:X.A.units+64<cLine) (ha:JE X a (tP X.K M H0 f)) (hb:JE X b (tP X.K M H0 g)):JT X (.Compare a [.Eq] [b] pos) (tB' X.K M H0 fun ρ=>asB (Ze eqO f g ρ)):=⟨Zr9 hu ha.h hb.h⟩
theorem Zr1 (hu:X.A.units+64<cLine) (ha:PE X a (tP X.K M H0 f)) (hb:PE X b (tP X.K M H0 g)):PT X (.Compare a [.NotEq] [b] pos) (tB' X.K M H0 fun ρ=>asB (Ze neO f g ρ)):=Zft (Zq4 hu) ZsX ha hb (ZcI _ (by decide) (by decide))
theorem Zdx (hu:X.A.units+64<cLine) (ha:JE X a (tP X.K M H0 f)) (hb:JE X b (tP X.K M H0 g)):JT X (.Compare a [.NotEq] [b] pos) (tB' X.K M H0 fun ρ=>asB (Ze neO f g ρ)):=⟨Zr1 hu ha.h hb.h⟩
theorem ZrD (hu:X.A.units+64<cLine) (ha:PE X a (tP X.K M H0 f)) (hb:PE X b (tP X.K M H0 g)):PT X (.Compare a [.Lt] [b] pos) (tB' X.K M H0 fun ρ=>asB (Ze ltO f g ρ)):=Zft (Zrc hu) Zsr ha hb (ZcI _ (by decide) (by decide))
theorem Ziz (hu:X.A.units+64<cLine) (ha:JE X a (tP X.K M H0 f)) (hb:JE X b (tP X.K M H0 g)):JT X (.Compare a [.Lt] [b] pos) (tB' X.K M H0 fun ρ=>asB (Ze ltO f g ρ)):=⟨ZrD hu ha.h hb.h⟩
theorem ZrM (hu:X.A.units+64<cLine) (ha:PE X a (tP X.K M H0 f)) (hb:PE X b (tP X.K M H0 g)):PT X (.Compare a [.Gt] [b] pos) (tB' X.K M H0 fun ρ=>asB (Ze gtD f g ρ)):=Zft Zst (ZsQ _) ha hb (ZcI _ (by decide) (by decide))
theorem ZnM (hu:X.A.units+64<cLine) (ha:JE X a (tP X.K M H0 f)) (hb:JE X b (tP X.K M H0 g)):JT X (.Compare a [.Gt] [b] pos) (tB' X.K M H0 fun ρ=>asB (Ze gtD f g ρ)):=⟨ZrM hu ha.h hb.h⟩
@[simp] def Zt7 (F F':D→D→Option D) (f g h:VE→Option D):VE→Option D:=fun ρ=>(f ρ).bind fun x=>(g ρ).bind fun y=>match F x y with
  | some (.bl true)=>(h ρ).bind fun z=>F' y z
  | some (.bl false)=>some (.bl false)
  | _=>none
@[simp] def Zbe:Option D→Option Bool
  | some .non=>some false
  | some (.bl b)=>some b
  | some (.int i)=>some (i != 0)
  | some (.str y)=>if y.length≤sizeLine then some ((y.length:Int) != 0) else none
  | some (.lst xs)=>some (!xs.isEmpty)
  | some (.tup xs)=>some (!xs.isEmpty)
  | _=>none
theorem DenL.isEmpty {N:Fb} {H:Hp} {xs:List D} {vs:List V} (h:DenL K N H xs vs):vs.isEmpty=xs.isEmpty:=by
 cases xs with
 | nil=>simp only [DenL] at h;subst h;rfl
 | cons x xs=>simp only [DenL] at h;obtain ⟨_,_,e,_⟩:=h;subst e;rfl
theorem Zqu (ha:PE X a (tP X.K M H0 f)) (he:∀ whole,isTrue a X.env whole=(do let v ← whole;standAt a.pos;holding [v] (truthy v)):=by intro _;rfl):PT X a (tB' X.K M H0 fun ρ=>Zbe (f ρ)) :=
 (Zol ha he).mono fun σ H Q ⟨ρ,k,R,e,q⟩=>by
  try dsimp only at e q
  unfold Zbe at e
  split at e
  ·next hf=>cases e;exact ⟨ρ,_,R,hf,fun v H' s hv=>⟨_,by rw [hv.non];rfl,q H' s⟩⟩
  ·next hf=>cases e;exact ⟨ρ,_,R,hf,fun v H' s hv=>⟨_,by rw [hv.bl];rfl,q H' s⟩⟩
  ·next hf=>cases e;exact ⟨ρ,_,R,hf,fun v H' s hv=>⟨_,by rw [hv.int];rfl,q H' s⟩⟩
  ·next hf =>
   split at e
   ·next hz=>cases e;exact ⟨ρ,_,R,hf,fun v H' s hv=>⟨_,by rw [hv.str];exact ⟨hz,rfl⟩,q H' s⟩⟩
   ·cases e
  ·next hf =>
   cases e
   refine ⟨ρ,_,R,hf,fun v H' s hv=>⟨_,?_,q H' s⟩⟩
   obtain ⟨p,vs,e1,q1,r1⟩:=hv
   subst e1
   exact .inl ⟨vs,q1,by rw [r1.isEmpty]⟩
  ·next hf =>
   cases e
   refine ⟨ρ,_,R,hf,fun v H' s hv=>⟨_,?_,q H' s⟩⟩
   obtain ⟨p,vs,e1,q1,r1⟩:=hv.tup
   subst e1
   exact .inr (.inl ⟨vs,q1,by rw [r1.isEmpty]⟩)
  ·cases e
theorem ZaQ (ha:JE X a (tP X.K M H0 f)) (he:∀ whole,isTrue a X.env whole=(do let v ← whole;standAt a.pos;holding [v] (truthy v)):=by intro _;rfl):JT X a (tB' X.K M H0 fun ρ=>Zbe (f ρ)):=⟨Zqu ha.h he⟩
@[simp] def ZJ:D→Option (List D)
  | .lst xs=>some xs
  | .tup xs=>some xs
  | .str x=>some (x.cps.toList.map fun c=>D.str ⟨#[c]⟩)
  | _=>none
theorem Zq1 {l:Expr} (hl:PE X l (tQ X.K M H0 f)):PI X tg l (tI X.K M H0 fun ρ=>(f ρ).bind ZJ):=fun pins s σ H R' I ⟨ρ,ds,R,e,q⟩=>by
 try dsimp only at e
 cases hf:f ρ with
 | none=>rw [hf] at e;cases e
 | some d =>
  rw [hf] at e
  cases d with
  | lst xs fl =>
   cases fl with
   | true=>cases e
   | false=>exact Zo7 hl pins s σ H R' I ⟨ρ,ds,R,by dsimp only;rw [hf];exact e,q⟩
  | tup xs=>exact Zqq hl pins s σ H R' I ⟨ρ,ds,R,by dsimp only;rw [hf];exact e,q⟩
  | str x=>exact Zrl hl pins s σ H R' I ⟨ρ,ds,R,by dsimp only;rw [hf];exact e,q⟩
  | _=>cases e
theorem Zae {l:Expr} (hl:JE X l (tQ X.K M H0 f)):JI X tg l (tI X.K M H0 fun ρ=>(f ρ).bind ZJ):=⟨Zq1 hl.h⟩
@[simp] def ZuZ (i:Nat) (o:Option (List D)) (ρ:VE):Res:=match rdO ρ i,o with
  | some xs,some ys=>if xs.length+ys.length≤sizeLine then .next (ρ.set i (.own (xs++ys))) else .fail
  | _,_=>.fail
@[simp] def ZuT (i:Nat) (ρ:VE):Res:=match rdO ρ i with
  | some xs=>.next (ρ.set i (.own xs.reverse))
  | _=>.fail
@[simp] def Zu1 (i j:Nat) (ρ:VE):Res:=match rdO ρ j with
  | some xs=>.next ((ρ.set j .no).set i (.own xs))
  | _=>.fail
@[simp] def ZuQ (i j:Nat) (ρ:VE):Res:=match rdG ρ j with
  | some xs=>.next ((ρ.set j .no).set i (.own xs true))
  | _=>.fail
end
end L2
namespace L2
theorem PSs.conv {X:Cx} {K:PySem.W.Frag} {M:Fb} {H0:Hp} {b:List PySem.Stmt} {g g':VE→Res} (h:PSs X b (tS K M H0 g)) (e:g=g'):PSs X b (tS K M H0 g'):=e ▸ h
theorem ZR {X:Cx} {K:PySem.W.Frag} {M:Fb} {H0:Hp} {b:List PySem.Stmt} {g g':VE→Res} (h:JB X b (tS K M H0 g)) (e:g=g'):JB X b (tS K M H0 g'):=⟨PSs.conv h.h e⟩
end L2
namespace L2
theorem Zik {X:Cx} {e:PySem.Expr} {t:TT} (h:JW X e t):JT X e t:=⟨h.h.pt⟩
end L2
set_option Elab.async false
set_option linter.all false
set_option maxRecDepth 100000
namespace L2
open PySem PySem.Spec PyProof.Rows
def ZcB (ns:List Int):List Int:=ns.mergeSort fun a b=>decide (a≤b)
theorem ZdR (ns:List Int):(ZcB ns).Perm ns:=List.mergeSort_perm _ _
theorem Zhu (ns:List Int):(ZcB ns).Pairwise (·≤·):=by
 have h:=List.pairwise_mergeSort (le:=fun a b:Int=>decide (a≤b)) (by intro a b c h1 h2;simp at *;omega) (by intro a b;simp;omega) ns
 exact h.imp fun h=>by simpa using h
theorem ZmW {ns ms:List Int} (hp:ms.Perm ns) (h:ms.Pairwise (·≤·)):ms=ZcB ns :=
 List.Perm.eq_of_pairwise (le:=(·≤·)) (fun a b _ _ h1 h2=>Int.le_antisymm h1 h2) h (Zhu ns) (hp.trans (ZdR ns).symm)
theorem Zgt (ns:List Int):(ZcB ns).length=ns.length:=(ZdR ns).length_eq
section
variable {X:Cx} {K:PySem.W.Frag}
theorem Zk5:CallR X (.builtin "sorted") (fun xs H Q=>∃ (a:Addr) (ns:List Int),xs=[.ref a]∧SqL X.K H a (ns.map V.int)∧ns.length<64∧∀ p,H p=none→Q (.ref p) (upd H p (.lst ((ZcB ns).map V.int)))):=by
 intro pins s σ H xs us Q I r h
 obtain ⟨a,ns,rfl,hs,h64,q⟩:=h
 obtain ⟨u,rfl,rx⟩:=ZaK r
 cases rx
 obtain ⟨its,rv,p,hz⟩:=I.list hs
 have hl:=rv.length
 rw [List.length_map] at hl hz
 refine sorted_ints p.isList (Zdf rv) (by omega) fun out ns' a1 a2 a3=>?_
 obtain ⟨e,he⟩:=sortedAll_at s.heap its out
 have en:=ZmW a2 a3
 subst en
 refine ⟨.ref _,_,I.laid (t':=s.toks) (o:=.lst ((ZcB ns).map V.int)) (fun b o q=>sortedAll_old q) (Nat.le_succ _) ?_,rfl,q _ (I.hok.fresh (Nat.le_succ _))⟩
 exact ⟨by rw [List.length_map,Zgt];exact hz,out.toList,e,ZfV a1,he⟩
def ZgC:List D→Option (List D)
 | [.lst xs]=>(Zb7 xs).bind fun ns=>if ns.length<64 then some ((ZcB ns).map D.int) else none
 | _=>none
theorem Znr:RcF K (fun xs H Q=>∃ (a:Addr) (ns:List Int),xs=[.ref a]∧SqL K H a (ns.map V.int)∧ns.length<64∧∀ p,H p=none→Q (.ref p) (upd H p (.lst ((ZcB ns).map V.int)))) ZgC:=by
 intro N H vs ds xs Q nh h e q
 unfold ZgC at e
 split at e
 ·next ys =>
  cases hb:Zb7 ys with
  | none=>rw [hb] at e;cases e
  | some ns =>
   rw [hb] at e
   simp only [Option.bind] at e
   split at e
   ·next h64 =>
    cases e
    obtain ⟨v,rfl,hv⟩:=Paired.one' h
    obtain ⟨a,ws,e1,q1,r1⟩:=hv
    subst e1
    rw [Zdw hb] at r1
    rw [ZcX r1] at q1
    exact ⟨a,ns,rfl,q1,h64,fun p hp=>q _ p hp (DenL.ints _)⟩
   ·cases e
 ·cases e
def ZuS (i:Nat) (oi ov:Option D) (ρ:VE):Res:=match rdO ρ i,oi,ov with
 | some xs,some (.int k),some d=>match ixN xs.length k with
  | some j=>.next (ρ.set i (.own (xs.set j d)))
  | none=>.fail
 | _,_,_=>.fail
def RmD (K:PySem.W.Frag) (r:V→List V→Hp→VK→Prop) (F:Str→List D→Option D):Prop:=∀ (N:Fb) (H:Hp) (z:Str) (vs:List V) (ds:List D) (d:D) (Q:VK),(∀ a,N a→H a≠none)→Paired (DenP K N H) ds vs→F z ds=some d →
 (∀ v H',Same H H'→Den K N H' d v→Q v H')→r (.str z) vs H Q
@[simp] def mtO (F:Str→List D→Option D) (f:VE→Option D) (fa:VE→Option (List Sl)):VE→Option D:=fun ρ=>match f ρ with
  | some (.str z)=>((fa ρ).bind pks).bind (F z)
  | _=>none
@[simp] def ZuU (F:Str→List D→Option D) (f:VE→Option D):VE→Option D:=fun ρ=>match f ρ with
  | some (.str z)=>F z []
  | _=>none
section
variable {M:Fb} {H0:Hp} {o e:Expr} {es:List Expr} {f:VE→Option D} {fa:VE→Option (List Sl)} {name:Str} {apos cpos:Pos} {id:String} {r:V→List V→Hp→VK→Prop} {F:Str→List D→Option D}
theorem Ztd (pa:PlainAttrs "str") (slot:Slot "str" name id) (hty:typeOf (.builtin id)=pure (.type "method_descriptor")) (hm:MtR X id r) (hF:RmD X.K r F) (ho:PE X o (tP X.K M H0 f)) (ha:PA X (e::es) (tA' X.K M H0 fa))
  (hbase:attributeBase o name X.env (eval o X.env)=eval o X.env:=by rfl)
  (hfew:((backTo cpos (starEach (e::es) X.env)).all (fun x=>!x.1)&&(backToKw cpos (keywordEach [] X.env)).all (fun x=>x.1.isSome)
   && decide ((e::es).length+([]:List Keyword).length+(if ([]:List Keyword).isEmpty then 0 else 1)<30))=true:=by rfl)
  (hline:(apos.endLine==cpos.line)=true:=by rfl) (hs:starEach (e::es) X.env=(false,eval e X.env)::starEach es X.env:=by exact Z1 (fun _ _ z=>nomatch z)) (hplain:(backTo cpos (starEach es X.env)).any (·.1)=false:=by rfl) :
  PE X (.Call (.Attribute o name apos) (e::es) [] cpos) (tD X.K M H0 (mtO F f fa)):=(Zk7 pa slot hty hm ho ha hbase hfew hline hs hplain).mono fun σ H Q ⟨ρ,d,R,ex,q⟩=>by
 unfold mtO at ex
 split at ex
 ·next z hz =>
  cases hf:fa ρ with
  | none=>rw [hf] at ex;cases ex
  | some ss =>
   rw [hf] at ex
   cases hp:pks ss with
   | none=>simp only [Option.bind,hp] at ex;cases ex
   | some ds =>
    simp only [Option.bind,hp] at ex
    refine ⟨ρ,.str z,R,hz,fun v H1 s1 hv=>?_⟩
    rw [hv.str]
    refine ⟨rfl,ρ,ss,R.st s1,hf,fun vs H2 s2 h2=>?_⟩
    exact hF _ H2 z vs ds d Q ((R.st s1).st s2).nh (Zf7 h2 hp) ex fun w H3 s3 hw=>q w H3 ((s1.trans s2).trans s3) hw
 ·cases ex
theorem ZoW (pa:PlainAttrs "str") (slot:Slot "str" name id) (hty:typeOf (.builtin id)=pure (.type "method_descriptor")) (hm:MtR X id r) (hF:RmD X.K r F) (ho:JE X o (tP X.K M H0 f)) (ha:JA X (e::es) (tA' X.K M H0 fa)) (hbase:attributeBase o name X.env (eval o X.env)=eval o X.env:=by rfl) (hfew:((backTo cpos (starEach (e::es) X.env)).all (fun x=>!x.1)&&(backToKw cpos (keywordEach [] X.env)).all (fun x=>x.1.isSome)
   && decide ((e::es).length+([]:List Keyword).length+(if ([]:List Keyword).isEmpty then 0 else 1)<30))=true:=by rfl) (hline:(apos.endLine==cpos.line)=true:=by rfl) (hs:starEach (e::es) X.env=(false,eval e X.env)::starEach es X.env:=by exact Z1 (fun _ _ z=>nomatch z)) (hplain:(backTo cpos (starEach es X.env)).any (·.1)=false:=by rfl):JE X (.Call (.Attribute o name apos) (e::es) [] cpos) (tD X.K M H0 (mtO F f fa)):=⟨Ztd pa slot hty hm hF ho.h ha.h hbase hfew hline hs hplain⟩
end
def Zlb:List D→Option (List Str)
 | []=>some []
 | .str b::r=>(Zlb r).map (b::·)
 | _=>none
@[simp] theorem ZpY:∀ (ns:List Str),Zlb (ns.map D.str)=some ns
  | []=>rfl
  | n::ns=>by simp only [List.map_cons,Zlb,ZpY ns];rfl
@[simp] def ZuE (z:Str):List D→Option D
  | [.lst xs]=>(Zlb xs).bind fun zs=>if (zs.map (·.length)).sum+zs.length * z.length≤16777216 then some (.str (Txt.join z zs)) else none
  | _=>none
@[simp] def ZuF (z:Str):List D→Option D
  | [.str y]=>some (.int (Txt.find z y))
  | _=>none
@[simp] def Zuv (z:Str):List D→Option D
  | []=>if Builtin.Str.tooLong (Txt.upper z).length=false then some (.str (Txt.upper z)) else none
  | _=>none
end
end L2
set_option Elab.async false
set_option linter.all false
set_option maxRecDepth 100000
namespace L2
open PySem PySem.Spec PyProof.Rows
structure ZaJ (P:Program) (w:World) (i:Addr) (fp:List Addr) (n:Nat) (is:Nat→Value→Prop) (st:Nat→Heap→Prop):Prop where
 frame:∀ k h h',st k h→(∀ b,b=i∨b∈fp→∀ o,h.get? b=some o→h'.get? b=some o)→st k h'
 lt:∀ k h,st k h→i<h.objs.size
 item:∀ (A:Around) (E:Value→Shared→Prop) (s:Shared) (k:Nat) (Q:Value→Shared→Prop),k<n→st k s.heap→(∀ v h',is k v→st (k+1) h'→Heap.SameBut i s.heap h'→Q v { s with heap:=h' })→wpAny (model P w) A (Builtin.SmallTypes.nextOf (.ref i)) Q E s
 fin:∀ (A:Around) (E:Value→Shared→Prop) (s:Shared) (k:Nat) (Q:Value→Shared→Prop),A.handled=none→n≤k→st k s.heap→(∀ h' e,Heap.ExtBut i s.heap h'→(∃ o,h'.get? e=some o∧o.cls=.type "StopIteration")→E (.ref e) { s with heap:=h' }) →
  wpAny (model P w) A (Builtin.SmallTypes.nextOf (.ref i)) Q E s
section
variable {prog:Program} {w:World} {A:Around} {E:Value→Shared→Prop} {s:Shared}
theorem ZgI {i tu:Addr} {k:Nat} {its:Array Value} {v:Value} {Q:Value→Shared→Prop} (hi:s.heap.IsTupleIter i tu k) (ht:s.heap.IsTuple tu its) (hv:its[k]?=some v)
  (q:∀ h',h'.IsTupleIter i tu (k+1)→Heap.SameBut i s.heap h'→Q v { s with heap:=h' }):wpAny (model prog w) A (Builtin.SmallTypes.nextOf (.ref i)) Q E s:=by
 obtain ⟨oi,e0,c0,f0⟩:=id hi
 obtain ⟨ot,e1,_,m1,f1⟩:=ht
 unfold Builtin.SmallTypes.nextOf
 refine wpAny_bind (wpAny_callSpecial?_slot (name:=Str.ofString "__next__") hi.typeIs PySem.F.slot_tuple_iterator_next (wpAny_call_entry PySem.F.slot_tuple_iterator_next hi.typeIs PySem.F.entry_tuple_iterator_next ?_ (PySem.F.args_tuple_iterator_next_1 _)))
 show wpAny _ _ (field (.ref i) 0 >>= _) _ _ s
 refine wpAny_bind (wpAny_field e0 f0 (x:=.ref tu) rfl ?_)
 show wpAny _ _ (if (Value.ref tu==Value.none)=true then _ else _) _ _ s
 rw [if_neg (show ¬ ((Value.ref tu==Value.none)=true) from Bool.false_ne_true)]
 show wpAny _ _ (field (.ref i) 1 >>= _) _ _ s
 refine wpAny_bind (wpAny_field e0 f0 (x:=.int k 0) rfl ?_)
 show wpAny _ _ (seqItems? (.ref tu) >>= _) _ _ s
 refine wpAny_bind (wpAny_seqItems e1 f1 ?_)
 simp only [hv,Int.toNat_natCast]
 refine wpAny_bind (wpAny_setField e0 f0 (by simp) (wpAny_pure ⟨v,rfl,wpAny_pure (q _ ?_ (Heap.SameBut.update ..))⟩))
 exact ⟨_,Heap.get?_update_self _ e0 (Obj.isFreed_of_fields (Obj.data_mapFields f0 _)),(Obj.cls_mapFields ..).trans c0,by rw [Obj.data_mapFields f0];simp [rawInt]⟩
theorem Zhb {i tu:Addr} {k:Nat} {its:Array Value} {Q:Value→Shared→Prop} (hh:A.handled=none) (hi:s.heap.IsTupleIter i tu k) (ht:s.heap.IsTuple tu its) (hv:its[k]?=none)
  (q:∀ h' e,Heap.ExtBut i s.heap h'→(∃ o,h'.get? e=some o∧o.cls=.type "StopIteration")→E (.ref e) { s with heap:=h' }):wpAny (model prog w) A (Builtin.SmallTypes.nextOf (.ref i)) Q E s:=by
 obtain ⟨oi,e0,c0,f0⟩:=id hi
 obtain ⟨ot,e1,_,m1,f1⟩:=ht
 unfold Builtin.SmallTypes.nextOf
 refine wpAny_bind (wpAny_callSpecial?_slot (name:=Str.ofString "__next__") hi.typeIs PySem.F.slot_tuple_iterator_next (wpAny_call_entry PySem.F.slot_tuple_iterator_next hi.typeIs PySem.F.entry_tuple_iterator_next ?_ (PySem.F.args_tuple_iterator_next_1 _)))
 show wpAny _ _ (field (.ref i) 0 >>= _) _ _ s
 refine wpAny_bind (wpAny_field e0 f0 (x:=.ref tu) rfl ?_)
 show wpAny _ _ (if (Value.ref tu==Value.none)=true then _ else _) _ _ s
 rw [if_neg (show ¬ ((Value.ref tu==Value.none)=true) from Bool.false_ne_true)]
 show wpAny _ _ (field (.ref i) 1 >>= _) _ _ s
 refine wpAny_bind (wpAny_field e0 f0 (x:=.int k 0) rfl ?_)
 show wpAny _ _ (seqItems? (.ref tu) >>= _) _ _ s
 refine wpAny_bind (wpAny_seqItems e1 f1 ?_)
 simp only [hv,Int.toNat_natCast]
 refine wpAny_bind (wpAny_rule (wpAny_bind (wpAny_setField e0 f0 (by simp) ?_)))
 show wpAny _ _ (newExc (.type "StopIteration") ([]:List Value) >>= _) _ _ _
 refine wpAny_bind ?_
 simp only [newTuple,newExc]
 refine wpAny_bind (wpAny_newObj_type ?_ (show (0:Nat)≤sizeLine by decide))
 refine wpAny_bind (m:=firstArgMember _ _) (wpAny_of_eq (a:=Value.none) (by first | rfl | (unfold firstArgMember;rfl)) ?_)
 refine wpAny_newObj_type ?_ (by first | trivial | (show (0:Nat)≤sizeLine;decide) | size_fits)
 unfold raiseNew
 refine wpAny_bind (wpAny_handled ?_)
 first | rw [hh] | rw [show A.in1.handled=none from hh]
 refine wpAny_bind (wpAny_pure (wpAny_throw ?_))
 exact q _ _ ((Heap.ExtBut.push (Heap.SameBut.extBut (Heap.SameBut.update ..)) _).push _) ⟨_,Heap.get?_push_size _ rfl,rfl⟩
theorem ZnQ {P:Program} {w:World} {i l:Addr} (its:Array Value):ZaJ P w i [l] its.size (fun k v=>its[k]?=some v) (fun k h=>h.IsListIter i l k∧h.IsList l its) where
 frame:=fun k h h' ⟨a,b⟩ kp=>⟨a.at fun o e=>kp i (.inl rfl) o e,b.at fun o e=>kp l (.inr (by simp)) o e⟩
 lt:=fun k h ⟨⟨o,e,_⟩,_⟩=>Heap.lt_size e
 item:=fun A E s k Q hk ⟨a,b⟩ q=>wpAny_nextOf_list_item a b (Array.getElem?_eq_getElem hk) fun h' a' sb=>by
  by_cases hl:l=i
  ·subst hl
   obtain ⟨o,e,c,_⟩:=a
   obtain ⟨o',e',c',_⟩:=b
   rw [e] at e';cases e'
   rw [c] at c'
   exact absurd c' (by decide)
  ·exact q _ h' (Array.getElem?_eq_getElem hk) ⟨a',b.extBut sb.extBut hl⟩ sb
 fin:=fun A E s k Q hh hk ⟨a,b⟩ q=>wpAny_nextOf_list_end hh a b (Array.getElem?_eq_none hk) q
theorem Zpj {P:Program} {w:World} {i l:Addr} (its:Array Value):ZaJ P w i [l] its.size (fun k v=>its[k]?=some v) (fun k h=>h.IsTupleIter i l k∧h.IsTuple l its) where
 frame:=fun k h h' ⟨a,b⟩ kp=>⟨a.at fun o e=>kp i (.inl rfl) o e,b.at fun o e=>kp l (.inr (by simp)) o e⟩
 lt:=fun k h ⟨⟨o,e,_⟩,_⟩=>Heap.lt_size e
 item:=fun A E s k Q hk ⟨a,b⟩ q=>ZgI a b (Array.getElem?_eq_getElem hk) fun h' a' sb=>by
  by_cases hl:l=i
  ·subst hl
   obtain ⟨o,e,c,_⟩:=a
   obtain ⟨o',e',c',_⟩:=b
   rw [e] at e';cases e'
   rw [c] at c'
   exact absurd c' (by decide)
  ·exact q _ h' (Array.getElem?_eq_getElem hk) ⟨a',b.at fun o e=>sb.extBut _ _ hl e⟩ sb
 fin:=fun A E s k Q hh hk ⟨a,b⟩ q=>Zhb hh a b (Array.getElem?_eq_none hk) q
structure ZApart (z tin tout ia ib:Addr) (fa fb:List Addr):Prop where
 n1:tin≠z
 n2:tout≠z
 n3:ia≠z
 n4:ib≠z
 n5:tin≠tout
 n6:tin≠ia
 n7:tin≠ib
 n8:tout≠ia
 n9:tout≠ib
 n10:ia≠ib
 fz:∀ b,b∈fa∨b∈fb→b≠z∧b≠tout∧b≠ia∧b≠ib
section
variable {z tin tout ia ib:Addr} {fa fb:List Addr} {n m k:Nat} {isA isB:Nat→Value→Prop} {sa sb:Nat→Heap→Prop} {a b:Value}
theorem ZApart.keepA (D:ZApart z tin tout ia ib fa fb) (SA:ZaJ prog w ia fa n isA sa) {h h':Heap} (st:sa k h) {c:Addr} (hc:c=z∨c=tout∨c=ib) (sb':Heap.SameBut c h h'):sa k h' :=
 SA.frame k h h' st fun x hx o e=>by
  refine sb'.extBut x o ?_ e
  rcases hx with rfl | hx
  ·rcases hc with rfl | rfl | rfl
   ·exact D.n3
   ·exact Ne.symm D.n8
   ·exact D.n10
  ·obtain ⟨q1,q2,q3,q4⟩:=D.fz x (.inl hx)
   rcases hc with rfl | rfl | rfl
   ·exact q1
   ·exact q2
   ·exact q4
theorem ZApart.keepB (D:ZApart z tin tout ia ib fa fb) (SB:ZaJ prog w ib fb n isB sb) {h h':Heap} (st:sb k h) {c:Addr} (hc:c=z∨c=tout∨c=ia) (sb':Heap.SameBut c h h'):sb k h' :=
 SB.frame k h h' st fun x hx o e=>by
  refine sb'.extBut x o ?_ e
  rcases hx with rfl | hx
  ·rcases hc with rfl | rfl | rfl
   ·exact D.n4
   ·exact Ne.symm D.n9
   ·exact Ne.symm D.n10
  ·obtain ⟨q1,q2,q3,q4⟩:=D.fz x (.inr hx)
   rcases hc with rfl | rfl | rfl
   ·exact q1
   ·exact q2
   ·exact q3
theorem Zn9 {Q:Option Value→Shared→Prop} (D:ZApart z tin tout ia ib fa fb) (SA:ZaJ prog w ia fa n isA sa) (SB:ZaJ prog w ib fb m isB sb)
  (hz:IsZip s.heap z tin tout .none) (hi:IsPair s.heap tin (.ref ia) (.ref ib)) (ho:IsPair s.heap tout a b) (ha:sa k s.heap) (hb:sb k s.heap) (kn:k<n) (km:k<m)
  (q:∀ x y h',isA k x→isB k y→IsZip h' z tin tout (rawInt s.heap.objs.size)→IsPair h' tout x y→sa (k+1) h'→sb (k+1) h'→IsPair h' s.heap.objs.size x y→h'.objs.size=s.heap.objs.size+1 →
   (∀ c o,c≠z→c≠tout→c≠ia→c≠ib→s.heap.get? c=some o→h'.get? c=some o)→Q (some (.ref s.heap.objs.size)) { s with heap:=h' }) :
  wpAny (model prog w) A (pyNext (.ref z)) Q E s:=by
 have ty:s.TypeIs (.ref z) "zip":=⟨_,hz,rfl⟩
 unfold pyNext
 refine wpAny_bind (wpAny_attempt (wpAny_callSpecial?_slot (name:=Str.ofString "__next__") ty PySem.F.slot_zip_next (wpAny_call_entry PySem.F.slot_zip_next ty PySem.F.entry_zip_next ?_ (PySem.F.args_zip_next_1 _))))
 show wpAny _ _ (field (.ref z) 2 >>= _) _ _ _
 refine wpAny_bind (wpAny_field hz rfl (x:=.bool false) rfl ?_)
 show wpAny _ _ (field (.ref z) 3 >>= _) _ _ _
 refine wpAny_bind (wpAny_field hz rfl (x:=.ref tin) rfl ?_)
 refine wpAny_bind (wpAny_seqItems hi rfl ?_)
 show wpAny _ _ (Builtin.SmallTypes.ownedTupleIsFree (.ref z) >>= _) _ _ _
 refine wpAny_bind ?_
 unfold Builtin.SmallTypes.ownedTupleIsFree
 refine wpAny_bind (wpAny_field hz rfl (x:=.none) rfl (wpAny_pure ?_))
 rw [if_pos rfl]
 refine wpAny_bind (wpAny_rule ?_)
 refine wpAny_bind (wpAny_field hz rfl (x:=.ref tout) rfl ?_)
 refine wpAny_bind (wpAny_setField_rec hz (by simp) fun g1 z1 b1=>?_)
 have z1:IsZip g1 z tin tout .ellipsis:=z1
 refine wpAny_bind ?_
 simp only [List.zipIdx_nil,List.zipIdx_cons,List.forIn_nil,List.forIn_cons]
 refine wpAny_bind (wpAny_bind (wpAny_onRaise ?_))
 show wpAny _ _ (Builtin.SmallTypes.nextOf (.ref ia) >>= _) _ _ _
 refine wpAny_bind (SA.item _ _ _ k _ kn (D.keepA SA ha (.inl rfl) b1) fun x g2 hx a2 b2=>wpAny_pure ?_)
 have o2:IsPair g2 tout a b:=b2.extBut _ _ D.n8 (b1.extBut _ _ D.n2 ho)
 refine wpAny_bind (wpAny_seqItems o2 rfl ?_)
 refine wpAny_bind (wpAny_updateSeq_pair o2 fun g3 o3 b3=>?_)
 have o3:IsPair g3 tout x b:=o3
 refine wpAny_bind (wpAny_letGo (wpAny_pure ?_))
 refine wpAny_bind (wpAny_bind (wpAny_onRaise ?_))
 show wpAny _ _ (Builtin.SmallTypes.nextOf (.ref ib) >>= _) _ _ _
 have hb3:sb k g3:=D.keepB SB (D.keepB SB (D.keepB SB hb (.inl rfl) b1) (.inr (.inr rfl)) b2) (.inr (.inl rfl)) b3
 refine wpAny_bind (SB.item _ _ _ k _ km hb3 fun y g4 hy a4 b4=>wpAny_pure ?_)
 have o4:IsPair g4 tout x b:=b4.extBut _ _ D.n9 o3
 refine wpAny_bind (wpAny_seqItems o4 rfl ?_)
 refine wpAny_bind (wpAny_updateSeq_pair o4 fun g5 o5 b5=>?_)
 have o5:IsPair g5 tout x y:=o5
 refine wpAny_bind (wpAny_letGo (wpAny_pure (wpAny_pure ?_)))
 refine wpAny_bind (wpAny_seqItems o5 rfl ?_)
 refine wpAny_bind (wpAny_newTuple ?_)
 have sz:g5.objs.size=s.heap.objs.size:=by rw [b5.1,b4.1,b3.1,b2.1,b1.1]
 have z5:IsZip g5 z tin tout .ellipsis:=b5.extBut _ _ (Ne.symm D.n2) (b4.extBut _ _ (Ne.symm D.n4) (b3.extBut _ _ (Ne.symm D.n2) (b2.extBut _ _ (Ne.symm D.n3) z1)))
 have kp:∀ c o,c≠z→c≠tout→c≠ia→c≠ib→s.heap.get? c=some o→g5.get? c=some o:=fun c o c1 c2 c3 c4 e =>
  b5.extBut _ _ c2 (b4.extBut _ _ c4 (b3.extBut _ _ c2 (b2.extBut _ _ c3 (b1.extBut _ _ c1 e))))
 have a5:sa (k+1) g5:=D.keepA SA (D.keepA SA (D.keepA SA a2 (.inr (.inl rfl)) b3) (.inr (.inr rfl)) b4) (.inr (.inl rfl)) b5
 have b5':sb (k+1) g5:=D.keepB SB a4 (.inr (.inl rfl)) b5
 have zlt:z<g5.objs.size:=Heap.lt_size z5
 show wpAny _ _ (Builtin.SmallTypes.ownedTupleHandOut (.ref z) (.ref g5.objs.size) >>= _) _ _ _
 refine wpAny_bind ?_
 unfold Builtin.SmallTypes.ownedTupleHandOut
 have z6:IsZip (g5.push { cls:=.type "tuple",data:=.seq #[x,y] }) z tin tout .ellipsis:=Heap.get?_push_of_some _ z5
 refine wpAny_bind (wpAny_setField_rec z6 (by simp) fun g7 z7 b7=>?_)
 have z7:IsZip g7 z tin tout (rawInt g5.objs.size):=z7
 refine wpAny_setField_rec z7 (by simp) fun g8 z8 b8=>?_
 have z8:IsZip g8 z tin tout (rawInt g5.objs.size):=z8
 have up:∀ c o,c≠z→g5.get? c=some o→g8.get? c=some o:=fun c o c1 e=>b8.extBut _ _ c1 (b7.extBut _ _ c1 (Heap.get?_push_of_some _ e))
 have new:IsPair g8 g5.objs.size x y:=b8.extBut _ _ (Nat.ne_of_gt zlt) (b7.extBut _ _ (Nat.ne_of_gt zlt) (Heap.get?_push_size _ rfl))
 have s8:g8.objs.size=g5.objs.size+1:=by rw [b8.1,b7.1,Heap.size_push]
 have a8:sa (k+1) g8:=SA.frame _ _ _ a5 fun c hc o e=>up c o (by
  rcases hc with rfl | hc
  ·exact D.n3
  ·exact (D.fz c (.inl hc)).1) e
 have b8':sb (k+1) g8:=SB.frame _ _ _ b5' fun c hc o e=>up c o (by
  rcases hc with rfl | hc
  ·exact D.n4
  ·exact (D.fz c (.inr hc)).1) e
 rw [sz] at z8 new s8
 refine wpAny_pure ⟨_,rfl,wpAny_pure ?_⟩
 show Q (some (.ref g5.objs.size)) _
 rw [sz]
 exact q x y g8 hx hy z8 (up _ _ D.n2 o5) a8 b8' new s8 fun c o c1 c2 c3 c4 e=>up c o c1 (kp c o c1 c2 c3 c4 e)
theorem ZpE {Q:Option Value→Shared→Prop} (hh:A.handled=none) (D:ZApart z tin tout ia ib fa fb) (SA:ZaJ prog w ia fa n isA sa) (SB:ZaJ prog w ib fb m isB sb)
  (hz:IsZip s.heap z tin tout .none) (hi:IsPair s.heap tin (.ref ia) (.ref ib)) (ho:IsPair s.heap tout a b) (ha:sa k s.heap) (hb:sb k s.heap) (kn:n≤k∨m≤k)
  (q:∀ h',(∀ c o,c≠z→c≠tout→c≠ia→c≠ib→s.heap.get? c=some o→h'.get? c=some o)→Q none { s with heap:=h' }) :
  wpAny (model prog w) A (pyNext (.ref z)) Q E s:=by
 have ty:s.TypeIs (.ref z) "zip":=⟨_,hz,rfl⟩
 unfold pyNext
 refine wpAny_bind (wpAny_attempt (wpAny_callSpecial?_slot (name:=Str.ofString "__next__") ty PySem.F.slot_zip_next (wpAny_call_entry PySem.F.slot_zip_next ty PySem.F.entry_zip_next ?_ (PySem.F.args_zip_next_1 _))))
 have last:∀ (h':Heap) (e:Addr),(∀ c o,c≠z→c≠tout→c≠ia→c≠ib→s.heap.get? c=some o→h'.get? c=some o)→(∃ o,h'.get? e=some o∧o.cls=.type "StopIteration") →
   wpAny (model prog w) A (do if (← isInstance (.ref e) (.type "StopIteration"))=true then pure (none:Option Value) else throw (Value.ref e)) Q E { s with heap:=h' }:=fun h' e kp ⟨o,e1,c1⟩ =>
  wpAny_bind (wpAny_isInstance (T:="StopIteration") (b:=true) ⟨o,e1,c1⟩ isSubtype_stop (wpAny_pure (q h' kp)))
 show wpAny _ _ (field (.ref z) 2 >>= _) _ _ _
 refine wpAny_bind (wpAny_field hz rfl (x:=.bool false) rfl ?_)
 show wpAny _ _ (field (.ref z) 3 >>= _) _ _ _
 refine wpAny_bind (wpAny_field hz rfl (x:=.ref tin) rfl ?_)
 refine wpAny_bind (wpAny_seqItems hi rfl ?_)
 show wpAny _ _ (Builtin.SmallTypes.ownedTupleIsFree (.ref z) >>= _) _ _ _
 refine wpAny_bind ?_
 unfold Builtin.SmallTypes.ownedTupleIsFree
 refine wpAny_bind (wpAny_field hz rfl (x:=.none) rfl (wpAny_pure ?_))
 rw [if_pos rfl]
 refine wpAny_bind (wpAny_rule ?_)
 refine wpAny_bind (wpAny_field hz rfl (x:=.ref tout) rfl ?_)
 refine wpAny_bind (wpAny_setField_rec hz (by simp) fun g1 z1 b1=>?_)
 have z1:IsZip g1 z tin tout .ellipsis:=z1
 refine wpAny_bind ?_
 simp only [List.zipIdx_nil,List.zipIdx_cons,List.forIn_nil,List.forIn_cons]
 refine wpAny_bind (wpAny_bind (wpAny_onRaise ?_))
 show wpAny _ _ (Builtin.SmallTypes.nextOf (.ref ia) >>= _) _ _ _
 by_cases ka:n≤k
 ·refine wpAny_bind (SA.fin A.in1 _ _ k _ (by first | exact hh | simpa using hh) ka (D.keepA SA ha (.inl rfl) b1) fun g2 e x2 he=>?_)
  obtain ⟨oe,e1,c1⟩:=he
  have z2:IsZip g2 z tin tout .ellipsis:=x2 _ _ (Ne.symm D.n3) z1
  have ez:e≠z:=fun x=>by subst x;rw [z2] at e1;cases e1;simp at c1
  exact wpAny_setField_rec z2 (by simp) fun g3 _ b3=>last g3 e (fun c o c1 _ c3 _ x=>b3.extBut _ _ c1 (x2 _ _ c3 (b1.extBut _ _ c1 x))) ⟨oe,b3.extBut _ _ ez e1,c1⟩
 ·have kb:m≤k:=by rcases kn with h | h;exact absurd h ka;exact h
  refine wpAny_bind (SA.item _ _ _ k _ (Nat.lt_of_not_le ka) (D.keepA SA ha (.inl rfl) b1) fun x g2 hx a2 b2=>wpAny_pure ?_)
  have o2:IsPair g2 tout a b:=b2.extBut _ _ D.n8 (b1.extBut _ _ D.n2 ho)
  refine wpAny_bind (wpAny_seqItems o2 rfl ?_)
  refine wpAny_bind (wpAny_updateSeq_pair o2 fun g3 o3 b3=>?_)
  have o3:IsPair g3 tout x b:=o3
  refine wpAny_bind (wpAny_letGo (wpAny_pure ?_))
  refine wpAny_bind (wpAny_bind (wpAny_onRaise ?_))
  show wpAny _ _ (Builtin.SmallTypes.nextOf (.ref ib) >>= _) _ _ _
  have hb3:sb k g3:=D.keepB SB (D.keepB SB (D.keepB SB hb (.inl rfl) b1) (.inr (.inr rfl)) b2) (.inr (.inl rfl)) b3
  refine wpAny_bind (SB.fin A.in1 _ _ k _ (by first | exact hh | simpa using hh) kb hb3 fun g4 e x4 he=>?_)
  obtain ⟨oe,e1,c1⟩:=he
  have z4:IsZip g4 z tin tout .ellipsis:=x4 _ _ (Ne.symm D.n4) (b3.extBut _ _ (Ne.symm D.n2) (b2.extBut _ _ (Ne.symm D.n3) z1))
  have ez:e≠z:=fun x=>by subst x;rw [z4] at e1;cases e1;simp at c1
  exact wpAny_setField_rec z4 (by simp) fun g5 _ b5=>last g5 e (fun c o c1 c2 c3 c4 x=>b5.extBut _ _ c1 (x4 _ _ c4 (b3.extBut _ _ c2 (b2.extBut _ _ c3 (b1.extBut _ _ c1 x))))) ⟨oe,b5.extBut _ _ ez e1,c1⟩
end
end
end L2
set_option Elab.async false
set_option linter.all false
set_option maxRecDepth 100000
namespace L2
open PySem PySem.Spec PyProof.Rows
section
variable {X:Cx} {pins:List (Addr×Obj)} {σ:St} {H:Hp} {s:Shared} {h':Heap}
theorem Inv.turnedL {fp:List Addr} (I:Inv X pins σ H s) (hf:∀ b∈fp,ZcR X pins H b) (k:∀ b o,b∉fp→s.heap.get? b=some o→h'.get? b=some o):Inv X pins σ H { s with heap:=h' }:=by
 have nit:∀ b u,H b=some u→b∉fp:=fun b u e z=>by rw [(hf b z).1] at e;cases e
 refine I.step (g':=s.gens) (d':=s.drawn) (t':=s.toks) (ch:=fp) (fun b hb=>?_) (fun b o _ _ hc e _=>k b o hc e) (fun b o _ _ hc e _=>⟨o.slots,k b o hc e⟩) (fun _ _ _ _ n=>n)
  (fun b o hc e=>⟨o,k b o hc e⟩) (fun _ _ e=>e) (fun _ _ _ e=>e) (fun b ps e=>⟨#[],by rw [e];simp⟩) (fun m hm=>?_) (fun b u e=>?_) I.bare
 ·obtain ⟨_,f1,_,f3,f4,f5⟩:=hf b hb
  exact ⟨f3,f1,f4,f5⟩
 ·obtain ⟨o,es,ep,ho,r⟩:=hm
  exact ⟨o,es,ep,k _ o (fun z=>(hf _ z).2.1 rfl) ho,r⟩
 ·refine (I.hok b u e).stay (fun c v hc q=>k c v ?_ q) (fun _ q=>q) fun _ _ q=>q
  rcases hc with z | z
  ·rw [z];exact nit b u e
  ·exact nit c _ z
theorem Inv.yielded {fp:List Addr} {p:Addr} {vs:List V} (I:Inv X pins σ H s) (hf:∀ b∈fp,ZcR X pins H b) (k:∀ b o,b∉fp→s.heap.get? b=some o→h'.get? b=some o) (hp:s.heap.objs.size≤p)
  (new:ObjOk X.prog X.w (upd H p (.tup vs)) h' p (.tup vs)):Inv X pins σ (upd H p (.tup vs)) { s with heap:=h' }:=by
 have nit:∀ b u,H b=some u→b∉fp:=fun b u e z=>by rw [(hf b z).1] at e;cases e
 have hn:H p=none:=I.hok.fresh hp
 refine I.step (g':=s.gens) (d':=s.drawn) (t':=s.toks) (ch:=fp) (fun b hb=>?_) (fun b o _ _ hc e _=>k b o hc e) (fun b o _ _ hc e _=>⟨o.slots,k b o hc e⟩) (fun b o _ e n=>?_)
  (fun b o hc e=>⟨o,k b o hc e⟩) (fun b xs e=>?_) (fun b o u e=>?_) (fun b ps e=>⟨#[],?_⟩) (fun m hm=>?_) (fun b u e=>?_) I.bare
 ·obtain ⟨_,f1,_,f3,f4,f5⟩:=hf b hb
  exact ⟨f3,f1,f4,f5⟩
 ·rw [Zs (Nat.ne_of_lt (Nat.lt_of_lt_of_le (Heap.lt_size e) hp))];exact n
 ·rw [Zs (Z3 e hn)];exact e
 ·rw [Zs (Z3 e hn)];exact e
 ·rw [Zs (Z3 e hn),e];simp
 ·obtain ⟨o,es,ep,ho,r⟩:=hm
  exact ⟨o,es,ep,k _ o (fun z=>(hf _ z).2.1 rfl) ho,r⟩
 ·by_cases hb:b=p
  ·subst hb;rw [Zam] at e;cases e;exact new
  ·rw [Zs hb] at e
   refine (I.hok b u e).stay (fun c v hc q=>k c v ?_ q) (fun c q=>by rw [Zs (Z3 q hn)];exact q) fun c xs q=>by rw [Zs (Z3 q hn)];exact q
   rcases hc with z | z
   ·rw [z];exact nit b u e
   ·exact nit c _ z
end
inductive Src where
 | l (a:Addr)
 | t (a:Addr)
@[reducible] def Src.ad:Src→Addr
  | .l a=>a
  | .t a=>a
def Src.sq (K:PySem.W.Frag) (H:Hp):Src→List V→Prop
 | .l a=>SqL K H a
 | .t a=>SqT K H a
def Src.nm:Src→String
 | .l _=>"list_iterator"
 | .t _=>"tuple_iterator"
def Src.ok (h:Heap) (its:Array Value):Src→Prop
 | .l a=>h.IsList a its
 | .t a=>h.IsTuple a its
def Src.it (h:Heap) (i:Addr) (k:Nat):Src→Prop
 | .l a=>h.IsListIter i a k
 | .t a=>h.IsTupleIter i a k
theorem Src.of (S:Src) {X:Cx} {pins:List (Addr×Obj)} {σ:St} {H:Hp} {s:Shared} {xs:List V} (I:Inv X pins σ H s) (h:S.sq X.K H xs):∃ its:List Value,Vals xs its∧S.ok s.heap its.toArray∧xs.length≤sizeLine:=by
 cases S with
 | l a=>obtain ⟨its,r,p,z⟩:=I.list h;exact ⟨its,r,p.isList,z⟩
 | t a=>obtain ⟨its,r,p,z⟩:=I.tuple h;exact ⟨its,r,(show s.heap.IsTuple a its.toArray from p),z⟩
theorem Src.inj (S:Src) {X:Cx} {pins:List (Addr×Obj)} {σ:St} {H:Hp} {s:Shared} {xs ys:List V} (I:Inv X pins σ H s) (h:S.sq X.K H xs) (h':S.sq X.K H ys):xs=ys:=by
 cases S with
 | l a=>exact I.list_inj h h'
 | t a=>exact I.tuple_inj h h'
theorem Src.lt (S:Src) {h:Heap} {its:Array Value} (p:S.ok h its):S.ad<h.objs.size:=by
 cases S with
 | l a=>obtain ⟨o,e,_⟩:=p;exact Heap.lt_size e
 | t a=>obtain ⟨o,e,_⟩:=p;exact Heap.lt_size e
theorem Src.okAt (S:Src) {h h':Heap} {its:Array Value} (p:S.ok h its) (k:∀ o,h.get? S.ad=some o→h'.get? S.ad=some o):S.ok h' its:=by
 cases S with
 | l a=>exact Heap.IsList.at p k
 | t a=>exact Heap.IsTuple.at p k
theorem Src.itAt (S:Src) {h h':Heap} {i:Addr} {n:Nat} (p:S.it h i n) (k:∀ o,h.get? i=some o→h'.get? i=some o):S.it h' i n:=by
 cases S with
 | l a=>exact Heap.IsListIter.at p k
 | t a=>exact Heap.IsTupleIter.at p k
theorem Src.itOb (S:Src) {h:Heap} {i:Addr} {n:Nat} (p:S.it h i n):∃ o,h.get? i=some o∧∀ v,o.data≠.cell v:=by
 cases S with
 | l a=>obtain ⟨o,e,c,d⟩:=p;exact ⟨o,e,fun v z=>by rw [d] at z;cases z⟩
 | t a=>obtain ⟨o,e,c,d⟩:=p;exact ⟨o,e,fun v z=>by rw [d] at z;cases z⟩
theorem Src.sub (S:Src) {P:Program} {w:World} {i:Addr} (its:Array Value):ZaJ P w i [S.ad] its.size (fun k v=>its[k]?=some v) (fun k h=>S.it h i k∧S.ok h its):=by
 cases S with
 | l a=>exact ZnQ its
 | t a=>exact Zpj its
def Src.obj (S:Src):Obj:={ cls:=.type S.nm,data:=.fields #[.ref S.ad,.int 0 0] }
theorem Src.pyIter (S:Src) {prog:Program} {w:World} {A:Around} {E:Value→Shared→Prop} {s:Shared} {its:Array Value} {Q:Value→Shared→Prop} (p:S.ok s.heap its)
  (q:Q (.ref s.heap.objs.size) { s with heap:=s.heap.push S.obj }):wpAny (model prog w) A (pyIter (.ref S.ad)) Q E s:=by
 cases S with
 | l a=>exact wpAny_pyIter_list p q
 | t a=>exact wpAny_pyIter_tuple p q
theorem Src.new (S:Src) {h:Heap}:S.it (h.push S.obj) h.objs.size 0:=by
 cases S with
 | l a=>exact ⟨_,Heap.get?_push_size _ rfl,rfl,rfl⟩
 | t a=>exact ⟨_,Heap.get?_push_size _ rfl,rfl,rfl⟩
@[reducible] def zh1 (h:Heap) (A:Src):Heap:=h.push A.obj
@[reducible] def zh2 (h:Heap) (A B:Src):Heap:=(zh1 h A).push B.obj
@[reducible] def zh3 (h:Heap) (A B:Src):Heap:=(zh2 h A B).push { cls:=.type "tuple",data:=.seq #[.ref h.objs.size,.ref (zh1 h A).objs.size] }
@[reducible] def zh4 (h:Heap) (A B:Src):Heap:=(zh3 h A B).push { cls:=.type "tuple",data:=.seq #[.none,.none] }
@[reducible] def zh5 (h:Heap) (A B:Src):Heap:=(zh4 h A B).push { cls:=.type "zip",data:=.fields #[.none,.bool false,.bool false,.ref (zh2 h A B).objs.size,.ref (zh3 h A B).objs.size] }
theorem ZpX (A B:Src) (xs ys:Array Value):Meets (Builtin.«zip.__new__» ⟨[.type "zip",.ref A.ad,.ref B.ad],[]⟩) (fun _ R s=>A.ok s.heap xs∧B.ok s.heap ys∧R (.ok (.ret (.ref (zh4 s.heap A B).objs.size))) { s with heap:=zh5 s.heap A B }) :=
 .of_wp fun prog w A' R s h=>by
  obtain ⟨hp,g,d,tk,os⟩:=s;obtain ⟨h1,h2,q⟩:=h
  have hs:=sub_zip
  have k1:A.ok (Shared.heap ⟨hp,g,d,tk,os⟩) xs:=h1
  have k2:B.ok (Shared.heap ⟨hp.push A.obj,g,d,tk,os⟩) ys:=B.okAt h2 fun o e=>Heap.get?_push_of_some _ e
  wp_walk using A.pyIter k1,B.pyIter k2
  exact ⟨_,rfl,q⟩
end L2
set_option Elab.async false
set_option linter.all false
set_option maxRecDepth 100000
namespace L2
open PySem PySem.Spec PyProof.Rows
section
variable {prog:Program} {w:World} {A:Around} {E:Value→Shared→Prop} {s:Shared}
theorem ZnF {S T:Src} {xs ys:Array Value} {Q:Value→Shared→Prop} (p1:S.ok s.heap xs) (p2:T.ok s.heap ys)
  (q:∀ h',IsZip h' (s.heap.objs.size+4) (s.heap.objs.size+2) (s.heap.objs.size+3) .none→IsPair h' (s.heap.objs.size+2) (.ref s.heap.objs.size) (.ref (s.heap.objs.size+1)) →
   IsPair h' (s.heap.objs.size+3) .none .none→S.it h' s.heap.objs.size 0→T.it h' (s.heap.objs.size+1) 0→(∀ c o,s.heap.get? c=some o→h'.get? c=some o)→Q (.ref (s.heap.objs.size+4)) { s with heap:=h' }) :
  wpAny (model prog w) A (call (.type "zip") [.ref S.ad,.ref T.ad]) Q E s:=by
 refine callType_new PySem.F.called_zip (by decide) (PySem.F.typeCall_zip_2 _ _) (PySem.F.newCall_zip_2 _ _) (fun obj=>PySem.F.args_object_init_3 obj _ _) PySem.F.entry_zip_new (ZpX S T xs ys) ⟨p1,p2,?_⟩
 have z1:(zh1 s.heap S).objs.size=s.heap.objs.size+1:=Heap.size_push ..
 have z2:(zh2 s.heap S T).objs.size=s.heap.objs.size+2:=by rw [Heap.size_push,z1]
 have z3:(zh3 s.heap S T).objs.size=s.heap.objs.size+3:=by rw [Heap.size_push,z2]
 have z4:(zh4 s.heap S T).objs.size=s.heap.objs.size+4:=by rw [Heap.size_push,z3]
 have g5:(zh5 s.heap S T).get? (zh4 s.heap S T).objs.size=some _:=Heap.get?_push_size _ rfl
 have g4:(zh5 s.heap S T).get? (zh3 s.heap S T).objs.size=some _:=Heap.get?_push_of_some _ (Heap.get?_push_size _ rfl)
 have g3:(zh5 s.heap S T).get? (zh2 s.heap S T).objs.size=some _:=Heap.get?_push_of_some _ (Heap.get?_push_of_some _ (Heap.get?_push_size _ rfl))
 have up:∀ c o,(zh2 s.heap S T).get? c=some o→(zh5 s.heap S T).get? c=some o:=fun c o e=>Heap.get?_push_of_some _ (Heap.get?_push_of_some _ (Heap.get?_push_of_some _ e))
 have t2:T.it (zh5 s.heap S T) (zh1 s.heap S).objs.size 0:=T.itAt (T.new (h:=zh1 s.heap S)) fun o e=>up _ o e
 have t1:S.it (zh5 s.heap S T) s.heap.objs.size 0:=S.itAt (S.new (h:=s.heap)) fun o e=>up _ o (Heap.get?_push_of_some _ e)
 show _∧_
 rw [z2,z3,z4] at g5
 rw [z1,z2] at g3
 rw [z3] at g4
 rw [z1] at t2
 rw [z4]
 exact ⟨⟨_,g5,rfl⟩,q _ g5 g3 g4 t1 t2 fun c o e=>up _ _ (Heap.get?_push_of_some _ (Heap.get?_push_of_some _ e))⟩
end
def Itz (K:PySem.W.Frag) (S T:Src):It :=
 ⟨fun i H=>∃ xs ys x y,S.sq K H xs∧T.sq K H ys∧xs[i]?=some x∧ys[i]?=some y,
  fun i H v H'=>∃ p x y,v=.ref p∧H p=none∧H'=upd H p (.tup [x,y])∧(∀ xs,S.sq K H xs→xs[i]?=some x)∧∀ ys,T.sq K H ys→ys[i]?=some y,
  fun i H=>∃ xs ys,S.sq K H xs∧T.sq K H ys∧(xs.length≤i∨ys.length≤i)⟩
theorem Zl2 {n:Nat} {S T:Src} (h1:S.ad<n) (h2:T.ad<n):ZApart (n+4) (n+2) (n+3) n (n+1) [S.ad] [T.ad] where
 n1:=by (show @Ne Nat _ _;omega)
 n2:=by (show @Ne Nat _ _;omega)
 n3:=by (show @Ne Nat _ _;omega)
 n4:=by (show @Ne Nat _ _;omega)
 n5:=by (show @Ne Nat _ _;omega)
 n6:=by (show @Ne Nat _ _;omega)
 n7:=by (show @Ne Nat _ _;omega)
 n8:=by (show @Ne Nat _ _;omega)
 n9:=by (show @Ne Nat _ _;omega)
 n10:=by (show @Ne Nat _ _;omega)
 fz:=fun b hb=>by
  have hl:(b:Nat)<n:=by
   rcases hb with z | z
   ·rw [List.mem_singleton.mp z];exact h1
   ·rw [List.mem_singleton.mp z];exact h2
  exact ⟨fun e=>by subst e;exact absurd hl (by show ¬ @LT.lt Nat _ _ _;omega),fun e=>by subst e;exact absurd hl (by show ¬ @LT.lt Nat _ _ _;omega),fun e=>by subst e;exact absurd hl (by show ¬ @LT.lt Nat _ _ _;omega),fun e=>by subst e;exact absurd hl (by show ¬ @LT.lt Nat _ _ _;omega)⟩
theorem ZnJ {P:Program} {w:World} {K:PySem.W.Frag} {elts:List Expr} {x1} {pos:Pos} (S T:Src) (n:Nat) (h1:S.ad<n) (h2:T.ad<n) :
  Zeh P w K (.Tuple elts x1 pos) (Itz K S T) [n+4,n+2,n+3,n,n+1] (n+4) (fun i h=>IsZip h (n+4) (n+2) (n+3) .none∧IsPair h (n+2) (.ref n) (.ref (n+1))∧(∃ a b,IsPair h (n+3) a b)∧S.it h n i∧T.it h (n+1) i) where
 mem:=by simp
 obj:=fun i h ⟨z,a,⟨x,y,b⟩,c,d⟩ q hq=>by
  simp only [List.mem_cons,List.not_mem_nil,or_false] at hq
  rcases hq with rfl | rfl | rfl | rfl | rfl
  ·exact ⟨_,z,fun v e=>nomatch (show Data.fields _=Data.cell v from e)⟩
  ·exact ⟨_,a,fun v e=>nomatch (show Data.seq _ _=Data.cell v from e)⟩
  ·exact ⟨_,b,fun v e=>nomatch (show Data.seq _ _=Data.cell v from e)⟩
  ·exact S.itOb c
  ·exact T.itOb d
 keep:=fun i h h' ⟨z,a,⟨x,y,b⟩,c,d⟩ k=>⟨k _ (by simp) _ z,k _ (by simp) _ a,⟨x,y,k _ (by simp) _ b⟩,S.itAt c fun o e=>k _ (by simp) o e,T.itAt d fun o e=>k _ (by simp) o e⟩
 item:=by
  intro X hP hw hK hc i pins s σ H E I hf ⟨z,a,⟨u,v,b⟩,c,d⟩ ⟨xs,ys,x,y,hx,hy,ex,ey⟩
  subst hP hw hK
  obtain ⟨its,r1,o1,_⟩:=S.of I hx
  obtain ⟨jts,r2,o2,_⟩:=T.of I hy
  obtain ⟨u1,e1,ru1⟩:=r1.get ex
  obtain ⟨u2,e2,ru2⟩:=r2.get ey
  have l1:=(List.getElem?_eq_some_iff.mp e1).1
  have l2:=(List.getElem?_eq_some_iff.mp e2).1
  refine Zn9 (Zl2 h1 h2) (S.sub (P:=X.prog) (w:=X.w) its.toArray) (T.sub (P:=X.prog) (w:=X.w) jts.toArray) z a b ⟨c,o1⟩ ⟨d,o2⟩ (by simpa using l1) (by simpa using l2) fun x' y' h' hx' hy' z' to' ⟨c',_⟩ ⟨d',_⟩ new sz kp=>?_
  have hx1:x'=u1:=by simp [e1] at hx';exact hx'.symm
  have hy1:y'=u2:=by simp [e2] at hy';exact hy'.symm
  subst hx1 hy1
  refine ⟨_,rfl,wpAny_letOwnedTupleGo_zip z' fun h2' z2 sb=>?_⟩
  have hlt:n+4<s.heap.objs.size:=Heap.lt_size z
  have up:∀ q o,q≠n+4→h'.get? q=some o→h2'.get? q=some o:=fun q o hq e=>sb.extBut _ _ hq e
  have I1:Inv X pins σ (upd H s.heap.objs.size (.tup [x,y])) { s with heap:=h2' }:=by
   refine I.yielded hf (fun q o hq e=>up q o (fun z=>hq (by simp [z])) (kp q o (fun z=>hq (by simp [z])) (fun z=>hq (by simp [z])) (fun z=>hq (by simp [z])) (fun z=>hq (by simp [z])) e)) (Nat.le_refl _) ?_
   exact ⟨show 2≤sizeLine by decide,[x',y'],.cons ru1 (.cons ru2 .nil),⟨_,up _ _ (by (show @Ne Nat _ _;omega)) new,rfl,_,rfl⟩⟩
  refine ⟨.ref s.heap.objs.size,_,I1,rfl,⟨_,x,y,rfl,I.hok.fresh (Nat.le_refl _),rfl,fun zs hz=>by rw [S.inj I hz hx];exact ex,fun zs hz=>by rw [T.inj I hz hy];exact ey⟩,⟨z2,up _ _ (by (show @Ne Nat _ _;omega)) (kp _ _ (by (show @Ne Nat _ _;omega)) (by (show @Ne Nat _ _;omega)) (by (show @Ne Nat _ _;omega)) (by (show @Ne Nat _ _;omega)) a),⟨x',y',up _ _ (by (show @Ne Nat _ _;omega)) to'⟩,S.itAt c' fun o e=>up _ o (by (show @Ne Nat _ _;omega)) e,T.itAt d' fun o e=>up _ o (by (show @Ne Nat _ _;omega)) e⟩,fun q hq=>?_⟩
  rw [Zs]
  ·exact (hf q hq).1
  ·simp only [List.mem_cons,List.not_mem_nil,or_false] at hq
   rcases hq with rfl | rfl | rfl | rfl | rfl<;>(show @Ne Nat _ _;omega)
 done:=by
  intro X hP hw hK hc i pins s σ H E I hf ⟨z,a,⟨u,v,b⟩,c,d⟩ ⟨xs,ys,hx,hy,hl⟩
  subst hP hw hK
  obtain ⟨its,r1,o1,_⟩:=S.of I hx
  obtain ⟨jts,r2,o2,_⟩:=T.of I hy
  have q1:=r1.length
  have q2:=r2.length
  refine ZpE (I.ok.hd hc) (Zl2 h1 h2) (S.sub (P:=X.prog) (w:=X.w) its.toArray) (T.sub (P:=X.prog) (w:=X.w) jts.toArray) z a b ⟨c,o1⟩ ⟨d,o2⟩ (by simp only [List.size_toArray];omega) fun h' kp=>⟨rfl,I.turnedL hf fun q o hq e=>kp q o (fun z=>hq (by simp [z])) (fun z=>hq (by simp [z])) (fun z=>hq (by simp [z])) (fun z=>hq (by simp [z])) e⟩
 self:=fun _ _ _ _ _ ⟨z,_⟩ q=>wpAny_pyIter_zip z q
theorem ZhS:bootBuiltins "zip"=some (.type "zip"):=by decide +kernel
@[simp] def Zan:D→Option (List D)
  | .lst xs=>some xs
  | .tup xs=>some xs
  | _=>none
theorem DenQ.src {K:PySem.W.Frag} {M N:Fb} {H:Hp} {d:D} {v:V} {xs:List D} (h:DenQ K M N H d v) (e:Zan d=some xs) :
  ∃ (S:Src) (vs:List V),v=.ref S.ad∧DenL K N H xs vs∧∀ N2 H2,Step M N N2 H H2→S.sq K H2 vs:=by
 cases d with
 | lst ys fl =>
  cases fl with
  | true=>cases e
  | false =>
  cases e
  obtain ⟨a,vs,e1,hr,hd⟩:=h
  refine ⟨.l a,vs,e1,hd,fun N2 H2 S=>?_⟩
  rcases hr with ⟨hn,hr⟩ | hr
  ·exact .inl (hr.step S (by rcases hn with z | z;exact .inl z;exact .inr (.inl z)))
  ·exact hr.sq
 | tup ys =>
  cases e
  simp only [DenQ,Den] at h
  obtain ⟨a,vs,e1,hr,hd⟩:=h
  exact ⟨.t a,vs,e1,hd,fun N2 H2 S=>hr.step S⟩
 | _=>cases e
@[simp] def ZfI (f g:VE→Option D):VE→Option (List D):=fun ρ=>match (f ρ).bind Zan,(g ρ).bind Zan with
  | some xs,some ys=>some (List.zipWith (fun x y=>D.tup [x,y]) xs ys)
  | _,_=>none
theorem Zq0 {K:PySem.W.Frag} {M N:Fb} {H:Hp} {S T:Src} {xs ys:List D} {us vs:List V} (h1:DenL K N H xs us) (h2:DenL K N H ys vs) (q1:∀ N2 H2,Step M N N2 H H2→S.sq K H2 us) (q2:∀ N2 H2,Step M N N2 H H2→T.sq K H2 vs) :
  ZiV K M N H (Itz K S T) (List.zipWith (fun x y=>D.tup [x,y]) xs ys):=fun N2 H2 St i=>by
 have s1:=q1 _ _ St
 have s2:=q2 _ _ St
 have d1:=DenL.step St _ _ h1
 have d2:=DenL.step St _ _ h2
 refine ⟨fun d he=>?_,fun he=>⟨us,vs,s1,s2,?_⟩⟩
 ·rw [List.getElem?_zipWith] at he
  cases ex:xs[i]? with
  | none=>rw [ex] at he;cases he
  | some x =>
   cases ey:ys[i]? with
   | none=>rw [ex,ey] at he;cases he
   | some y =>
    rw [ex,ey] at he;cases he
    obtain ⟨u,eu,du⟩:=d1.get ex
    obtain ⟨v,ev,dv⟩:=d2.get ey
    refine ⟨⟨us,vs,u,v,s1,s2,eu,ev⟩,fun z H3 ⟨p,u',v',e1,hp,e3,w1,w2⟩=>?_⟩
    have:=w1 us s1;rw [eu] at this;cases this
    have:=w2 vs s2;rw [ev] at this;cases this
    subst e1 e3
    exact ⟨Zgn hp,ZcJ hp (DenL.cons du (DenL.cons dv DenL.nil))⟩
 ·have l1:=h1.length
  have l2:=h2.length
  simp only [List.length_zipWith] at he
  omega
section
variable {X:Cx} {M:Fb} {H0:Hp} {f g:VE→Option D} {a b:Expr} {elts:List Expr} {p pos tpos:Pos}
theorem ZrJ {x1} (hg:Gl X "zip") (hm:X.mg "zip"=none) (ha:PE X a (tQ X.K M H0 f)) (hb:PE X b (tQ X.K M H0 g)) (hs:starEach [a,b] X.env=[(false,eval a X.env),(false,eval b X.env)]:=by rfl) (hs2:starEach [b] X.env=[(false,eval b X.env)]:=by rfl) (hs3:starEach [] X.env=[]:=by rfl) :
  PI X (.Tuple elts x1 tpos) (.Call (.Name "zip" p) [a,b] [] pos) (tI X.K M H0 (ZfI f g)):=by
 intro pins s σ H Q I ⟨ρ,ds,R,e,q⟩
 unfold ZfI at e
 split at e
 ·next xs ys ex ey =>
  cases e
  cases hf:f ρ with
  | none=>rw [hf] at ex;cases ex
  | some d1 =>
   cases hgv:g ρ with
   | none=>rw [hgv] at ey;cases ey
   | some d2 =>
    rw [hf] at ex
    rw [hgv] at ey
    have PA2:=ZaO ha (ZaO hb pa_nil (by rw [hs2,hs3])) (by rw [hs,hs2])
    refine Call_ (ZbR I hg hm ZhS (PyProof.Rows.callWith_type1 (thn (PA2 pos pins s σ H (fun vs H2=>∃ S T us ws,vs=[.ref (Src.ad S),.ref (Src.ad T)]∧Same H H2∧DenL X.K (Nf M ρ σ) H2 xs us∧DenL X.K (Nf M ρ σ) H2 ys ws∧(∀ N2 H3,Step M (Nf M ρ σ) N2 H2 H3→S.sq X.K H3 us)∧∀ N2 H3,Step M (Nf M ρ σ) N2 H2 H3→T.sq X.K H3 ws) I ?_) fun us s1 ⟨vs,H1,I1,r1,q1⟩=>?_) (by rw [hs,hs2]) (by rw [hs2];rfl)))
    ·refine ⟨ρ,d1,R,hf,fun v1 H1 z1 q1=>⟨ρ,d2,R.st z1,hgv,fun v2 H2 z2 q2=>?_⟩⟩
     obtain ⟨S,us,e1,dl1,k1⟩:=q1.src ex
     obtain ⟨T,ws,e2,dl2,k2⟩:=q2.src ey
     exact ⟨S,T,us,ws,by rw [e1,e2],z1.trans z2,dl1.same z2,dl2,fun N2 H3 St=>k1 _ _ ((Step.of_same z2).trans St),k2⟩
    ·obtain ⟨S,T,us',ws,e1,z,dl1,dl2,k1,k2⟩:=q1
     subst e1
     cases r1 with
     | cons r rr =>
      cases rr with
      | cons r' rr =>
       cases rr
       cases r
       cases r'
       obtain ⟨its,v1,o1,_⟩:=S.of I1 (k1 _ _ Step.refl)
       obtain ⟨jts,v2,o2,_⟩:=T.of I1 (k2 _ _ Step.refl)
       refine ZnF o1 o2 fun h' a1 a2 a3 a4 a5 kp=>wpAny_pyIter_zip a1 ?_
       refine ⟨_,_,_,_,H1,rfl,I1.kept (t':=s1.toks) kp,ZnJ S T s1.heap.objs.size (S.lt o1) (T.lt o2),⟨a1,a2,⟨_,_,a3⟩,a4,a5⟩,fun b hb=>?_,q _ _ z (Zq0 dl1 dl2 k1 k2)⟩
       have hl:s1.heap.objs.size≤b:=by
        simp only [List.mem_cons,List.not_mem_nil,or_false] at hb
        rcases hb with rfl | rfl | rfl | rfl | rfl<;>(show @LE.le Nat _ _ _;omega)
       exact I1.fpOk hl (I1.hok.fresh hl)
 ·cases e
theorem ZiS {x1} (hg:Gl X "zip") (hm:X.mg "zip"=none) (ha:JE X a (tQ X.K M H0 f)) (hb:JE X b (tQ X.K M H0 g)) (hs:starEach [a,b] X.env=[(false,eval a X.env),(false,eval b X.env)]:=by rfl) (hs2:starEach [b] X.env=[(false,eval b X.env)]:=by rfl) (hs3:starEach [] X.env=[]:=by rfl) :
  JI X (.Tuple elts x1 tpos) (.Call (.Name "zip" p) [a,b] [] pos) (tI X.K M H0 (ZfI f g)):=⟨ZrJ hg hm ha.h hb.h hs hs2 hs3⟩
end
end L2
set_option Elab.async false
set_option linter.all false
set_option maxRecDepth 100000
namespace L2
open PySem PySem.Spec PyProof.Rows
section
variable {prog:Program} {w:World} {A:Around} {E:Value→Shared→Prop} {s:Shared}
theorem Zls (l:Addr) (items:Array Value) (n:Nat) (dct:Option Addr) (sl:Array (Option Value)) (ob:Obj) (ho:ob={ cls:=.type "list_iterator",data:=.fields #[.ref l,.int 0 0] }) :
  Meets (Builtin.«enumerate.__new__» ⟨[.type "enumerate",.ref l],[]⟩) (fun _ R s=>s.heap.get? l=some { cls:=.type "list",dict:=dct,data:=.seq items n,slots:=sl } ∧
   R (.ok (.ret (.ref (s.heap.push ob).objs.size))) { s with heap:=(s.heap.push ob).push { cls:=.type "enumerate",data:=.fields #[.none,.bool false,.ref s.heap.objs.size,rawInt 0,.none,.none] } }):=by
 subst ho;exact meets_enumerate_newL l items n dct sl
theorem Zlm (l:Addr) (items:Array Value) (n:Nat) (dct:Option Addr) (sl:Array (Option Value)) :
  Meets (Builtin.«enumerate.__new__» ⟨[.type "enumerate",.ref l],[]⟩) (fun _ R s=>s.heap.get? l=some { cls:=.type "tuple",dict:=dct,data:=.seq items n,slots:=sl } ∧
   R (.ok (.ret (.ref (s.heap.push (Src.obj (.t l))).objs.size))) { s with heap:=(s.heap.push (Src.obj (.t l))).push { cls:=.type "enumerate",data:=.fields #[.none,.bool false,.ref s.heap.objs.size,rawInt 0,.none,.none] } }) :=
 .of_wp fun prog w A R s h=>by
  obtain ⟨hp,g,d,tk,os⟩:=s;obtain ⟨e,q⟩:=h
  have hs:=sub_enumerate
  have hL:Src.ok (Shared.heap ⟨hp,g,d,tk,os⟩) items (.t l):=⟨_,e,rfl,n,rfl⟩
  have hI:∀ {prog:Program} {w:World} {A:Around} {E:Value→Shared→Prop} {Q:Value→Shared→Prop},Q (.ref hp.objs.size) ⟨hp.push (Src.obj (.t l)),g,d,tk,os⟩→wpAny (model prog w) A (pyIter (.ref l)) Q E ⟨hp,g,d,tk,os⟩:=fun q=>Src.pyIter (.t l) hL q
  wp_walk using AutoSeq1.wpAny_loadPart' e
  refine wpAny_stack_any fun st=>wpAny_pure ?_
  split
  ·rename_i c _ _ _ _ _
   cases (c==Value.type "enumerate")
   ·wp_walk using AutoSeq1.wpAny_loadPart' e,hI
    exact ⟨_,rfl,q⟩
   ·wp_walk using AutoSeq1.wpAny_loadPart' e,hI
    exact ⟨_,rfl,q⟩
  ·wp_walk using AutoSeq1.wpAny_loadPart' e,hI
   exact ⟨_,rfl,q⟩
theorem Zng {S:Src} {items:Array Value} {Q:Value→Shared→Prop} (p:S.ok s.heap items)
  (q:∀ h',IsEnum h' (s.heap.objs.size+1) s.heap.objs.size 0 .none→S.it h' s.heap.objs.size 0→(∀ b o,s.heap.get? b=some o→h'.get? b=some o)→Q (.ref (s.heap.objs.size+1)) { s with heap:=h' }) :
  wpAny (model prog w) A (call (.type "enumerate") [.ref S.ad]) Q E s:=by
 have hz:(s.heap.push S.obj).objs.size=s.heap.objs.size+1:=Heap.size_push ..
 have he:IsEnum ((s.heap.push S.obj).push { cls:=.type "enumerate",data:=.fields #[.none,.bool false,.ref s.heap.objs.size,rawInt 0,.none,.none] }) (s.heap.objs.size+1) s.heap.objs.size 0 .none:=by
  have:=Heap.get?_push_size (s.heap.push S.obj) (o:={ cls:=.type "enumerate",data:=.fields #[.none,.bool false,.ref s.heap.objs.size,rawInt 0,.none,.none] }) rfl
  rw [hz] at this;exact this
 have fin:(s.TypeIs (.ref 0) "x"→True):=fun _=>trivial
 have last:=q _ he (S.itAt (S.new (h:=s.heap)) fun o e=>Heap.get?_push_of_some _ e) fun b o e=>Heap.get?_push_of_some _ (Heap.get?_push_of_some _ e)
 cases S with
 | l a =>
  obtain ⟨⟨c,dct,dt,sl⟩,hl,hc,n,hd⟩:=p
  replace hc:c=.type "list":=hc
  replace hd:dt=.seq items n:=hd
  subst hc hd
  refine callType_new PySem.F.called_enumerate (by decide) (PySem.F.typeCall_enumerate_1 _) (PySem.F.newCall_enumerate_1 _) (fun obj=>PySem.F.args_object_init_2 obj _) PySem.F.entry_enumerate_new (Zls a items n dct sl (Src.obj (.l a)) rfl) ⟨hl,?_⟩
  show _∧_
  rw [hz]
  exact ⟨⟨_,he,rfl⟩,last⟩
 | t a =>
  obtain ⟨⟨c,dct,dt,sl⟩,hl,hc,n,hd⟩:=p
  replace hc:c=.type "tuple":=hc
  replace hd:dt=.seq items n:=hd
  subst hc hd
  refine callType_new PySem.F.called_enumerate (by decide) (PySem.F.typeCall_enumerate_1 _) (PySem.F.newCall_enumerate_1 _) (fun obj=>PySem.F.args_object_init_2 obj _) PySem.F.entry_enumerate_new (Zlm a items n dct sl) ⟨hl,?_⟩
  show _∧_
  rw [hz]
  exact ⟨⟨_,he,rfl⟩,last⟩
section
variable {e it:Addr} {fa:List Addr} {n k:Nat} {isA:Nat→Value→Prop} {sa:Nat→Heap→Prop} {old:Value}
theorem ZmL {Q:Option Value→Shared→Prop} (SA:ZaJ prog w it fa n isA sa) (he:IsEnum s.heap e it k old) (ha:sa k s.heap) (kn:k<n) (hne:e≠it) (hfe:e∉fa)
  (q:∀ x h',isA k x→IsEnumOut h' e it ((k:Int)+1) x s.heap.objs.size→sa (k+1) h'→h'.get? s.heap.objs.size=some { cls:=.type "tuple",data:=.seq #[.int k s.toks,x] } →
   (∀ b o,b≠e→b≠it→s.heap.get? b=some o→h'.get? b=some o)→Q (some (.ref s.heap.objs.size)) { s with heap:=h',toks:=s.toks+1 }) :
  wpAny (model prog w) A (pyNext (.ref e)) Q E s:=by
 obtain ⟨hp,g,d,tk,os⟩:=s
 have ty:Shared.TypeIs ⟨hp,g,d,tk,os⟩ (.ref e) "enumerate":=⟨_,he,rfl⟩
 unfold pyNext
 refine wpAny_bind (wpAny_attempt (wpAny_callSpecial?_slot (name:=Str.ofString "__next__") ty PySem.F.slot_enumerate_next (wpAny_call_entry PySem.F.slot_enumerate_next ty PySem.F.entry_enumerate_next ?_ (PySem.F.args_enumerate_next_1 _))))
 have fr:∀ {h h':Heap},sa (k+1) h→(∀ b o,b≠e→h.get? b=some o→h'.get? b=some o)→sa (k+1) h':=fun st kp=>SA.frame _ _ _ st fun b hb o x=>kp b o (by
  rcases hb with rfl | hb
  ·exact Ne.symm hne
  ·intro z;subst z;exact hfe hb) x
 show wpAny _ _ (field (.ref e) 2 >>= _) _ _ _
 refine wpAny_bind (wpAny_field he rfl (x:=.ref it) rfl ?_)
 refine wpAny_bind (SA.item _ _ _ k _ kn ha fun x h1 hx a1 s1=>?_)
 replace s1:Heap.SameBut it hp h1:=s1
 have e1:IsEnum h1 e it k old:=(s1.2 e hne).trans he
 show wpAny _ _ (field (.ref e) 3 >>= _) _ _ ⟨h1,g,d,tk,os⟩
 refine wpAny_bind (wpAny_field e1 rfl (x:=rawInt k) rfl ?_)
 show wpAny _ _ (field (.ref e) 4 >>= _) _ _ ⟨h1,g,d,tk,os⟩
 refine wpAny_bind (wpAny_field e1 rfl (x:=.none) rfl ?_)
 show wpAny _ _ (mkInt k >>= _) _ _ ⟨h1,g,d,tk,os⟩
 refine wpAny_bind (wpAny_mkInt ?_)
 show wpAny _ _ (setField (.ref e) 3 (rawInt ((k:Int)+1)) >>= _) _ _ ⟨h1,g,d,tk+1,os⟩
 refine wpAny_bind (wpAny_setField_rec e1 (by simp) fun h2 e2 s2=>?_)
 replace s2:Heap.SameBut e h1 h2:=s2
 replace e2:IsEnum h2 e it ((k:Int)+1) old:=e2
 show wpAny _ _ (setField (.ref e) 4 .none >>= _) _ _ ⟨h2,g,d,tk+1,os⟩
 refine wpAny_bind (wpAny_setField_rec e2 (by simp) fun h3 e3 s3=>?_)
 replace s3:Heap.SameBut e h2 h3:=s3
 replace e3:IsEnum h3 e it ((k:Int)+1) old:=e3
 show wpAny _ _ (newTuple [.int k tk,x] >>= _) _ _ ⟨h3,g,d,tk+1,os⟩
 refine wpAny_bind (wpAny_newTuple ?_)
 have sz:h3.objs.size=hp.objs.size:=by rw [s3.1,s2.1,s1.1]
 have el:e<hp.objs.size:=Heap.lt_size he
 have e4:IsEnum (h3.push { cls:=.type "tuple",data:=.seq #[.int k tk,x] }) e it ((k:Int)+1) old:=Heap.get?_push_of_some _ e3
 have t4:(h3.push { cls:=.type "tuple",data:=.seq #[.int k tk,x] }).get? hp.objs.size=some { cls:=.type "tuple",data:=.seq #[.int k tk,x] }:=by rw [← sz];exact Heap.get?_push_size _ rfl
 have k4:∀ b o,b≠e→b≠it→hp.get? b=some o→(h3.push { cls:=.type "tuple",data:=.seq #[.int k tk,x] }).get? b=some o:=fun b o he hi hb =>
  Heap.get?_push_of_some _ (s3.extBut b o he (s2.extBut b o he (s1.extBut b o hi hb)))
 have a4:sa (k+1) (h3.push { cls:=.type "tuple",data:=.seq #[.int k tk,x] }):=fr a1 fun b o hb z=>Heap.get?_push_of_some _ (s3.extBut b o hb (s2.extBut b o hb z))
 generalize (h3.push { cls:=.type "tuple",data:=.seq #[.int k tk,x] })=h4 at e4 t4 k4 a4 ⊢
 show wpAny _ _ (Builtin.SmallTypes.ownedTupleIsFree (.ref e) >>= _) _ _ ⟨h4,g,d,tk+1,os⟩
 rw [sz]
 refine wpAny_bind ?_
 unfold Builtin.SmallTypes.ownedTupleIsFree
 refine wpAny_bind (wpAny_field e4 rfl (x:=.none) rfl (wpAny_pure ?_))
 rw [if_pos rfl]
 refine wpAny_bind (wpAny_rule ?_)
 refine wpAny_bind (wpAny_field e4 rfl (x:=old) rfl ?_)
 refine wpAny_bind (wpAny_setField_rec e4 (by simp) fun h5 e5 s5=>?_)
 replace s5:Heap.SameBut e h4 h5:=s5
 replace e5:IsEnum h5 e it ((k:Int)+1) x:=e5
 show wpAny _ _ (Builtin.SmallTypes.ownedTupleHandOut (.ref e) (.ref hp.objs.size) >>= _) _ _ ⟨h5,g,d,tk+1,os⟩
 refine wpAny_bind ?_
 unfold Builtin.SmallTypes.ownedTupleHandOut
 refine wpAny_bind (wpAny_setField_rec e5 (by simp) fun h6 e6 s6=>?_)
 replace s6:Heap.SameBut e h5 h6:=s6
 replace e6:IsEnumOut h6 e it ((k:Int)+1) x hp.objs.size:=e6
 refine wpAny_setField_rec e6 (by simp) fun h7 e7 s7=>?_
 replace s7:Heap.SameBut e h6 h7:=s7
 replace e7:IsEnumOut h7 e it ((k:Int)+1) x hp.objs.size:=e7
 have up:∀ b o,b≠e→h4.get? b=some o→h7.get? b=some o:=fun b o hb z=>s7.extBut b o hb (s6.extBut b o hb (s5.extBut b o hb z))
 refine wpAny_bind (wpAny_letGo (wpAny_pure ⟨_,rfl,wpAny_pure (q x h7 hx e7 (fr a4 up) (up _ _ (Nat.ne_of_gt el) t4) fun b o he hi z=>up b o he (k4 b o he hi z))⟩))
theorem ZnB {Q:Option Value→Shared→Prop} (hh:A.handled=none) (SA:ZaJ prog w it fa n isA sa) (he:IsEnum s.heap e it k old) (ha:sa k s.heap) (kn:n≤k)
  (q:∀ h',Heap.ExtBut it s.heap h'→Q none { s with heap:=h' }):wpAny (model prog w) A (pyNext (.ref e)) Q E s:=by
 have ty:s.TypeIs (.ref e) "enumerate":=⟨_,he,rfl⟩
 unfold pyNext
 refine wpAny_bind (wpAny_attempt (wpAny_callSpecial?_slot (name:=Str.ofString "__next__") ty PySem.F.slot_enumerate_next (wpAny_call_entry PySem.F.slot_enumerate_next ty PySem.F.entry_enumerate_next ?_ (PySem.F.args_enumerate_next_1 _))))
 show wpAny _ _ (field (.ref e) 2 >>= _) _ _ _
 refine wpAny_bind (wpAny_field he rfl (x:=.ref it) rfl ?_)
 refine wpAny_bind (SA.fin _ _ _ k _ (by first | exact hh | simpa using hh) kn ha fun h' x e' hx=>?_)
 obtain ⟨o,ho,hc⟩:=hx
 exact wpAny_bind (wpAny_isInstance (T:="StopIteration") (b:=true) ⟨o,ho,hc⟩ isSubtype_stop (wpAny_pure (q _ e')))
theorem ZoT {elts:List Expr} {x1} {pos:Pos} {i:Int} {v:Value} {T:Addr} {Q:Unit→Shared→Prop} (hz:IsEnumOut s.heap e it i v T)
  (q:∀ h',IsEnum h' e it i v→Heap.SameBut e s.heap h'→Q () { s with heap:=h' }):wpAny (model prog w) A (letOwnedTupleGo (.Tuple elts x1 pos) (.ref e) (.ref T)) Q E s:=by
 unfold letOwnedTupleGo
 refine wpAny_bind (wpAny_load hz ?_)
 show wpAny _ _ (if (["enumerate","zip","dict_itemiterator","dict_reverseitemiterator","odict_iterator","itertools.zip_longest","itertools.pairwise"].contains "enumerate"&&(#[rawInt T,.bool false,.ref it,rawInt i,.none,v]:Array Value)[0]?==some (rawInt T))=true then _ else _) Q E s
 rw [if_pos (by simp)]
 refine wpAny_bind (wpAny_rule ?_)
 show wpAny _ _ (setField (.ref e) 0 .none) Q E s
 exact wpAny_setField_rec hz (by simp) fun h' z sb=>q h' z sb
end
end
def Ite (K:PySem.W.Frag) (S:Src):It :=
 ⟨fun i H=>∃ xs x,S.sq K H xs∧xs[i]?=some x,
  fun i H v H'=>∃ p x,v=.ref p∧H p=none∧H'=upd H p (.tup [.int i,x])∧(∀ xs,S.sq K H xs→xs[i]?=some x),
  fun i H=>∃ xs,S.sq K H xs∧xs.length≤i⟩
theorem Zl4 {P:Program} {w:World} {K:PySem.W.Frag} {elts:List Expr} {x1} {pos:Pos} (S:Src) (n:Nat) (h1:S.ad<n) :
  Zeh P w K (.Tuple elts x1 pos) (Ite K S) [n+1,n] (n+1) (fun i h=>(∃ old,IsEnum h (n+1) n i old)∧S.it h n i) where
 mem:=by simp
 obj:=fun i h ⟨⟨x,z⟩,c⟩ q hq=>by
  simp only [List.mem_cons,List.not_mem_nil,or_false] at hq
  rcases hq with rfl | rfl
  ·exact ⟨_,z,fun v e=>nomatch (show Data.fields _=Data.cell v from e)⟩
  ·exact S.itOb c
 keep:=fun i h h' ⟨⟨x,z⟩,c⟩ k=>⟨⟨x,k _ (by simp) _ z⟩,S.itAt c fun o e=>k _ (by simp) o e⟩
 item:=by
  intro X hP hw hK hc i pins s σ H E I hf ⟨⟨old,z⟩,c⟩ ⟨xs,x,hx,ex⟩
  subst hP hw hK
  obtain ⟨its,r1,o1,_⟩:=S.of I hx
  obtain ⟨u1,e1,ru1⟩:=r1.get ex
  have l1:=(List.getElem?_eq_some_iff.mp e1).1
  have hlt:n+1<s.heap.objs.size:=Heap.lt_size z
  have nea:S.ad≠(n+1:Nat):=fun e=>absurd (show @LT.lt Nat _ S.ad n from h1) (by rw [e];show ¬ @LT.lt Nat _ _ _;omega)
  refine ZmL (S.sub (P:=X.prog) (w:=X.w) its.toArray) z ⟨c,o1⟩ (by simpa using l1) (by (show @Ne Nat _ _;omega)) (fun z=>nea (List.mem_singleton.mp z).symm) fun x' h' hx' z' ⟨c',_⟩ new kp=>?_
  have hx1:x'=u1:=by simp [e1] at hx';exact hx'.symm
  subst hx1
  refine ⟨_,rfl,ZoT (s:={ s with heap:=h',toks:=s.toks+1 }) z' fun h2' z2 sb=>?_⟩
  have up:∀ q o,q≠n+1→h'.get? q=some o→h2'.get? q=some o:=fun q o hq e=>sb.extBut _ _ hq e
  have I1:Inv X pins σ (upd H s.heap.objs.size (.tup [.int i,x])) { s with heap:=h2' }:=by
   refine I.yielded hf (fun q o hq e=>up q o (fun z=>hq (by simp [z])) (kp q o (fun z=>hq (by simp [z])) (fun z=>hq (by simp [z])) e)) (Nat.le_refl _) ?_
   exact ⟨show 2≤sizeLine by decide,[.int i s.toks,x'],.cons ⟨_,rfl⟩ (.cons ru1 .nil),⟨_,up _ _ (by (show @Ne Nat _ _;omega)) new,rfl,_,rfl⟩⟩
  refine ⟨.ref s.heap.objs.size,_,I1.tok (s.toks+1),rfl,⟨_,x,rfl,I.hok.fresh (Nat.le_refl _),rfl,fun zs hz=>by rw [S.inj I hz hx];exact ex⟩,⟨⟨x',?_⟩,S.itAt c' fun o e=>up _ o (by (show @Ne Nat _ _;omega)) e⟩,fun q hq=>?_⟩
  ·have:((i+1:Nat):Int)=(i:Int)+1:=by omega
   show IsEnum h2' (n+1) n ((i+1:Nat):Int) x'
   rw [this]
   exact z2
  rw [Zs]
  ·exact (hf q hq).1
  ·simp only [List.mem_cons,List.not_mem_nil,or_false] at hq
   rcases hq with rfl | rfl<;>(show @Ne Nat _ _;omega)
 done:=by
  intro X hP hw hK hc i pins s σ H E I hf ⟨⟨old,z⟩,c⟩ ⟨xs,hx,hl⟩
  subst hP hw hK
  obtain ⟨its,r1,o1,_⟩:=S.of I hx
  have q1:=r1.length
  refine ZnB (I.ok.hd hc) (S.sub (P:=X.prog) (w:=X.w) its.toArray) z ⟨c,o1⟩ (by simp only [List.size_toArray];omega) fun h' kp=>⟨rfl,I.turnedL hf fun q o hq e=>kp q o (fun z=>hq (by simp [z])) e⟩
 self:=fun _ _ _ _ _ ⟨⟨_,z⟩,_⟩ q=>wpAny_pyIter_enum z q
theorem Zld:bootBuiltins "enumerate"=some (.type "enumerate"):=by decide +kernel
def Zaj:Nat→List D→List D
 | _,[]=>[]
 | k,d::ds=>.tup [.int k,d]::Zaj (k+1) ds
theorem Zcn:∀ (xs:List D) (k:Nat),(Zaj k xs).length=xs.length
 | [],_=>rfl
 | _::xs,k=>by simp [Zaj,Zcn xs]
theorem Zhq:∀ (xs:List D) (k i:Nat),(Zaj k xs)[i]?=(xs[i]?).map fun d=>D.tup [.int ((k+i:Nat):Int),d]
 | [],_,_=>by simp [Zaj]
 | x::xs,k,0=>by simp [Zaj]
 | x::xs,k,i+1=>by
  simp only [Zaj,List.getElem?_cons_succ,Zhq xs]
  rw [show k+1+i=k+(i+1) by omega]
@[simp] def ZbI (f:VE→Option D):VE→Option (List D):=fun ρ=>match (f ρ).bind Zan with
  | some xs=>some (Zaj 0 xs)
  | none=>none
theorem Zp0 {K:PySem.W.Frag} {M N:Fb} {H:Hp} {S:Src} {xs:List D} {us:List V} (h1:DenL K N H xs us) (q1:∀ N2 H2,Step M N N2 H H2→S.sq K H2 us):ZiV K M N H (Ite K S) (Zaj 0 xs):=fun N2 H2 St i=>by
 have s1:=q1 _ _ St
 have d1:=DenL.step St _ _ h1
 refine ⟨fun d he=>?_,fun he=>⟨us,s1,?_⟩⟩
 ·rw [Zhq] at he
  cases ex:xs[i]? with
  | none=>rw [ex] at he;cases he
  | some x =>
   rw [ex] at he;cases he
   obtain ⟨u,eu,du⟩:=d1.get ex
   refine ⟨⟨us,u,s1,eu⟩,fun z H3 ⟨p,u',e1,hp,e3,w1⟩=>?_⟩
   have:=w1 us s1;rw [eu] at this;cases this
   subst e1 e3
   refine ⟨Zgn hp,ZcJ hp (DenL.cons ?_ (DenL.cons du DenL.nil))⟩
   simp [Den]
 ·have l1:=h1.length
  rw [Zcn] at he
  omega
section
variable {X:Cx} {M:Fb} {H0:Hp} {f:VE→Option D} {a:Expr} {elts:List Expr} {p pos tpos:Pos}
theorem ZpT {x1} (hg:Gl X "enumerate") (hm:X.mg "enumerate"=none) (ha:PE X a (tQ X.K M H0 f)) (hs:starEach [a] X.env=[(false,eval a X.env)]:=by rfl) (hs3:starEach [] X.env=[]:=by rfl) :
  PI X (.Tuple elts x1 tpos) (.Call (.Name "enumerate" p) [a] [] pos) (tI X.K M H0 (ZbI f)):=by
 intro pins s σ H Q I ⟨ρ,ds,R,e,q⟩
 unfold ZbI at e
 split at e
 ·next xs ex =>
  cases e
  cases hf:f ρ with
  | none=>rw [hf] at ex;cases ex
  | some d1 =>
   rw [hf] at ex
   have PA2:=ZaO ha pa_nil (by rw [hs,hs3])
   refine Call_ (ZbR I hg hm Zld (PyProof.Rows.callWith_type1 (thn (PA2 pos pins s σ H (fun vs H2=>∃ S us,vs=[.ref (Src.ad S)]∧Same H H2∧DenL X.K (Nf M ρ σ) H2 xs us∧(∀ N2 H3,Step M (Nf M ρ σ) N2 H2 H3→S.sq X.K H3 us)) I ?_) fun us s1 ⟨vs,H1,I1,r1,q1⟩=>?_) hs rfl))
   ·refine ⟨ρ,d1,R,hf,fun v1 H1 z1 q1=>?_⟩
    obtain ⟨S,us,e1,dl1,k1⟩:=q1.src ex
    exact ⟨S,us,by rw [e1],z1,dl1,k1⟩
   ·obtain ⟨S,us',e1,z,dl1,k1⟩:=q1
    subst e1
    cases r1 with
    | cons r rr =>
     cases rr
     cases r
     obtain ⟨its,v1,o1,_⟩:=S.of I1 (k1 _ _ Step.refl)
     refine Zng o1 fun h' a1 a4 kp=>wpAny_pyIter_enum a1 ?_
     refine ⟨_,_,_,_,H1,rfl,I1.kept (t':=s1.toks) kp,Zl4 S s1.heap.objs.size (S.lt o1),⟨⟨_,a1⟩,a4⟩,fun b hb=>?_,q _ _ z (Zp0 dl1 k1)⟩
     have hl:s1.heap.objs.size≤b:=by
      simp only [List.mem_cons,List.not_mem_nil,or_false] at hb
      rcases hb with rfl | rfl<;>(show @LE.le Nat _ _ _;omega)
     exact I1.fpOk hl (I1.hok.fresh hl)
 ·cases e
theorem Zc3 {x1} (hg:Gl X "enumerate") (hm:X.mg "enumerate"=none) (ha:JE X a (tQ X.K M H0 f)) (hs:starEach [a] X.env=[(false,eval a X.env)]:=by rfl) (hs3:starEach [] X.env=[]:=by rfl) :
  JI X (.Tuple elts x1 tpos) (.Call (.Name "enumerate" p) [a] [] pos) (tI X.K M H0 (ZbI f)):=⟨ZpT hg hm ha.h hs hs3⟩
end
end L2
set_option Elab.async false
set_option linter.all false
set_option maxRecDepth 100000
namespace L2
open PySem PySem.Spec PyProof.Rows
abbrev T3:=KT×V×V
def ZaL:List T3→List V
 | []=>[]
 | t::r=>t.2.1::t.2.2::ZaL r
def ZaY:List T3→KT→Option V
 | [],_=>none
 | t::r,k=>if t.1=k then some t.2.2 else ZaY r k
def Zda:List T3→KT→V→List T3
 | [],_,_=>[]
 | t::r,k,v=>(if t.1=k then (t.1,t.2.1,v) else t)::Zda r k v
def ZbN (tr:List T3) (k:KT) (kv v:V):List T3:=if (ZaY tr k).isSome=true then Zda tr k v else tr++[(k,kv,v)]
theorem Zi4 (k:KT) (v:V):∀ tr:List T3,(Zda tr k v).map (·.1)=tr.map (·.1)
 | []=>rfl
 | t::r=>by
  simp only [Zda,List.map_cons,Zi4 k v r]
  split<;>rfl
theorem ZhA {k:KT}:∀ {tr:List T3},ZaY tr k=none→k∉tr.map (·.1)
 | [],_=>by simp
 | t::r,h=>by
  unfold ZaY at h
  split at h
  ·cases h
  ·next e =>
   simp only [List.map_cons,List.mem_cons,not_or]
   exact ⟨fun z=>e z.symm,ZhA h⟩
theorem Zde {tr:List T3} {k:KT} {kv v:V} (h:(tr.map (·.1)).Nodup):((ZbN tr k kv v).map (·.1)).Nodup:=by
 unfold ZbN
 split
 ·rw [Zi4];exact h
 ·next e =>
  rw [List.map_append,List.nodup_append]
  refine ⟨h,by simp,fun a ha b hb=>?_⟩
  have hn:ZaY tr k=none:=by
   cases hv:ZaY tr k with
   | none=>rfl
   | some x=>rw [hv] at e;exact absurd rfl e
  simp only [List.map_cons,List.map_nil,List.mem_singleton] at hb
  subst hb
  rintro rfl
  exact ZhA hn ha
theorem Zjn (k:KT) (v:V):∀ tr:List T3,(Zda tr k v).length=tr.length
 | []=>rfl
 | t::r=>by simp [Zda,Zjn k v r]
theorem Zij (tr:List T3) (k:KT) (kv v:V):(ZbN tr k kv v).length≤tr.length+1:=by
 unfold ZbN
 split
 ·rw [Zjn];omega
 ·simp
theorem Zc1 {a:At} {u:Value} (h:RelV (atV a) u):Zfw a u=true:=by
 cases a with
 | non=>cases h;rfl
 | int i=>obtain ⟨t,rfl⟩:=h;exact Zon i t
 | str x=>obtain ⟨t,rfl⟩:=h;exact Zos x t
theorem Zqe {a:At} {u:Value} (h:Zfw a u=true):RelV (atV a) u:=by
 rcases Za8 h with ⟨rfl,rfl⟩ | ⟨i,t,rfl,rfl⟩ | ⟨x,t,rfl,rfl⟩
 ·rfl
 ·exact ⟨t,rfl⟩
 ·exact ⟨t,rfl⟩
abbrev RA:List T3→List (At×Value)→Prop:=Paired fun t u=>t.1=.at u.1∧t.2.1=atV u.1∧RelV t.2.2 u.2
theorem Zhr {P:Program} {w:World}:∀ {tr:List T3} {es:List DictEntry},Ze0 w (tr.map (·.1)) (ZaL tr) es→(∀ t∈tr,∃ a,t.1=KT.at a) →
  ∃ us,RA tr us∧Pairs (ZV P w) es us∧∀ e∈es,∃ k,(ZV P w).is k e.key=true∧e.hash=(ZV P w).hash k
 | [],es,h,_=>by
  obtain ⟨_,rfl⟩:=h
  exact ⟨[],.nil,.nil,fun _ z=>nomatch z⟩
 | t::r,es,h,ha=>by
  obtain ⟨kv,v,q,e,es',e1,e2,h1,h2,h3,h4,h5⟩:=h
  obtain ⟨a,ea⟩:=ha t List.mem_cons_self
  simp only [ZaL,List.cons.injEq] at e1
  obtain ⟨e1,e1',e1''⟩:=e1
  subst e1 e1' e2 e1''
  dsimp only at h3 h4
  rw [ea] at h3 h4
  obtain ⟨us,r1,r2,r3⟩:=Zhr (P:=P) h5 fun t ht=>ha t (List.mem_cons_of_mem _ ht)
  have h4:t.2.1=atV a:=h4
  rw [h4] at h1
  refine ⟨(a,e.val)::us,.cons ⟨ea,h4,h2⟩ r1,.cons (Zc1 h1) rfl r2,fun e' he=>?_⟩
  rcases List.mem_cons.mp he with rfl | he
  ·exact ⟨a,Zc1 h1,h3⟩
  ·exact r3 e' he
theorem ZhU {P:Program} {w:World}:∀ {tr:List T3} {us:List (At×Value)} {es:List DictEntry},RA tr us→Pairs (ZV P w) es us→(∀ e∈es,∃ k,(ZV P w).is k e.key=true∧e.hash=(ZV P w).hash k) →
  Ze0 w (tr.map (·.1)) (ZaL tr) es
 | _,_,_,.nil,.nil,_=>⟨rfl,rfl⟩
 | t::r,(a,u)::us,e::es,.cons ⟨h1,h2,h3⟩ hr,.cons p1 p2 pr,hk=>by
  refine ⟨t.2.1,t.2.2,ZaL r,e,es,rfl,rfl,?_,?_,?_,?_,ZhU hr pr fun e he=>hk e (List.mem_cons_of_mem _ he)⟩
  ·rw [h2];exact Zqe p1
  ·rw [p2];exact h3
  ·obtain ⟨k,q1,q2⟩:=hk e List.mem_cons_self
   have:k=a:=(ZV P w).inj _ _ _ q1 p1
   subst this
   dsimp only;rw [h1];exact q2
  ·dsimp only;rw [h1];exact h2
theorem RA.val:∀ {tr:List T3} {us:List (At×Value)},RA tr us→∀ a,RelO (ZaY tr (.at a)) (valueAt us a)
 | _,_,.nil,_=>True.intro
 | t::r,u::us,.cons ⟨h1,h2,h3⟩ hr,a=>by
  have ih:=RA.val hr a
  unfold ZaY valueAt
  rw [h1,List.find?_cons]
  by_cases e:u.1=a
  ·rw [if_pos (by rw [e])];simp only [e,decide_true];exact h3
  ·rw [if_neg (fun z=>e (KT.at.inj z))];simp only [e,decide_false];exact ih
theorem RelO.isS:∀ {o:Option V} {u:Option Value},RelO o u→o.isSome=u.isSome
 | some _,some _,_=>rfl
 | none,none,_=>rfl
 | some _,none,h=>h.elim
 | none,some _,h=>h.elim
theorem RA.rep {a:At} {v:V} {u:Value} (rv:RelV v u):∀ {tr:List T3} {us:List (At×Value)},RA tr us→RA (Zda tr (.at a) v) (us.map fun kv=>if kv.1=a then (kv.1,u) else kv)
 | _,_,.nil=>.nil
 | t::r,w::us,.cons ⟨h1,h2,h3⟩ hr=>by
  have ih:=RA.rep (a:=a) rv hr
  unfold Zda
  rw [List.map_cons]
  refine .cons ?_ ih
  by_cases e:w.1=a
  ·rw [if_pos (by rw [h1,e]),if_pos e];exact ⟨h1,h2,rv⟩
  ·rw [if_neg (fun z=>e (KT.at.inj (h1.symm.trans z))),if_neg e];exact ⟨h1,h2,h3⟩
theorem Paired.snoc' {α β:Type} {F:α→β→Prop} {x:α} {y:β} (h:F x y):∀ {l:List α} {m:List β},Paired F l m→Paired F (l++[x]) (m++[y])
 | _,_,.nil=>.cons h .nil
 | _,_,.cons r t=>.cons r (Paired.snoc' h t)
theorem ZoN {us:List (At×Value)} {a:At}:(us.any fun kv=>decide (kv.1=a))=(valueAt us a).isSome:=by
 unfold valueAt
 rw [Option.isSome_map]
 induction us with
 | nil=>rfl
 | cons x r ih =>
  rw [List.any_cons,List.find?_cons]
  cases decide (x.1=a) with
  | true=>rfl
  | false=>simpa using ih
theorem RA.put {tr:List T3} {us:List (At×Value)} {a:At} {v:V} {u:Value} (h:RA tr us) (rv:RelV v u):RA (ZbN tr (.at a) (atV a) v) (stored us a u):=by
 unfold ZbN stored
 rw [ZoN,(h.val a).isS]
 by_cases e:(valueAt us a).isSome=true
 ·rw [if_pos e,if_pos e];exact h.rep rv
 ·rw [if_neg e,if_neg e];exact Paired.snoc' ⟨rfl,rfl,rv⟩ h
theorem RA.fst:∀ {tr:List T3} {us:List (At×Value)},RA tr us→tr.map (·.1)=(us.map (·.1)).map KT.at
 | _,_,.nil=>rfl
 | t::r,u::us,.cons ⟨h1,_,_⟩ hr=>by rw [List.map_cons,List.map_cons,List.map_cons,h1,RA.fst hr]
abbrev RT:List T3→List (List At×Addr×Value)→Prop:=Paired fun t u=>t.1=.tup u.1∧t.2.1=.ref u.2.1∧RelV t.2.2 u.2.2
theorem Zju {P:Program} {w:World}:∀ {tr:List T3} {es:List DictEntry},Ze0 w (tr.map (·.1)) (ZaL tr) es→(∀ t∈tr,∃ l,t.1=KT.tup l) →
  ∃ us,RT tr us∧es=us.map (entryOfKey (tupleKind (ZV P w)))
 | [],es,h,_=>by
  obtain ⟨_,rfl⟩:=h
  exact ⟨[],.nil,rfl⟩
 | t::r,es,h,ha=>by
  obtain ⟨kv,v,q,e,es',e1,e2,h1,h2,h3,h4,h5⟩:=h
  obtain ⟨l,el⟩:=ha t List.mem_cons_self
  simp only [ZaL,List.cons.injEq] at e1
  obtain ⟨e1,e1',e1''⟩:=e1
  subst e1 e1' e2 e1''
  dsimp only at h3 h4
  rw [el] at h3 h4
  obtain ⟨us,r1,r2⟩:=Zju (P:=P) h5 fun t ht=>ha t (List.mem_cons_of_mem _ ht)
  obtain ⟨p,ep⟩:=(h4:∃ p,t.2.1=.ref p)
  rw [ep] at h1
  obtain ⟨hh,hk,hv⟩:=e
  cases (h1:hk=Value.ref p)
  refine ⟨(l,p,hv)::us,.cons ⟨el,ep,h2⟩ r1,?_⟩
  rw [List.map_cons,← r2]
  have:hh=(KT.tup l).hash w:=h3
  rw [this];rfl
theorem ZiA {P:Program} {w:World}:∀ {tr:List T3} {us:List (List At×Addr×Value)},RT tr us→Ze0 w (tr.map (·.1)) (ZaL tr) (us.map (entryOfKey (tupleKind (ZV P w))))
 | _,_,.nil=>⟨rfl,rfl⟩
 | t::r,u::us,.cons ⟨h1,h2,h3⟩ hr=>by
  refine ⟨t.2.1,t.2.2,ZaL r,_,_,rfl,rfl,?_,h3,?_,?_,ZiA hr⟩
  ·rw [h2];rfl
  ·dsimp only;rw [h1];rfl
  ·dsimp only;rw [h1];exact ⟨_,h2⟩
theorem RT.val:∀ {tr:List T3} {us:List (List At×Addr×Value)},RT tr us→∀ l,RelO (ZaY tr (.tup l)) ((atKey us l).map (·.2))
 | _,_,.nil,_=>True.intro
 | t::r,u::us,.cons ⟨h1,h2,h3⟩ hr,l=>by
  have ih:=RT.val hr l
  unfold ZaY atKey
  rw [h1,List.find?_cons]
  by_cases e:u.1=l
  ·rw [if_pos (by rw [e])];simp only [e,decide_true];exact h3
  ·rw [if_neg (fun z=>e (KT.tup.inj z))];simp only [e,decide_false];exact ih
theorem RT.rep {l:List At} {v:V} {u:Value} (rv:RelV v u):∀ {tr:List T3} {us:List (List At×Addr×Value)},RT tr us→RT (Zda tr (.tup l) v) (us.map (putAt l u))
 | _,_,.nil=>.nil
 | t::r,w::us,.cons ⟨h1,h2,h3⟩ hr=>by
  have ih:=RT.rep (l:=l) rv hr
  unfold Zda
  rw [List.map_cons]
  refine .cons ?_ ih
  unfold putAt
  by_cases e:w.1=l
  ·rw [if_pos (by rw [h1,e]),if_pos e];exact ⟨h1,h2,rv⟩
  ·rw [if_neg (fun z=>e (KT.tup.inj (h1.symm.trans z))),if_neg e];exact ⟨h1,h2,h3⟩
theorem RT.put {tr:List T3} {us:List (List At×Addr×Value)} {l:List At} {p:Addr} {v:V} {u:Value} (h:RT tr us) (rv:RelV v u):RT (ZbN tr (.tup l) (.ref p) v) (storedH us l p u):=by
 unfold ZbN storedH
 have e0:=(h.val l).isS
 rw [Option.isSome_map] at e0
 rw [e0]
 by_cases e:(atKey us l).isSome=true
 ·rw [if_pos e,if_pos e];exact h.rep rv
 ·rw [if_neg e,if_neg e];exact Paired.snoc' ⟨rfl,rfl,rv⟩ h
theorem RT.fst:∀ {tr:List T3} {us:List (List At×Addr×Value)},RT tr us→tr.map (·.1)=(us.map (·.1)).map KT.tup
 | _,_,.nil=>rfl
 | t::r,u::us,.cons ⟨h1,_,_⟩ hr=>by rw [List.map_cons,List.map_cons,List.map_cons,h1,RT.fst hr]
theorem ZfF {α β:Type} {f:α→β} (hf:∀ a b,f a=f b→a=b):∀ {l:List α},(l.map f).Nodup→l.Nodup
 | [],_=>List.nodup_nil
 | a::l,h=>by
  rw [List.map_cons,List.nodup_cons] at h
  rw [List.nodup_cons]
  exact ⟨fun z=>h.1 (List.mem_map.mpr ⟨a,z,rfl⟩),ZfF hf h.2⟩
def ZbL (K:PySem.W.Frag) (H:Hp):KT→V→Prop
 | .at a,v=>v=atV a
 | .tup l,v=>∃ p,v=.ref p∧SqT K H p (l.map atV)
theorem Zis {P:Program} {w:World}:∀ {ks:List At} {us:List Value},Vals (ks.map atV) us→ItemsAre (ZV P w) ks us
 | [],_,r=>by rw [List.map_nil] at r;cases r;exact .nil
 | k::ks,_,r=>by
  rw [List.map_cons] at r
  cases r with
  | cons h t=>exact .cons (Zc1 h) (Zis t)
def ZeV:KT→List T3→Prop
 | .at _,tr=>∀ t∈tr,∃ a,t.1=KT.at a
 | .tup _,tr=>∀ t∈tr,∃ l,t.1=KT.tup l
def IsDc (K:PySem.W.Frag) (H:Hp) (a:Addr) (tr:List T3):Prop:=Rd H a (.dct (tr.map (·.1)) (ZaL tr))∧∀ t∈tr,ZbL K H t.1 t.2.1
section
variable {X:Cx} {pins:List (Addr×Obj)} {σ:St} {H:Hp} {s:Shared} {a p:Addr} {y v:V} {u r:Value} {o:Option V} {A:Around} {E:Value→Shared→Prop} {tr:List T3} {k:KT}
theorem Zdr {l:List At} (I:Inv X pins σ H s) (h:SqT X.K H p (l.map atV)):(tupleKind (ZV X.prog X.w)).is s.heap l p:=by
 obtain ⟨its,r,⟨o,h1,h2,n,h3⟩,_⟩:=I.tuple h
 exact ⟨o,its.toArray,n,h1,h2,h3,by simpa using Zis r⟩
theorem ZfC (I:Inv X pins σ H s) (h:IsDc X.K H a tr) (hk:∀ t∈tr,∃ a,t.1=KT.at a):tr.length≤sizeLine∧(a==sysModules)=false∧(tr.map (·.1)).Nodup∧∃ us,RA tr us∧s.heap.DictOf (ZV X.prog X.w) a us:=by
 obtain ⟨z,hs,nd,o,es,ep,e1,e2,e3,e4⟩:=h.1.ok I.hok
 obtain ⟨us,r1,r2,r3⟩:=Zhr (P:=X.prog) e4 hk
 refine ⟨by simpa using z,hs,nd,us,r1,o,es,ep,e1,e2,e3,fun e he=>r3 e (by simpa using he),r2,?_⟩
 rw [r1.fst] at nd
 exact ZfF (fun _ _ z=>KT.at.inj z) nd
theorem Zes (I:Inv X pins σ H s) (h:IsDc X.K H a tr) (hk:∀ t∈tr,∃ l,t.1=KT.tup l):tr.length≤sizeLine∧(a==sysModules)=false∧(tr.map (·.1)).Nodup∧∃ us,RT tr us∧s.heap.DictOfH (tupleKind (ZV X.prog X.w)) a us:=by
 obtain ⟨z,hs,nd,o,es,ep,e1,e2,e3,e4⟩:=h.1.ok I.hok
 obtain ⟨us,r1,r2⟩:=Zju (P:=X.prog) e4 hk
 have nd':=nd
 rw [r1.fst] at nd'
 refine ⟨by simpa using z,hs,nd,us,r1,o,es,ep,e1,e2,e3,r2,fun x hx=>?_,ZfF (fun _ _ z=>KT.tup.inj z) nd'⟩
 have all:∀ {l:List T3} {m:List (List At×Addr×Value)},RT l m→(∀ t∈l,ZbL X.K H t.1 t.2.1)→∀ x∈m,(tupleKind (ZV X.prog X.w)).is s.heap x.1 x.2.1:=by
  intro l m q
  induction q with
  | nil=>intro _ x hx;exact nomatch hx
  | @cons t u ts us hq tl ih =>
   intro hl x hx
   rcases List.mem_cons.mp hx with e | hx
   ·subst e
    have:=hl t List.mem_cons_self
    rw [hq.1,hq.2.1] at this
    obtain ⟨p,ep,sq⟩:=this
    cases ep
    exact Zdr I sq
   ·exact ih (fun t ht=>hl t (List.mem_cons_of_mem _ ht)) x hx
 exact all r1 h.2 x hx
theorem RelO.to:∀ {v:V} {o:Option Value},RelO (some v) o→∃ w,o=some w∧RelV v w
 | _,some w,h=>⟨w,rfl,h⟩
 | _,none,h=>h.elim
theorem ZkW {Q:Value→Shared→Prop} (hu:A.units+1<cLine) (I:Inv X pins σ H s) (h:IsDc X.K H a tr) (hk:ZeV k tr) (ky:ZbL X.K H k y) (ry:RelV y u) (hv:ZaY tr k=some v) (q:∀ w' s',Inv X pins σ H s'→RelV v w'→Q w' s') :
  wpAny (model X.prog X.w) A (getItem (.ref a) u) Q E s:=by
 cases k with
 | «at» b =>
  cases ky
  obtain ⟨z,hd,nd,us,rel,dd⟩:=ZfC I h hk
  have h1:=rel.val b
  rw [hv] at h1
  obtain ⟨w',hw,rw'⟩:=h1.to
  exact wpAny_getItem_of (knd:=ZV X.prog X.w) (Zc1 ry) dd.mapOf hw (q w' _ (I.tok _) rw')
 | tup l =>
  obtain ⟨p,ep,sq⟩:=ky
  subst ep
  cases (show u=Value.ref p from ry)
  obtain ⟨z,hd,nd,us,rel,dd⟩:=Zes I h hk
  have h1:=rel.val l
  rw [hv] at h1
  obtain ⟨w',hw,rw'⟩:=h1.to
  obtain ⟨p',hp,hp2⟩:=Option.map_eq_some_iff.mp hw
  refine wpAny_getItem_heap (tupleKind_room_in1 hu) (Zdr I sq) dd hp ?_
  rw [hp2]
  exact q w' _ (I.tok _) rw'
theorem Zsn {Q:Value→Shared→Prop} (hu:A.units+1<cLine) (I:Inv X pins σ H s) (h:IsDc X.K H a tr) (hk:ZeV k tr) (ky:ZbL X.K H k y) (ry:RelV y u) (q:∀ s',Inv X pins σ H s'→Q (.bool (ZaY tr k).isSome) s') :
  wpAny (model X.prog X.w) A (compareOp .In u (.ref a)) Q E s:=by
 cases k with
 | «at» b =>
  cases ky
  obtain ⟨z,hd,nd,us,rel,dd⟩:=ZfC I h hk
  refine wpAny_in_of (knd:=ZV X.prog X.w) (Zc1 ry) hd dd.mapOf ?_
  rw [← (rel.val b).isS]
  exact q _ (I.tok _)
 | tup l =>
  obtain ⟨p,ep,sq⟩:=ky
  subst ep
  cases (show u=Value.ref p from ry)
  obtain ⟨z,hd,nd,us,rel,dd⟩:=Zes I h hk
  refine wpAny_in_heap (tupleKind_room_in1 hu) (Zdr I sq) hd dd ?_
  have e0:=(rel.val l).isS
  rw [Option.isSome_map] at e0
  rw [← e0]
  exact q _ (I.tok _)
theorem Ze6 {h':Heap} {t':Nat} {ob:HO} (I:Inv X pins σ H s) (mu:Mut (H a)) (hs:Heap.SameBut a s.heap h') (he:∃ q,h'.get? a=some q) (new:ObjOk X.prog X.w (upd H a ob) h' a ob) :
  Inv X pins σ (upd H a ob) { s with heap:=h',toks:=t' } :=
 I.write (x:=a) (e:=a) mu (.inl rfl) (fun b q hb z=>(hs.2 b hb).trans z) he new
def dcO (tr:List T3):HO:=.dct (tr.map (·.1)) (ZaL tr)
theorem Zm7 {P:Program} {w:World} {H':Hp} {h':Heap} {us:List (At×Value)} (z:tr.length≤sizeLine) (hd:(a==sysModules)=false) (nd:(tr.map (·.1)).Nodup) (rel:RA tr us) (dd:h'.DictOf (ZV P w) a us):ObjOk P w H' h' a (dcO tr):=by
 obtain ⟨o,es,ep,e1,e2,e3,e4,e5,e6⟩:=dd
 exact ⟨by simpa using z,hd,nd,o,es,ep,e1,e2,e3,ZhU rel e5 fun e he=>e4 e (by simpa using he)⟩
theorem Zkn {P:Program} {w:World} {H':Hp} {h':Heap} {us:List (List At×Addr×Value)} (z:tr.length≤sizeLine) (hd:(a==sysModules)=false) (nd:(tr.map (·.1)).Nodup) (rel:RT tr us) (dd:h'.DictOfH (tupleKind (ZV P w)) a us):ObjOk P w H' h' a (dcO tr):=by
 obtain ⟨o,es,ep,e1,e2,e3,e4,e5,e6⟩:=dd
 refine ⟨by simpa using z,hd,nd,o,es,ep,e1,e2,e3,?_⟩
 rw [e4]
 exact ZiA rel
theorem Zla {Q:Unit→Shared→Prop} (hu:A.units+1<cLine) (I:Inv X pins σ H s) (e:H a=some (dcO tr)) (hkeys:∀ t∈tr,ZbL X.K H t.1 t.2.1) (hk:ZeV k tr) (ky:ZbL X.K H k y) (ry:RelV y u) (rv:RelV v r) (hl:tr.length<sizeLine)
  (q:∀ s',Inv X pins σ (upd H a (dcO (ZbN tr k y v))) s'→Q () s'):wpAny (model X.prog X.w) A (setItem (.ref a) u r) Q E s:=by
 have h:IsDc X.K H a tr:=⟨.inl e,hkeys⟩
 have hl':(ZbN tr k y v).length≤sizeLine:=by have:=Zij tr k y v;omega
 cases k with
 | «at» b =>
  cases ky
  obtain ⟨z,hd,nd,us,rel,dd⟩:=ZfC I h hk
  have hz:us.length≤sizeLine:=by rw [← Paired.length rel];exact z
  refine wpAny_setItem_pairs (knd:=ZV X.prog X.w) (hsz:=hz) (Zc1 ry) dd fun h' dd' hs=>q _ ?_
  have he:∃ q,h'.get? a=some q:=let ⟨q,_,_,hq,_⟩:=dd';⟨q,hq⟩
  exact Ze6 I (by rw [e];exact True.intro) hs he (Zm7 hl' hd (Zde nd) (rel.put rv) dd')
 | tup l =>
  obtain ⟨p,ep,sq⟩:=ky
  subst ep
  cases (show u=Value.ref p from ry)
  obtain ⟨z,hd,nd,us,rel,dd⟩:=Zes I h hk
  have hz:us.length≤sizeLine:=by rw [← Paired.length rel];exact z
  refine wpAny_setItem_heap (hsz:=hz) (tupleKind_room_in1 hu) (Zdr I sq) dd fun h' dd' hs=>q _ ?_
  have he:∃ q,h'.get? a=some q:=let ⟨q,_,_,hq,_⟩:=dd';⟨q,hq⟩
  exact Ze6 I (by rw [e];exact True.intro) hs he (Zkn hl' hd (Zde nd) (rel.put rv) dd')
end
end L2
set_option Elab.async false
set_option linter.all false
set_option maxRecDepth 100000
namespace PySem
section
variable {prog:Program} {w:World} {K:Type} [DecidableEq K] {knd:HeapKind prog w K} {A:Around} {E:Value→Shared→Prop} {s:Shared}
end
end PySem
namespace L2
open PySem PySem.Spec PyProof.Rows
def ZoJ (K:PySem.W.Frag):R2:=fun x y H Q=>∃ a tr k v,x=.ref a∧IsDc K H a tr∧ZeV k tr∧ZbL K H k y∧ZaY tr k=some v∧Q v H
def Zow (K:PySem.W.Frag) (neg:Bool):R2:=fun x y H Q=>∃ a tr k,y=.ref a∧IsDc K H a tr∧ZeV k tr∧ZbL K H k x∧Q (.bl (neg != (ZaY tr k).isSome)) H
def Zr6 (K:PySem.W.Frag):Zlz:=fun o i v H Q=>∃ a tr k,o=.ref a∧H a=some (dcO tr)∧(∀ t∈tr,ZbL K H t.1 t.2.1)∧ZeV k tr∧ZbL K H k i∧tr.length<sizeLine∧Q (upd H a (dcO (ZbN tr k i v)))
theorem IsDc.typeIs {X:Cx} {pins:List (Addr×Obj)} {σ:St} {H:Hp} {s:Shared} {a:Addr} {tr:List T3} (I:Inv X pins σ H s) (h:IsDc X.K H a tr):s.TypeIs (.ref a) "dict":=by
 obtain ⟨_,_,_,o,_,_,e,c,_⟩:=h.1.ok I.hok
 exact ⟨o,e,c.1⟩
section
variable {X:Cx}
theorem ZrN (hu:X.A.units+64<cLine):IxR X (ZoJ X.K):=by
 intro value slice pins s σ H x y v u Q I rx ry h hs
 obtain ⟨a,tr,k,z,rfl,hd,hk,ky,hv,q⟩:=h
 cases rx
 have hT:=hd.typeIs I
 unfold subscriptTail
 refine wpAny_bind ?_
 rw [getitemInPython_of_ne hT.not_modules]
 refine wpAny_bind (wpAny_specialOf hT PySem.F.slot_dict_getitem.lookup ?_)
 have fin:wpAny (model X.prog X.w) X.A (subscripted slice false (.ref a) u) (fun r s₃=>wpAny (model X.prog X.w) X.A (letTemporaryGo value (.ref a) r >>= fun _=>pure r) (EP X pins σ Q) X.xe s₃) X.xe s:=by
  rw [hs]
  exact wpAny_operating (ZkW (by omega) I hd hk ky ry hv fun w' s' I' rw'=>wpAny_bind (wpAny_letTemporaryGo (wpAny_pure ⟨z,H,I',rw',q⟩)))
 first
  | exact wpAny_pure (wpAny_bind fin)
  | exact wpAny_bind (wpAny_pure (wpAny_bind fin))
  | exact wpAny_bind fin
theorem ZkU (hu:X.A.units+64<cLine):OpR X (compareOp .In) (Zow X.K false):=by
 intro pins s σ H x y v u Q I rx ry h
 obtain ⟨a,tr,k,rfl,hd,hk,ky,q⟩:=h
 cases ry
 exact Zsn (by omega) I hd hk ky rx fun s' I'=>⟨.bl (ZaY tr k).isSome,H,I',rfl,by simpa using q⟩
theorem Zpk (hu:X.A.units+64<cLine):ZrQ X (Zr6 X.K):=by
 intro pins s σ H o i v ov iv u Q I ro ri rv h
 obtain ⟨a,tr,k,rfl,e,hks,hk,ky,hl,q⟩:=h
 cases ro
 exact Zla (by omega) I e hks hk ky ri rv hl fun s' I'=>⟨_,I',q⟩
theorem Inv.big (I:Inv X pins σ H s):sysModules<s.heap.objs.size:=by
 have h:mainGlobals<s.heap.objs.size:=(I.mod.glob.keeps I.bk).lt
 exact Nat.lt_trans (by decide) h
theorem pe_dnew {pos:Pos}:PE X (.Dict [] [] pos) (fun _ H Q=>∀ p,H p=none→Q (.ref p) (upd H p (dcO []))):=fun pins s σ H Q I h =>
 wpAny_Dict_empty ⟨.ref s.heap.objs.size,_,I.laid (a:=s.heap.objs.size) (o:=dcO []) (t':=s.toks) (fun _ _ q=>Heap.get?_push_of_some _ q) (Nat.le_refl _)
  ⟨Nat.zero_le _,beq_eq_false_iff_ne.mpr (Ne.symm (Nat.ne_of_lt I.big)),List.nodup_nil,_,#[],0,Heap.get?_push_size _ rfl,⟨rfl,rfl,rfl⟩,rfl,rfl,rfl⟩,rfl,h _ (I.hok.fresh (Nat.le_refl _))⟩
end
def okA:D→Option At
 | .non=>some .non
 | .int i=>some (.int i)
 | .str x=>some (.str x)
 | _=>none
def Ze1:List D→Option (List At)
 | []=>some []
 | d::r=>(okA d).bind fun a=>(Ze1 r).map (a::·)
def okK:D→Option KT
 | .tup l=>(Ze1 l).map KT.tup
 | d=>(okA d).map KT.at
def aD:At→D
 | .non=>.non
 | .int i=>.int i
 | .str x=>.str x
def kD:KT→D
 | .at a=>aD a
 | .tup l=>.tup (l.map aD)
theorem ZkA {d:D} {a:At} (h:okA d=some a):d=aD a:=by
 unfold okA at h
 split at h<;>cases h<;>rfl
theorem ZjF:∀ {l:List D} {as:List At},Ze1 l=some as→l=as.map aD
 | [],_,h=>by cases h;rfl
 | d::r,as,h=>by
  unfold Ze1 at h
  cases h1:okA d with
  | none=>rw [h1] at h;cases h
  | some a =>
   rw [h1] at h
   cases h2:Ze1 r with
   | none=>rw [h2] at h;cases h
   | some bs=>rw [h2] at h;cases h;rw [List.map_cons,← ZkA h1,← ZjF h2]
theorem Zdp {d:D} {k:KT} (h:okK d=some k):d=kD k:=by
 unfold okK at h
 split at h
 ·next l =>
  cases h1:Ze1 l with
  | none=>rw [h1] at h;cases h
  | some as=>rw [h1] at h;cases h;rw [ZjF h1];rfl
 ·cases h1:okA d with
  | none=>rw [h1] at h;cases h
  | some a=>rw [h1] at h;cases h;rw [ZkA h1];rfl
theorem ZqV (a:At):okA (aD a)=some a:=by cases a<;>rfl
theorem Zip:∀ (l:List At),Ze1 (l.map aD)=some l
 | []=>rfl
 | a::l=>by rw [List.map_cons];unfold Ze1;rw [ZqV,Zip l];rfl
@[simp] theorem Zir (k:KT):okK (kD k)=some k:=by
  cases k with
  | «at» a=>cases a<;>rfl
  | tup l=>show (Ze1 (l.map aD)).map KT.tup=_;rw [Zip];rfl
@[simp] theorem ZtR:okK .non=some (.at .non):=rfl
@[simp] theorem ZtZ (i:Int):okK (.int i)=some (.at (.int i)):=rfl
@[simp] theorem ZtQ (x:Str):okK (.str x)=some (.at (.str x)):=rfl
theorem Zpw (a:At):ZnG (aD a)=a:=by cases a<;>rfl
theorem ZoL (k:KT):Znw (kD k)=k:=by
 cases k with
 | «at» a=>cases a<;>rfl
 | tup l =>
  unfold kD Znw
  simp only [List.map_map,KT.tup.injEq]
  induction l with
  | nil=>rfl
  | cons a l ih=>rw [List.map_cons,ih];simp [Zpw]
abbrev KDs:=List (KT×D)
def ZI:KDs→List D
 | []=>[]
 | p::r=>kD p.1::p.2::ZI r
def unf:List D→Option KDs
 | []=>some []
 | k::v::r=>(okK k).bind fun kt=>(unf r).map ((kt,v)::·)
 | _=>none
@[simp] theorem ZeP:∀ kvs:KDs,unf (ZI kvs)=some kvs
  | []=>rfl
  | p::r=>by unfold ZI unf;rw [Zir,ZeP r];rfl
@[simp] theorem ZtW:unf []=some []:=rfl
theorem ZcL:∀ {xs:List D} {kvs:KDs},unf xs=some kvs→xs=ZI kvs
 | [],_,h=>by cases h;rfl
 | [_],_,h=>by cases h
 | k::v::r,kvs,h=>by
  unfold unf at h
  cases h1:okK k with
  | none=>rw [h1] at h;cases h
  | some kt =>
   rw [h1] at h
   cases h2:unf r with
   | none=>rw [h2] at h;cases h
   | some q=>rw [h2] at h;cases h;unfold ZI;rw [← Zdp h1,← ZcL h2]
theorem Zgu:∀ kvs:KDs,Zff (ZI kvs)=kvs.map (·.1)
 | []=>rfl
 | p::r=>by unfold ZI Zff;rw [ZoL,Zgu r];rfl
def ZO:KDs→KT→Option D
 | [],_=>none
 | t::r,k=>if t.1=k then some t.2 else ZO r k
def Zb6:KDs→KT→D→KDs
 | [],_,_=>[]
 | t::r,k,v=>(if t.1=k then (t.1,v) else t)::Zb6 r k v
def Zav (kvs:KDs) (k:KT) (v:D):KDs:=if (ZO kvs k).isSome=true then Zb6 kvs k v else kvs++[(k,v)]
def ZdH:KT→Bool
 | .at _=>true
 | _=>false
def Zbs (k:KT) (kvs:KDs):Bool:=kvs.all fun p=>ZdH p.1==ZdH k
section
variable {K:PySem.W.Frag} {N:Fb} {H:Hp}
abbrev PD (K:PySem.W.Frag) (N:Fb) (H:Hp):KDs→List T3→Prop:=Paired fun p t=>p.1=t.1∧Den K N H (kD p.1) t.2.1∧Den K N H p.2 t.2.2
theorem Zm4 {a:At} {v:V} (h:Den K N H (aD a) v):v=atV a:=by cases a<;>simpa only [aD,Den,atV] using h
theorem ZkS:∀ {l:List At} {vs:List V},DenL K N H (l.map aD) vs→vs=l.map atV
 | [],_,h=>by simpa only [List.map_nil,DenL] using h
 | a::l,vs,h=>by
  simp only [List.map_cons,DenL] at h
  obtain ⟨v,r,e,h1,h2⟩:=h
  rw [e,Zm4 h1,ZkS h2];rfl
theorem Zdq {k:KT} {v:V} (h:Den K N H (kD k) v):ZbL K H k v:=by
 cases k with
 | «at» a=>exact Zm4 h
 | tup l =>
  simp only [kD,Den] at h
  obtain ⟨p,vs,e,sq,hl⟩:=h
  rw [ZkS hl] at sq
  exact ⟨p,e,sq⟩
theorem ZdA {k:KT} {v:V} (h:DenP K N H (kD k) v):Den K N H (kD k) v:=by
 cases k with
 | «at» a=>cases a<;>exact h
 | tup l=>exact h
theorem Zib:∀ {kvs:KDs} {vs:List V},DenL K N H (ZI kvs) vs→∃ tr,vs=ZaL tr∧PD K N H kvs tr
 | [],vs,h=>⟨[],by simpa only [ZI,DenL,ZaL] using h,.nil⟩
 | p::r,vs,h=>by
  simp only [ZI,DenL] at h
  obtain ⟨v,t,e,h1,v',t',e',h2,h3⟩:=h
  obtain ⟨tr,e2,q⟩:=Zib h3
  exact ⟨(p.1,v,v')::tr,by rw [e,e',e2];rfl,.cons ⟨rfl,h1,h2⟩ q⟩
theorem PD.flat:∀ {kvs:KDs} {tr:List T3},PD K N H kvs tr→DenL K N H (ZI kvs) (ZaL tr)
 | _,_,.nil=>DenL.nil
 | _,_,.cons ⟨_,h1,h2⟩ t=>DenL.cons h1 (DenL.cons h2 (PD.flat t))
theorem PD.fst:∀ {kvs:KDs} {tr:List T3},PD K N H kvs tr→kvs.map (·.1)=tr.map (·.1)
 | _,_,.nil=>rfl
 | _,_,.cons ⟨h1,_,_⟩ t=>by rw [List.map_cons,List.map_cons,h1,PD.fst t]
theorem PD.keys:∀ {kvs:KDs} {tr:List T3},PD K N H kvs tr→∀ t∈tr,ZbL K H t.1 t.2.1
 | _,_,.nil,_,h=>nomatch h
 | _,_,.cons ⟨h1,h2,_⟩ t,x,hx=>by
  rcases List.mem_cons.mp hx with rfl | hx
  ·rw [← h1];exact Zdq h2
  ·exact PD.keys t x hx
def RelD (K:PySem.W.Frag) (N:Fb) (H:Hp):Option D→Option V→Prop
 | some d,some v=>Den K N H d v
 | none,none=>True
 | _,_=>False
theorem PD.val:∀ {kvs:KDs} {tr:List T3},PD K N H kvs tr→∀ k,RelD K N H (ZO kvs k) (ZaY tr k)
 | _,_,.nil,_=>True.intro
 | p::kvs,t::tr,.cons ⟨h1,_,h2⟩ r,k=>by
  have ih:=PD.val r k
  unfold ZO ZaY
  rw [h1]
  split
  ·exact h2
  ·exact ih
theorem RelD.isS:∀ {o:Option D} {u:Option V},RelD K N H o u→o.isSome=u.isSome
 | some _,some _,_=>rfl
 | none,none,_=>rfl
 | some _,none,h=>h.elim
 | none,some _,h=>h.elim
theorem PD.rep {k:KT} {d:D} {v:V} (hd:Den K N H d v):∀ {kvs:KDs} {tr:List T3},PD K N H kvs tr→PD K N H (Zb6 kvs k d) (Zda tr k v)
 | _,_,.nil=>.nil
 | p::kvs,t::tr,.cons ⟨h1,h2,h3⟩ r=>by
  have ih:=PD.rep (k:=k) hd r
  unfold Zb6 Zda
  rw [h1]
  refine .cons ?_ ih
  split
  ·exact ⟨rfl,h1 ▸ h2,hd⟩
  ·exact ⟨h1,h2,h3⟩
theorem PD.put {kvs:KDs} {tr:List T3} {k:KT} {d:D} {kv v:V} (h:PD K N H kvs tr) (hk:Den K N H (kD k) kv) (hd:Den K N H d v):PD K N H (Zav kvs k d) (ZbN tr k kv v):=by
 unfold Zav ZbN
 rw [(h.val k).isS]
 split
 ·exact h.rep hd
 ·exact Paired.snoc' ⟨rfl,hk,hd⟩ h
theorem PD.hom {k:KT}:∀ {kvs:KDs} {tr:List T3},PD K N H kvs tr→Zbs k kvs=true→ZeV k tr
 | _,_,.nil,_=>by cases k<;>exact fun _ h=>nomatch h
 | p::kvs,t::tr,.cons ⟨h1,_,_⟩ r,e=>by
  simp only [Zbs,List.all_cons,Bool.and_eq_true] at e
  have ih:=PD.hom (k:=k) r e.2
  have e1:=e.1
  rw [h1] at e1
  cases k with
  | «at» a =>
   intro x hx
   rcases List.mem_cons.mp hx with rfl | hx
   ·cases hx:x.1 with
    | «at» b=>exact ⟨b,rfl⟩
    | tup l=>rw [hx] at e1;cases e1
   ·exact ih x hx
  | tup l =>
   intro x hx
   rcases List.mem_cons.mp hx with rfl | hx
   ·cases hx:x.1 with
    | «at» b=>rw [hx] at e1;cases e1
    | tup l=>exact ⟨l,rfl⟩
   ·exact ih x hx
theorem ZgR {a:Addr} {kvs:KDs} {vs:List V} (h:Rd H a (.dct (Zff (ZI kvs)) vs)) (hd:DenL K N H (ZI kvs) vs):∃ tr,IsDc K H a tr∧PD K N H kvs tr:=by
 obtain ⟨tr,e,p⟩:=Zib hd
 subst e
 rw [Zgu,p.fst] at h
 exact ⟨tr,⟨h,p.keys⟩,p⟩
theorem Zf1 {kvs:KDs} {tr:List T3} (p:PD K N H kvs tr):CO true (ZI kvs) (ZaL tr)=dcO tr:=by
 unfold CO dcO
 dsimp only
 rw [Zgu,p.fst]
end
def Za4:D→D→Option D
 | .lst xs true,y=>(unf xs).bind fun kvs=>(okK y).bind fun k=>if Zbs k kvs then ZO kvs k else none
 | _,_=>none
@[simp] theorem ZgA (kvs:KDs) (y:D):Za4 (.lst (ZI kvs) true) y=(okK y).bind fun k=>if Zbs k kvs then ZO kvs k else none:=by simp [Za4]
@[simp] theorem Ztf (y:D):Za4 (.lst [] true) y=(okK y).bind fun k=>none:=by simp [Za4,ZO]
def Zb8 (neg:Bool):D→D→Option D
 | y,.lst xs true=>(unf xs).bind fun kvs=>(okK y).bind fun k=>if Zbs k kvs then some (.bl (neg != (ZO kvs k).isSome)) else none
 | _,_=>none
@[simp] theorem ZhC (neg:Bool) (kvs:KDs) (y:D):Zb8 neg y (.lst (ZI kvs) true)=(okK y).bind fun k=>if Zbs k kvs then some (.bl (neg != (ZO kvs k).isSome)) else none:=by simp [Zb8]
@[simp] theorem ZtI (neg:Bool) (y:D):Zb8 neg y (.lst [] true)=(okK y).bind fun k=>some (.bl neg):=by simp [Zb8,ZO,Zbs]
section
variable {X:Cx} {K:PySem.W.Frag} {M:Fb} {H0:Hp} {e a b:Expr} {f g:VE→Option D} {pos:Pos}
theorem Zsk:R2D K (ZoJ K) Za4:=by
 intro N H x y d1 d2 d Q nh h1 h2 e q
 unfold Za4 at e
 split at e
 ·next xs =>
  cases hu:unf xs with
  | none=>rw [hu] at e;cases e
  | some kvs =>
   rw [hu] at e
   cases hk:okK d2 with
   | none=>rw [hk] at e;cases e
   | some k =>
    rw [hk] at e
    have e:(if Zbs k kvs then ZO kvs k else none)=some d:=e
    split at e
    ·next hh =>
     rw [ZcL hu] at h1
     obtain ⟨p,vs,ep,r,hd⟩:=h1
     obtain ⟨tr,dc,pd⟩:=ZgR r hd
     rw [Zdp hk] at h2
     have hv:=pd.val k
     rw [e] at hv
     cases hw:ZaY tr k with
     | none=>rw [hw] at hv;exact hv.elim
     | some w=>rw [hw] at hv;exact ⟨p,tr,k,w,ep,dc,pd.hom hh,Zdq (ZdA h2),hw,q w H (Same.refl H) hv⟩
    ·cases e
 ·cases e
theorem ZmF {neg:Bool}:R2D K (Zow K neg) (Zb8 neg):=by
 intro N H x y d1 d2 d Q nh h1 h2 e q
 unfold Zb8 at e
 split at e
 ·next xs =>
  cases hu:unf xs with
  | none=>rw [hu] at e;cases e
  | some kvs =>
   rw [hu] at e
   cases hk:okK d1 with
   | none=>rw [hk] at e;cases e
   | some k =>
    rw [hk] at e
    have e:(if Zbs k kvs then some (D.bl (neg != (ZO kvs k).isSome)) else none)=some d:=e
    split at e
    ·next hh =>
     cases e
     rw [ZcL hu] at h2
     obtain ⟨p,vs,ep,r,hd⟩:=h2
     obtain ⟨tr,dc,pd⟩:=ZgR r hd
     rw [Zdp hk] at h1
     refine ⟨p,tr,k,ep,dc,pd.hom hh,Zdq (ZdA h1),?_⟩
     rw [← (pd.val k).isS]
     exact q _ H (Same.refl H) Zc2
    ·cases e
 ·cases e
theorem Zr3 (hu:X.A.units+64<cLine) (ha:PE X a (tP X.K M H0 f)) (hb:PE X b (tP X.K M H0 g)) (hs:Zds b):PE X (.Subscript a b pos) (tD X.K M H0 (Ze Za4 f g)):=Zoy (ZrN hu) Zsk ha hb hs
theorem Zdy (hu:X.A.units+64<cLine) (ha:JE X a (tP X.K M H0 f)) (hb:JE X b (tP X.K M H0 g)) (hs:Zds b):JE X (.Subscript a b pos) (tD X.K M H0 (Ze Za4 f g)):=⟨Zr3 hu ha.h hb.h hs⟩
theorem Zrq (hu:X.A.units+64<cLine) (ha:PE X a (tP X.K M H0 f)) (hb:PE X b (tP X.K M H0 g)) (hm:behindInMarks .In b=false:=by with_unfolding_all rfl):PE X (.Compare a [.In] [b] pos) (tD X.K M H0 (Ze (Zb8 false) f g)):=ZlZ (ZkU hu) ZmF ha hb hm
theorem Znj (hu:X.A.units+64<cLine) (ha:JE X a (tP X.K M H0 f)) (hb:JE X b (tP X.K M H0 g)) (hm:behindInMarks .In b=false:=by with_unfolding_all rfl):JE X (.Compare a [.In] [b] pos) (tD X.K M H0 (Ze (Zb8 false) f g)):=⟨Zrq hu ha.h hb.h hm⟩
theorem Zpv (hu:X.A.units+64<cLine) (ha:PE X a (tP X.K M H0 f)) (hb:PE X b (tP X.K M H0 g)) (hm:behindInMarks .In b=false:=by with_unfolding_all rfl):PT X (.Compare a [.In] [b] pos) (tB' X.K M H0 fun ρ=>asB (Ze (Zb8 false) f g ρ)):=Zft (ZkU hu) ZmF ha hb hm
theorem Zmk (hu:X.A.units+64<cLine) (ha:JE X a (tP X.K M H0 f)) (hb:JE X b (tP X.K M H0 g)) (hm:behindInMarks .In b=false:=by with_unfolding_all rfl):JT X (.Compare a [.In] [b] pos) (tB' X.K M H0 fun ρ=>asB (Ze (Zb8 false) f g ρ)):=⟨Zpv hu ha.h hb.h hm⟩
def ZoC:List D→Option D
 | [.lst xs true]=>(unf xs).bind fun kvs=>if kvs.all (fun p=>ZdH p.1) then some (.int kvs.length) else none
 | _=>none
@[simp] theorem Zsy (kvs:KDs):ZoC [.lst (ZI kvs) true]=if kvs.all (fun p=>ZdH p.1) then some (.int kvs.length) else none:=by simp [ZoC]
theorem Zrm {pos:Pos}:PE X (.Dict [] [] pos) (tFb true K M H0 fun _=>some []):=pe_dnew.mono fun σ H Q ⟨ρ,xs,R,e,q⟩ p hp=>by
 cases e
 exact ZfL (xs:=[]) (vs:=[]) (fl:=true) (Same.refl H) hp DenL.nil q
theorem ZiE {pos:Pos}:JE X (.Dict [] [] pos) (tFb true K M H0 fun _=>some []):=⟨Zrm⟩
def Zfb (i:Nat) (ok ov:Option D) (ρ:VE):Res:=match rdG ρ i,ok,ov with
 | some xs,some y,some d=>match unf xs,okK y with
  | some kvs,some k=>if Zbs k kvs&&decide (kvs.length<sizeLine) then .next (ρ.set i (.own (ZI (Zav kvs k d)) true)) else .fail
  | _,_=>.fail
 | _,_,_=>.fail
theorem Zpy {i:Nat} {x:Str} {vpos tpos pos:Pos} {ei e:Expr} {fi f:VE→Option D} (hu:X.A.units+64<cLine) (hi:PE X ei (tP X.K M H0 fi)) (he:PE X e (tD X.K M H0 f)) (hN:X.N[i]?=some x:=by rfl)
  (hv:Vis X.env.scope x:=by first | exact Or.inl rfl | exact Or.inr (Or.inl rfl) | exact Or.inr (Or.inr rfl)) (hd:(x==("__debug__":Str))=false:=by decide) (hcd:(x==("__classdict__":Str))=false:=by decide)
  (ha:∀ v,assign (.Subscript (.Name x vpos) ei tpos) X.env v=(do
   let ov ← holding [v] (eval (.Name x vpos) X.env)
   let iv ← holding [v,ov] (eval ei X.env)
   standAt tpos
   holding [v,ov,iv] (setItem ov iv v)
   release [v,ov,iv] []):=by intro _;rfl)
  (hs:swapsWithSole [.Subscript (.Name x vpos) ei tpos] e pos.line X.env=pure false:=by rfl) (hw:swappedStores [.Subscript (.Name x vpos) ei tpos] e X.env=pure none:=by rfl)
  (h1:(assignEach [.Subscript (.Name x vpos) ei tpos] X.env).map (·.2)=[assign (.Subscript (.Name x vpos) ei tpos) X.env]:=by rfl) :
  PS X (.Assign [.Subscript (.Name x vpos) ei tpos] e pos) (tS X.K M H0 fun ρ=>Zfb i (fi ρ) (f ρ) ρ):=(Zqc he (ZqL (Zc4 hN hv hd hcd) hi (Zpk hu) ha) hs hw h1).mono fun D' σ H ⟨ρ,R,q⟩=>by
 try dsimp only at q
 unfold Zfb at q
 split at q
 ·next xs y d hr hfi hf =>
  split at q
  ·next kvs k hun hk =>
   split at q
   ·next hh =>
    rw [Bool.and_eq_true,decide_eq_true_eq] at hh
    refine ⟨ρ,d,R,hf,fun v H1 s1 hv=>?_⟩
    have hi':=Ziv hr
    have R1:=R.st s1
    have ex:=ZcL hun
    subst ex
    obtain ⟨a,vs,e1,z1,z2,z3,z4⟩:=R1.slot i _ hi'
    have ha:=join_some e1
    refine ⟨.ref a,ha,ρ,y,R1,hfi,fun w H2 s2 hw=>?_⟩
    have R2:=R1.st s2
    obtain ⟨tr,dc,pd⟩:=ZgR (K:=X.K) (.inl (s2 _ _ z3)) (z4.same s2)
    obtain ⟨tr',e',pd'⟩:=Zib (z4.same s2)
    subst e'
    rw [Zdp hk] at hw
    have pp:=pd'.put (k:=k) (ZdA hw) (hv.same s2)
    obtain ⟨R3,S3⟩:=R2.chg (fl2:=true) (ys:=ZI (Zav kvs k d)) (ws:=ZaL (ZbN tr' k w v)) hi' ha pp.flat
    rw [Zf1 pp] at R3 S3
    refine ⟨a,tr',k,rfl,?_,pd'.keys,pd'.hom hh.1,Zdq (ZdA hw),by rw [← Paired.length pd'];exact hh.2,q _ _ R3 ((Step.of_same (s1.trans s2)).trans S3)⟩
    rw [← Zf1 pd']
    exact s2 _ _ z3
   ·exact False.elim q
  ·exact False.elim q
 ·exact False.elim q
theorem ZhD {i:Nat} {x:Str} {vpos tpos pos:Pos} {ei e:Expr} {fi f:VE→Option D} (hu:X.A.units+64<cLine) (hi:JE X ei (tP X.K M H0 fi)) (he:JE X e (tD X.K M H0 f)) (hN:X.N[i]?=some x:=by rfl)
  (hv:Vis X.env.scope x:=by first | exact Or.inl rfl | exact Or.inr (Or.inl rfl) | exact Or.inr (Or.inr rfl)) (hd:(x==("__debug__":Str))=false:=by decide) (hcd:(x==("__classdict__":Str))=false:=by decide)
  (ha:∀ v,assign (.Subscript (.Name x vpos) ei tpos) X.env v=(do
   let ov ← holding [v] (eval (.Name x vpos) X.env)
   let iv ← holding [v,ov] (eval ei X.env)
   standAt tpos
   holding [v,ov,iv] (setItem ov iv v)
   release [v,ov,iv] []):=by intro _;rfl)
  (hs:swapsWithSole [.Subscript (.Name x vpos) ei tpos] e pos.line X.env=pure false:=by rfl) (hw:swappedStores [.Subscript (.Name x vpos) ei tpos] e X.env=pure none:=by rfl)
  (h1:(assignEach [.Subscript (.Name x vpos) ei tpos] X.env).map (·.2)=[assign (.Subscript (.Name x vpos) ei tpos) X.env]:=by rfl) :
  JS X (.Assign [.Subscript (.Name x vpos) ei tpos] e pos) (tS X.K M H0 fun ρ=>Zfb i (fi ρ) (f ρ) ρ):=⟨Zpy hu hi.h he.h hN hv hd hcd ha hs hw h1⟩
end
end L2
set_option Elab.async false
set_option linter.all false
set_option maxRecDepth 100000
namespace L2
open PySem PySem.Spec PyProof.Rows
theorem Zi3 (k:KT) (v:D) (k':KT):∀ kvs:KDs,ZO (Zb6 kvs k v) k'=if k=k' then (ZO kvs k').map (fun _=>v) else ZO kvs k'
 | []=>by simp [Zb6,ZO]
 | t::r=>by
  have ih:=Zi3 k v k' r
  unfold Zb6 ZO
  by_cases h1:t.1=k
  ·subst h1
   rw [if_pos rfl]
   by_cases h2:t.1=k'
   ·subst h2;simp
   ·simp only [if_neg h2,ih]
  ·rw [if_neg h1]
   by_cases h2:t.1=k'
   ·subst h2
    rw [if_pos rfl,if_neg (fun z=>h1 z.symm),if_pos rfl]
   ·rw [if_neg h2,ih,if_neg h2]
theorem Ziu (k:KT):∀ (a b:KDs),ZO (a++b) k=match ZO a k with | some v=>some v | none=>ZO b k
 | [],b=>by simp [ZO]
 | t::r,b=>by
  have ih:=Ziu k r b
  rw [List.cons_append]
  have e1:ZO (t::(r++b)) k=if t.1=k then some t.2 else ZO (r++b) k:=rfl
  have e2:ZO (t::r) k=if t.1=k then some t.2 else ZO r k:=rfl
  rw [e1,e2]
  by_cases h:t.1=k
  ·rw [if_pos h,if_pos h]
  ·rw [if_neg h,if_neg h];exact ih
theorem Zgm (kvs:KDs) (k:KT) (v:D) (k':KT):ZO (Zav kvs k v) k'=if k=k' then some v else ZO kvs k':=by
 unfold Zav
 by_cases h:(ZO kvs k).isSome=true
 ·rw [if_pos h,Zi3]
  by_cases e:k=k'
  ·subst e
   rw [if_pos rfl,if_pos rfl]
   cases hv:ZO kvs k with
   | none=>rw [hv] at h;cases h
   | some w=>rfl
  ·rw [if_neg e,if_neg e]
 ·rw [if_neg h,Ziu]
  have hn:ZO kvs k=none:=by
   cases hv:ZO kvs k with
   | none=>rfl
   | some w=>rw [hv] at h;exact absurd rfl h
  by_cases e:k=k'
  ·subst e;rw [hn];simp [ZO]
  ·rw [if_neg e]
   cases ZO kvs k' with
   | none=>simp [ZO,e]
   | some w=>rfl
theorem Zjr {k:KT} {v:D} {p:KT×D}:∀ {kvs:KDs},p∈Zb6 kvs k v→p∈kvs∨p=(k,v)
 | [],h=>nomatch h
 | t::r,h=>by
  unfold Zb6 at h
  rcases List.mem_cons.mp h with hp | h
  ·by_cases e:t.1=k
   ·rw [if_pos e,e] at hp;exact .inr hp
   ·rw [if_neg e] at hp;subst hp;exact .inl List.mem_cons_self
  ·rcases Zjr h with h | h
   ·exact .inl (List.mem_cons_of_mem _ h)
   ·exact .inr h
theorem ZnE {k:KT} {v:D} {p:KT×D} {kvs:KDs} (h:p∈Zav kvs k v):p∈kvs∨p=(k,v):=by
 unfold Zav at h
 split at h
 ·exact Zjr h
 ·rcases List.mem_append.mp h with h | h
  ·exact .inl h
  ·exact .inr (by simpa using h)
theorem ZiC (k:KT) (v:D):∀ kvs:KDs,(Zb6 kvs k v).length=kvs.length
 | []=>rfl
 | t::r=>by simp [Zb6,ZiC k v r]
theorem ZjB (kvs:KDs) (k:KT) (v:D):(Zav kvs k v).length≤kvs.length+1:=by
 unfold Zav
 split
 ·rw [ZiC];omega
 ·simp
theorem Zg5 {kvs:KDs} (a:At) (h:∀ p∈kvs,ZdH p.1=true):Zbs (.at a) kvs=true:=by
 unfold Zbs
 rw [List.all_eq_true]
 intro p hp
 rw [h p hp];rfl
theorem ZnY {kvs:KDs} (l:List At) (h:∀ p∈kvs,ZdH p.1=false):Zbs (.tup l) kvs=true:=by
 unfold Zbs
 rw [List.all_eq_true]
 intro p hp
 rw [h p hp];rfl
end L2
set_option Elab.async false
set_option linter.all false
set_option maxRecDepth 100000
namespace L2
open PySem PySem.Spec PyProof.Rows
section
variable {X:Cx} {K:PySem.W.Frag} {M:Fb} {H0:Hp} {e a b ek ev:Expr} {f g fk fv:VE→Option D} {fx:VE→Option (D×VE)} {pos:Pos}
def ZtM:D→D→Option D
 | .bl i,.bl j=>some (.bl (decide (i=j)))
 | _,_=>none
@[simp] theorem Zt9 (i j:Bool):ZtM (.bl i) (.bl j)=some (.bl (decide (i=j))):=rfl
end
end L2
set_option Elab.async false
set_option linter.all false
set_option maxRecDepth 100000
namespace L2
open PySem PySem.Spec PyProof.Rows
section
variable {X:Cx} {K:PySem.W.Frag}
def Zne:V→List V→Hp→VK→Prop:=fun x vs H Q=>∃ z i,x=.str z∧vs=[.int i]∧PadOk i=true∧Q (.str (Txt.zfill z i)) H
theorem Znn:MtR X "str.zfill" Zne:=by
 intro pins s σ H x vs v us Q I rx rv h
 obtain ⟨z,i,rfl,rfl,hp,q⟩:=h
 obtain ⟨t,rfl⟩:=rx
 obtain ⟨u,rfl,t',rfl⟩:=ZaK rv
 exact SC.zfill hp fun t'' k=>⟨.str _,H,I.tok _,⟨_,rfl⟩,q⟩
noncomputable def ZfT (z:Str):List D→Option D
 | [.int i]=>gd (0≤i∧i<1000000) (some (.str (Txt.zfill z i)))
 | _=>none
theorem Zqj {i:Int} (h0:0≤i) (h1:i<1000000):PadOk i=true:=by
 unfold PadOk fitsSsize Builtin.Str.tooLong
 rw [Bool.and_eq_true,Bool.not_eq_true',Bool.not_eq_true',Bool.or_eq_false_iff]
 refine ⟨⟨decide_eq_false (by omega),decide_eq_false (by omega)⟩,decide_eq_false ?_⟩
 have h2:i.toNat<1000000:=by omega
 have h3:(1000000:Nat)≤sizeLine:=by decide
 omega
theorem Zoi:RmD K Zne ZfT:=by
 intro N H z vs ds d Q nh h e q
 unfold ZfT at e
 split at e
 ·next i =>
  obtain ⟨hi,e⟩:=ZiW e
  cases e
  obtain ⟨v,rfl,hv⟩:=Paired.one' h
  exact ⟨z,i,rfl,by rw [hv.int],Zqj hi.1 hi.2,q _ H (Same.refl H) Zeq⟩
 ·cases e
@[simp] theorem ZmC (z:Str) (i:Int) (h0:0≤i) (h1:i<1000000):ZfT z [.int i]=some (.str (Txt.zfill z i)):=by
  unfold ZfT
  exact Zfu ⟨h0,h1⟩
@[simp] def Zsl (z:Str):List D→Option D
  | [.str y]=>some (.bl (Txt.startswith z y))
  | _=>none
end
end L2
set_option Elab.async false
set_option linter.all false
set_option maxRecDepth 100000
namespace L2
open PySem PySem.Spec PyProof.Rows
@[simp] def ZuX (b:D→VE→Option VE) (o:Option D) (ρ:VE):Res:=match o with
  | some d=>(match b d ρ with
   | some ρ'=>.next ρ'
   | none=>.fail)
  | none=>.fail
section
variable {X:Cx} {K:PySem.W.Frag} {M:Fb} {H0:Hp} {e tg:Expr} {f:VE→Option D} {b:D→VE→Option VE} {pos:Pos}
end
end L2
set_option Elab.async false
set_option linter.all false
set_option maxRecDepth 100000
namespace L2
open PySem PySem.Spec PyProof.Rows PySem.W
section
variable (lt:Nat→Nat→Bool)
structure WO (n:Nat):Prop where
 asym:∀ a b,a<n→b<n→lt a b=true→lt b a=false
 neg:∀ a b c,a<n→b<n→c<n→lt a c=true→lt a b=true∨lt b c=true
def le' (a b:Nat):Prop:=lt b a=false
end
section
variable {lt:Nat→Nat→Bool} {n:Nat} (W:WO lt n)
include W
theorem WO.refl {a:Nat} (ha:a<n):le' lt a a:=by
 unfold le'
 cases h:lt a a with
 | false=>rfl
 | true=>have:=W.asym a a ha ha h;rw [h] at this;cases this
theorem WO.trans {a b c:Nat} (ha:a<n) (hb:b<n) (hc:c<n) (h1:le' lt a b) (h2:le' lt b c):le' lt a c:=by
 unfold le' at *
 cases h:lt c a with
 | false=>rfl
 | true =>
  rcases W.neg c b a hc hb ha h with z | z
  ·rw [z] at h2;cases h2
  ·rw [z] at h1;cases h1
theorem WO.of_lt {a b:Nat} (ha:a<n) (hb:b<n) (h:lt a b=true):le' lt a b:=W.asym a b ha hb h
end
abbrev pvA (p:Array Nat) (i:Nat):Nat:=p.getD i 0
def Zel (lt:Nat→Nat→Bool) (p:Array Nat) (k:Nat):Prop:=∀ i j,i≤j→j<k→le' lt (pvA p i) (pvA p j)
def Zd5 (lt:Nat→Nat→Bool) (p:Array Nat) (k:Nat):Prop:=∀ i j,i≤j→j<k→le' lt (pvA p j) (pvA p i)
def Eqv (lt:Nat→Nat→Bool) (a b:Nat):Prop:=le' lt a b∧le' lt b a
def Bs (n:Nat) (p:Array Nat):Prop:=p.Perm (List.range n).toArray
theorem Bs.size {n:Nat} {p:Array Nat} (h:Bs n p):p.size=n:=by have:=h.size_eq;simpa using this
theorem Bs.lt {n:Nat} {p:Array Nat} (h:Bs n p) {i:Nat} (hi:i<n):pvA p i<n:=by
 have hs:=h.size
 have hi':i<p.size:=by omega
 have hm:p[i]∈p:=Array.getElem_mem hi'
 have:=(h.mem_iff (a:=p[i])).mp hm
 simp at this
 unfold pvA
 rw [Array.getD_eq_getD_getElem?,Array.getElem?_eq_getElem hi']
 exact this
theorem ZfJ {p q:Array Nat} {i j:Nat} (h:p[i]?=q[j]?):pvA p i=pvA q j:=by
 unfold pvA
 rw [Array.getD_eq_getD_getElem?,Array.getD_eq_getD_getElem?,h]
theorem Zer {p:Array Nat} {i j:Nat} (hj:j≤p.size) (k:Nat):pvA (kas_rev p i j) k=if i≤k∧k<j then pvA p (i+j-1-k) else pvA p k:=by
 have:=getElem?_mirror_all (xs:=p) (i:=i) (j:=j) hj k
 by_cases h:i≤k∧k<j
 ·rw [if_pos h] at this ⊢;exact ZfJ this
 ·rw [if_neg h] at this ⊢;exact ZfJ this
theorem Zj3 {p:Array Nat} {k d:Nat} (hk:k<p.size) (hd:d≤k) (i:Nat):pvA (bubble p k d) i=if i=k-d then pvA p k else if k-d<i∧i≤k then pvA p (i-1) else pvA p i:=by
 have:=getElem?_bubble (xs:=p) (src:=k) hk d hd i
 by_cases h:i=k-d
 ·rw [if_pos h] at this ⊢;exact ZfJ this
 ·rw [if_neg h] at this ⊢
  by_cases h2:k-d<i∧i≤k
  ·rw [if_pos h2] at this ⊢;exact ZfJ this
  ·rw [if_neg h2] at this ⊢;exact ZfJ this
theorem Bs.rev {n:Nat} {p:Array Nat} (h:Bs n p) (i j:Nat):Bs n (kas_rev p i j):=(mirror_perm p i j _).trans h
theorem Bs.bub {n:Nat} {p:Array Nat} (h:Bs n p) (k d:Nat):Bs n (bubble p k d):=(bubble_perm p k d).trans h
section
variable {lt:Nat→Nat→Bool} {n:Nat} (W:WO lt n) {cmp:Nat→Nat→(Bool→Shared→Prop)→Shared→Prop} {s:Shared} (hc:∀ i j C,i<n→j<n→C (lt i j) s→cmp i j C s)
include W hc
theorem ZiT {p:Array Nat} (hp:Bs n p):∀ (f m:Nat) {Q:Nat→Shared→Prop},1≤m→m+f≤n→Zel lt p m→(∀ m',m≤m'→m'≤m+f→Zel lt p m'→(m'=m+f∨lt (pvA p m') (pvA p (m'-1))=true)→Q m' s)→KasT.kasWp cmp (kas_asc p f m) Q s
 | 0,m,Q,h1,h2,h3,q=>by
  rw [kas_asc,KasT.kasWp]
  exact q m (Nat.le_refl _) (by omega) h3 (.inl rfl)
 | f+1,m,Q,h1,h2,h3,q=>by
  rw [kas_asc,KasT.kasWp]
  refine hc _ _ _ (hp.lt (by omega)) (hp.lt (by omega)) ?_
  cases hb:lt (pvA p m) (pvA p (m-1)) with
  | true =>
   simp only [if_true,KasT.kasWp]
   exact q m (Nat.le_refl _) (by omega) h3 (.inr hb)
  | false =>
   simp only [Bool.false_eq_true,if_false]
   refine ZiT hp f (m+1) (by omega) (by omega) (fun i j hij hj=>?_) fun m' a b c d=>q m' (by omega) (by omega) c (by rcases d with d | d;exact .inl (by omega);exact .inr d)
   rcases Nat.lt_or_ge j m with z | z
   ·exact h3 i j hij z
   ·have e:j=m:=by omega
    subst e
    rcases Nat.lt_or_ge i j with y | y
    ·exact W.trans (hp.lt (by omega)) (hp.lt (i:=j-1) (by omega)) (hp.lt (by omega)) (h3 i (j-1) (by omega) (by omega)) hb
    ·have e:i=j:=by omega
     subst e
     exact W.refl (hp.lt (by omega))
theorem Zhm {p:Array Nat} (hp:Bs n p) {i j:Nat} (hij:i<j) (hj:j≤n) (he:∀ k,i≤k→k<j→Eqv lt (pvA p k) (pvA p (j-1))) (k:Nat) (hk:k<n):Eqv lt (pvA (kas_rev p i j) k) (pvA p k):=by
 rw [Zer (by rw [hp.size];exact hj)]
 by_cases h:i≤k∧k<j
 ·rw [if_pos h]
  have a:=he (i+j-1-k) (by omega) (by omega)
  have b:=he k h.1 h.2
  exact ⟨W.trans (hp.lt (by omega)) (hp.lt (by omega)) (hp.lt (by omega)) a.1 b.2,W.trans (hp.lt (by omega)) (hp.lt (by omega)) (hp.lt (by omega)) b.1 a.2⟩
 ·rw [if_neg h]
  exact ⟨W.refl (hp.lt hk),W.refl (hp.lt hk)⟩
theorem Zhx {p q:Array Nat} (hp:Bs n p) (hq:Bs n q) {k:Nat} (hk:k≤n) (he:∀ i,i<n→Eqv lt (pvA q i) (pvA p i)) (h:Zd5 lt p k):Zd5 lt q k:=fun i j hij hj =>
 W.trans (hq.lt (by omega)) (hp.lt (i:=j) (by omega)) (hq.lt (by omega)) (he j (by omega)).1 (W.trans (hp.lt (by omega)) (hp.lt (i:=i) (by omega)) (hq.lt (by omega)) (h i j hij hj) (he i (by omega)).2)
theorem Zf4:∀ (f:Nat) (p:Array Nat) (m q:Nat) {Q:Array Nat×Nat×Nat→Shared→Prop},Bs n p→1≤m→m+f≤n→q+1≤m→Zd5 lt p m→(∀ i,m-(q+1)≤i→i<m→Eqv lt (pvA p i) (pvA p (m-1))) →
  (∀ p' m' q',Bs n p'→m≤m'→m'≤m+f→q'+1≤m'→Zd5 lt p' m'→(∀ i,m'-(q'+1)≤i→i<m'→Eqv lt (pvA p' i) (pvA p' (m'-1)))→Q (p',m',q') s)→KasT.kasWp cmp (kas_desc f p m q) Q s
 | 0,p,m,q,Q,hp,h1,h2,h3,h4,h5,hq=>by
  rw [kas_desc,KasT.kasWp]
  exact hq p m q hp (Nat.le_refl _) (by omega) h3 h4 h5
 | f+1,p,m,q,Q,hp,h1,h2,h3,h4,h5,hq=>by
  rw [kas_desc,KasT.kasWp]
  refine hc _ _ _ (hp.lt (by omega)) (hp.lt (by omega)) ?_
  have step:∀ (p':Array Nat),Bs n p'→Zd5 lt p' m→le' lt (pvA p' m) (pvA p' (m-1))→Zd5 lt p' (m+1):=fun p' hp' h hb i j hij hj=>by
   rcases Nat.lt_or_ge j m with z | z
   ·exact h i j hij z
   ·have e:j=m:=by omega
    subst e
    rcases Nat.lt_or_ge i j with y | y
    ·exact W.trans (hp'.lt (by omega)) (hp'.lt (i:=j-1) (by omega)) (hp'.lt (by omega)) hb (h i (j-1) (by omega) (by omega))
    ·have e:i=j:=by omega
     subst e
     exact W.refl (hp'.lt (by omega))
  cases hb:lt (pvA p m) (pvA p (m-1)) with
  | true =>
   have hle:=W.of_lt (hp.lt (by omega)) (hp.lt (by omega)) hb
   simp only [if_true]
   have one:∀ (p':Array Nat),Bs n p'→∀ i,m+1-(0+1)≤i→i<m+1→Eqv lt (pvA p' i) (pvA p' (m+1-1)):=fun p' hp' i a b=>by
    have e:i=m:=by omega
    subst e
    exact ⟨W.refl (hp'.lt (by omega)),W.refl (hp'.lt (by omega))⟩
   by_cases h0:q > 0
   ·simp only [h0,if_true]
    have hp':=hp.rev (m-(q+1)) m
    have hev:=Zhm W hc hp (i:=m-(q+1)) (j:=m) (by omega) (by omega) h5
    have hni:=Zhx W hc hp hp' (k:=m) (by omega) (fun i hi=>hev i hi) h4
    have em:pvA (kas_rev p (m-(q+1)) m) m=pvA p m:=by rw [Zer (by rw [hp.size];omega),if_neg (by omega)]
    have hle':le' lt (pvA (kas_rev p (m-(q+1)) m) m) (pvA (kas_rev p (m-(q+1)) m) (m-1)):=by
     rw [em]
     exact W.trans (hp.lt (by omega)) (hp.lt (by omega)) (hp'.lt (by omega)) hle (hev (m-1) (by omega)).2
    exact Zf4 f _ (m+1) 0 hp' (by omega) (by omega) (by omega) (step _ hp' hni hle') (one _ hp') fun p2 m2 q2 a b c d e g=>hq p2 m2 q2 a (by omega) (by omega) d e g
   ·simp only [h0,if_false]
    exact Zf4 f _ (m+1) 0 hp (by omega) (by omega) (by omega) (step _ hp h4 hle) (one _ hp) fun p2 m2 q2 a b c d e g=>hq p2 m2 q2 a (by omega) (by omega) d e g
  | false =>
   simp only [Bool.false_eq_true,if_false,KasT.kasWp]
   refine hc _ _ _ (hp.lt (by omega)) (hp.lt (by omega)) ?_
   cases hd:lt (pvA p (m-1)) (pvA p m) with
   | true =>
    simp only [if_true,KasT.kasWp]
    exact hq p m q hp (Nat.le_refl _) (by omega) h3 h4 h5
   | false =>
    simp only [Bool.false_eq_true,if_false]
    refine Zf4 f _ (m+1) (q+1) hp (by omega) (by omega) (by omega) (step _ hp h4 hd) (fun i a b=>?_) fun p2 m2 q2 a b c d e g=>hq p2 m2 q2 a (by omega) (by omega) d e g
    show Eqv lt (pvA p i) (pvA p m)
    rcases Nat.lt_or_ge i m with z | z
    ·have:=h5 i (by omega) z
     exact ⟨W.trans (hp.lt (by omega)) (hp.lt (i:=m-1) (by omega)) (hp.lt (by omega)) this.1 hb,W.trans (hp.lt (by omega)) (hp.lt (i:=m-1) (by omega)) (hp.lt (by omega)) hd this.2⟩
    ·have e:i=m:=by omega
     subst e
     exact ⟨W.refl (hp.lt (by omega)),W.refl (hp.lt (by omega))⟩
theorem Zjm {p:Array Nat} {m nr:Nat} {Q:Nat×Array Nat→Shared→Prop} (hp:Bs n p) (h1:1≤m) (h2:m≤nr) (h3:nr≤n) (h4:Zd5 lt p m)
  (q:∀ m' p',Bs n p'→1≤m'→m'≤nr→Zel lt p' m'→Q (m',p') s):KasT.kasWp cmp (kas_tail3 m nr p) Q s:=by
 unfold kas_tail3
 rw [KasT.kasWp_bind]
 have hp':=hp.rev 0 m
 refine ZiT W hc hp' (nr-m) m h1 (by omega) (fun i j hij hj=>?_) fun m' a b c _=>?_
 ·rw [Zer (by rw [hp.size];omega),Zer (by rw [hp.size];omega),if_pos (by omega),if_pos (by omega)]
  exact h4 (0+m-1-j) (0+m-1-i) (by omega) (by omega)
 ·rw [KasT.kasWp]
  exact q m' _ hp' (by omega) (by omega) c
theorem ZjT {p:Array Nat} {m nr:Nat} {Q:Nat×Array Nat→Shared→Prop} (hp:Bs n p) (h2:m+1≤nr) (h3:nr≤n) (h4:Zd5 lt p (m+1))
  (q:∀ m' p',Bs n p'→1≤m'→m'≤nr→Zel lt p' m'→Q (m',p') s):KasT.kasWp cmp (kas_descPart m nr p) Q s:=by
 unfold kas_descPart
 rw [KasT.kasWp_bind]
 refine Zf4 W hc (nr-(m+1)) p (m+1) 0 hp (by omega) (by omega) (by omega) h4 (fun i a b=>?_) fun p' m' q' a b c d e g=>?_
 ·have e:i=m:=by omega
  subst e
  exact ⟨W.refl (hp.lt (by omega)),W.refl (hp.lt (by omega))⟩
 ·by_cases h0:q' > 0
  ·simp only [h0,if_true]
   exact Zjm W hc (a.rev _ _) (by omega) (by omega) h3 (Zhx W hc a (a.rev _ _) (by omega) (fun i hi=>Zhm W hc a (by omega) (by omega) g i hi) e) q
  ·simp only [h0,if_false]
   exact Zjm W hc a (by omega) (by omega) h3 e q
theorem Zn5 {p:Array Nat} {Q:Nat×Array Nat→Shared→Prop} (hp:Bs n p) (h1:1≤n) (q:∀ m' p',Bs n p'→1≤m'→m'≤n→Zel lt p' m'→Q (m',p') s):KasT.kasWp cmp (kas_count n p) Q s:=by
 unfold kas_count
 rw [KasT.kasWp_bind]
 refine ZiT W hc hp (n-1) 1 (by omega) (by omega) (fun i j hij hj=>?_) fun m a b c d=>?_
 ·have e:i=0:=by omega
  have e2:j=0:=by omega
  subst e e2
  exact W.refl (hp.lt (by omega))
 ·by_cases hm:m=n
  ·subst hm
   simp only [beq_self_eq_true,if_true,KasT.kasWp]
   exact q m p hp a (by omega) c
  ·have hb:(m==n)=false:=by simpa using hm
   have hlt:lt (pvA p m) (pvA p (m-1))=true:=by
    rcases d with d | d
    ·exact absurd (by omega) hm
    ·exact d
   simp only [hb,Bool.false_eq_true,if_false]
   have desc:∀ (p':Array Nat),Bs n p'→(∀ i,i<m→Eqv lt (pvA p' i) (pvA p' (m-1)))→lt (pvA p' m) (pvA p' (m-1))=true→KasT.kasWp cmp (kas_descPart m n p') Q s:=fun p' hp' he hl =>
    ZjT W hc hp' (by omega) (by omega) (fun i j hij hj=>by
     rcases Nat.lt_or_ge j m with z | z
     ·exact W.trans (hp'.lt (by omega)) (hp'.lt (i:=m-1) (by omega)) (hp'.lt (by omega)) (he j z).1 (he i (by omega)).2
     ·have e:j=m:=by omega
      subst e
      rcases Nat.lt_or_ge i j with y | y
      ·exact W.trans (hp'.lt (by omega)) (hp'.lt (i:=j-1) (by omega)) (hp'.lt (by omega)) (W.of_lt (hp'.lt (by omega)) (hp'.lt (by omega)) hl) (he i y).2
      ·have e:i=j:=by omega
       subst e
       exact W.refl (hp'.lt (by omega))) q
   by_cases h1m:m > 1
   ·simp only [h1m,if_true,KasT.kasWp]
    refine hc _ _ _ (hp.lt (by omega)) (hp.lt (by omega)) ?_
    cases hx:lt (pvA p 0) (pvA p (m-1)) with
    | true =>
     simp only [if_true,KasT.kasWp]
     exact q m p hp a (by omega) c
    | false =>
     simp only [Bool.false_eq_true,if_false]
     have hp':=hp.rev 0 m
     have he:∀ i,i<m→Eqv lt (pvA p i) (pvA p (m-1)):=fun i hi=>⟨c i (m-1) (by omega) (by omega),W.trans (hp.lt (by omega)) (hp.lt (i:=0) (by omega)) (hp.lt (by omega)) hx (c 0 i (by omega) hi)⟩
     have hev:=fun k hk=>Zhm W hc hp (i:=0) (j:=m) (by omega) (by omega) (fun k _ hk=>he k hk) k hk
     have em:pvA (kas_rev p 0 m) m=pvA p m:=by rw [Zer (by rw [hp.size];omega),if_neg (by omega)]
     refine desc _ hp' (fun i hi=>?_) ?_
     ·have x1:=hev i (by omega)
      have x2:=hev (m-1) (by omega)
      have x3:=he i hi
      exact ⟨W.trans (hp'.lt (by omega)) (hp.lt (i:=i) (by omega)) (hp'.lt (by omega)) x1.1 (W.trans (hp.lt (by omega)) (hp.lt (i:=m-1) (by omega)) (hp'.lt (by omega)) x3.1 x2.2),
       W.trans (hp'.lt (by omega)) (hp.lt (i:=m-1) (by omega)) (hp'.lt (by omega)) x2.1 (W.trans (hp.lt (by omega)) (hp.lt (i:=i) (by omega)) (hp'.lt (by omega)) x3.2 x1.2)⟩
     ·rw [em]
      have x2:=hev (m-1) (by omega)
      rcases W.neg (pvA p m) (pvA (kas_rev p 0 m) (m-1)) (pvA p (m-1)) (hp.lt (by omega)) (hp'.lt (by omega)) (hp.lt (by omega)) hlt with z | z
      ·exact z
      ·have:=x2.2;unfold le' at this;rw [z] at this;cases this
   ·have e:m=1:=by omega
    subst e
    simp only [h1m,if_false]
    refine desc p hp (fun i hi=>?_) hlt
    have e:i=0:=by omega
    subst e
    exact ⟨W.refl (hp.lt (by omega)),W.refl (hp.lt (by omega))⟩
theorem Zgj {p:Array Nat} (hp:Bs n p) {k:Nat} (hk:k<n) (hs:Zel lt p k):∀ (f l r:Nat) {Q:Nat→Shared→Prop},l≤r→r≤k→r≤l+f→(∀ i,i<l→le' lt (pvA p i) (pvA p k))→(∀ i,r≤i→i<k→lt (pvA p k) (pvA p i)=true) →
  (∀ l',l'≤k→(∀ i,i<l'→le' lt (pvA p i) (pvA p k))→(∀ i,l'≤i→i<k→lt (pvA p k) (pvA p i)=true)→Q l' s)→KasT.kasWp cmp (kas_place p k f l r) Q s
 | 0,l,r,Q,h1,h2,h3,h4,h5,q=>by
  rw [kas_place,KasT.kasWp]
  have e:l=r:=by omega
  subst e
  exact q l h2 h4 h5
 | f+1,l,r,Q,h1,h2,h3,h4,h5,q=>by
  rw [kas_place]
  by_cases hlr:l≥r
  ·have e:l=r:=by omega
   subst e
   rw [if_pos hlr,KasT.kasWp]
   exact q l h2 h4 h5
  ·rw [if_neg hlr,KasT.kasWp]
   refine hc _ _ _ (hp.lt hk) (hp.lt (by omega)) ?_
   cases hb:lt (pvA p k) (pvA p ((l+r) / 2)) with
   | true =>
    simp only [if_true]
    refine Zgj hp hk hs f l ((l+r) / 2) (by omega) (by omega) (by omega) h4 (fun i a b=>?_) q
    have hle:=hs ((l+r) / 2) i a b
    rcases W.neg (pvA p k) (pvA p i) (pvA p ((l+r) / 2)) (hp.lt hk) (hp.lt (by omega)) (hp.lt (by omega)) hb with z | z
    ·exact z
    ·unfold le' at hle;rw [z] at hle;cases hle
   | false =>
    simp only [Bool.false_eq_true,if_false]
    refine Zgj hp hk hs f ((l+r) / 2+1) r (by omega) h2 (by omega) (fun i a=>?_) h5 q
    exact W.trans (hp.lt (by omega)) (hp.lt (i:=(l+r) / 2) (by omega)) (hp.lt hk) (hs i ((l+r) / 2) (by omega) (by omega)) hb
theorem Zmb:∀ (f:Nat) (p:Array Nat) (k:Nat) {Q:Array Nat→Shared→Prop},Bs n p→k+f=n→Zel lt p k→(∀ p',Bs n p'→Zel lt p' n→Q p' s)→KasT.kasWp cmp (kas_bin f p k) Q s
 | 0,p,k,Q,hp,h1,h2,q=>by
  rw [kas_bin,KasT.kasWp]
  have e:k=n:=by omega
  subst e
  exact q p hp h2
 | f+1,p,k,Q,hp,h1,h2,q=>by
  rw [kas_bin,KasT.kasWp_bind]
  refine Zgj W hc hp (k:=k) (by omega) h2 k 0 k (by omega) (Nat.le_refl _) (by omega) (fun i z=>by omega) (fun i a b=>by omega) fun l a b c=>?_
  refine Zmb f _ (k+1) (hp.bub _ _) (by omega) (fun i j hij hj=>?_) q
  have hkp:k<p.size:=by rw [hp.size];omega
  have hkl:k-(k-l)=l:=by omega
  rw [Zj3 hkp (by omega),Zj3 hkp (by omega),hkl]
  by_cases hi:i=l
  ·rw [if_pos hi]
   by_cases hj':j=l
   ·rw [if_pos hj'];exact W.refl (hp.lt (by omega))
   ·rw [if_neg hj',if_pos (by omega)]
    exact W.of_lt (hp.lt (by omega)) (hp.lt (by omega)) (c (j-1) (by omega) (by omega))
  ·rw [if_neg hi]
   by_cases hi2:l<i∧i≤k
   ·rw [if_pos hi2,if_neg (by omega),if_pos (by omega)]
    exact h2 (i-1) (j-1) (by omega) (by omega)
   ·rw [if_neg hi2]
    by_cases hj':j=l
    ·rw [if_pos hj'];exact b i (by omega)
    ·rw [if_neg hj']
     by_cases hj2:l<j∧j≤k
     ·rw [if_pos hj2];exact h2 i (j-1) (by omega) (by omega)
     ·rw [if_neg hj2];exact h2 i j hij (by omega)
theorem Zpl {Q:Array Nat→Shared→Prop} (h1:1≤n) (q:∀ p',Bs n p'→Zel lt p' n→Q p' s):KasT.kasWp cmp (kas_sort n) Q s:=by
 unfold kas_sort
 rw [KasT.kasWp_bind]
 refine Zn5 W hc (p:=(List.range n).toArray) (Array.Perm.refl _) h1 fun m p' a b c d=>?_
 by_cases hm:m<n
 ·simp only [hm,if_true]
  have e:max m 1=m:=by omega
  rw [e]
  exact Zmb W hc (n-m) p' m a (by omega) d q
 ·have e:m=n:=by omega
  subst e
  simp only [Nat.lt_irrefl,if_false,KasT.kasWp]
  exact q p' a d
end
end L2
set_option Elab.async false
set_option linter.all false
set_option maxRecDepth 100000
namespace L2
open PySem PySem.Spec PyProof.Rows PySem.W
section
variable {prog:Program} {w:World} {A:Around} {E:Value→Shared→Prop} {s:Shared}
theorem Zmr {l b:Addr} {items items2:Array Value} {r:Bool} {n n2:Nat} {dd dd2:Option Addr} {sl sl2:Array (Option Value)} {Q:Bool→Shared→Prop} (hl:s.heap.get? l=some { cls:=.type "list",dict:=dd,data:=.seq items n,slots:=sl }) (hb:s.heap.get? b=some { cls:=.type "list",dict:=dd2,data:=.seq items2 n2,slots:=sl2 }) (hr:Zcg A.in1 s items.toList items2.toList r)
  (hu:A.units<cLine) (h:Q r s):wpAny (model prog w) A (oneLt' true (.ref l) (.ref b)) Q E s:=by
 rw [oneLt'_eq]
 simp only [if_true]
 refine wpAny_bind (wpAny_cRoomFor hu ?_)
 refine wpAny_bind (wpAny_callSpecialIfBound?_slot (T:="list") ⟨_,hl,rfl⟩ PySem.F.slot_list_lt (call_meets PySem.F.slot_list_lt ⟨_,hl,rfl⟩ PySem.F.entry_list_lt (PySem.F.args_list_lt_2 _ _) (ZgY l b items items2 n n2 dd dd2 sl sl2 r) ⟨hl,hb,hr,?_⟩))
 exact wpAny_truthy_bool h
end
section
variable {X:Cx} {pins:List (Addr×Obj)} {σ:St} {H:Hp} {s:Shared} {N:Fb}
theorem ZsY (I:Inv X pins σ H s) {prog:Program} {w:World} (A:Around) (hu:A.units+40<cLine) (b fin:Bool) {Q:Bool→Shared→Prop}:∀ (xs ys:List D) (vs1 vs2:List V) (us1 us2:List Value) (i:Nat) (r:Bool),Zb5 (ltN 5) xs ys=some r →
  DenL X.K N H xs vs1→DenL X.K N H ys vs2→Vals vs1 us1→Vals vs2 us2→fin=decide (xs.length<ys.length) →
  (b=false∨i≠0∨((∀ x,xs.head?=some x→∃ n,x=.int n)∧∀ y,ys.head?=some y→∃ n,y=.int n))→Q r s→KatLex prog w A b fin Q (us1.zip us2) i s:=by
 intro xs
 induction xs with
 | nil =>
  intro ys vs1 vs2 us1 us2 i r h d1 d2 r1 r2 hf hb q
  simp only [DenL] at d1;subst d1;cases r1
  rw [List.zip_nil_left]
  refine kat_nil ?_
  cases ys with
  | nil=>simp only [Zb5] at h;cases h;rw [hf];exact q
  | cons y ys=>simp only [Zb5] at h;cases h;rw [hf];simpa using q
 | cons x xs ih =>
  intro ys vs1 vs2 us1 us2 i r h d1 d2 r1 r2 hf hb q
  simp only [DenL] at d1;obtain ⟨w1,t1,e1,dw1,dt1⟩:=d1;subst e1
  cases r1 with
  | cons rw1 rt1 =>
   cases ys with
   | nil =>
    simp only [DenL] at d2;subst d2;cases r2
    rw [List.zip_nil_right]
    simp only [Zb5] at h;cases h
    refine kat_nil ?_
    rw [hf];simpa using q
   | cons y ys =>
    simp only [DenL] at d2;obtain ⟨w2,t2,e2,dw2,dt2⟩:=d2;subst e2
    cases r2 with
    | cons rw2 rt2 =>
     rw [List.zip_cons_cons]
     simp only [Zb5] at h
     split at h
     ·next ho =>
      rw [Bool.and_eq_true] at ho
      have he:=(ZdM I Zaz A x y _ _ _ _ (by unfold Zaz;omega) ho.1 ho.2 dw1.p dw2.p rw1 rw2).2.1
      refine kat_cons ?_
      split at h
      ·next e =>
       rw [e] at he
       refine he prog w _ _ ?_
       show KatGo prog w A b fin Q _ _ _ i true s
       unfold KatGo
       rw [if_pos rfl]
       exact ih ys _ _ _ _ (i+1) r h dt1 dt2 rt1 rt2 (by rw [hf];simp) (.inr (.inl (by omega))) q
      ·next e =>
       rw [Bool.not_eq_true] at e
       rw [e] at he
       refine he prog w _ _ ?_
       refine kat_no ?_
       by_cases hm:(b&&i==0)=true
       ·rw [hm]
        have hm':b=true∧i=0:=by simpa using hm
        rcases hb with z | z | ⟨z1,z2⟩
        ·rw [hm'.1] at z;cases z
        ·exact absurd hm'.2 z
        ·obtain ⟨n1,rfl⟩:=z1 x rfl
         obtain ⟨n2,rfl⟩:=z2 y rfl
         have g1:=dw1.p.int
         have g2:=dw2.p.int
         subst g1 g2
         obtain ⟨k1,rfl⟩:=rw1
         obtain ⟨k2,rfl⟩:=rw2
         simp only [ltN] at h
         cases h
         exact oneLt_int q
       ·rw [Bool.not_eq_true] at hm
        rw [hm]
        refine kat_one _ _ ?_
        exact Zid I 5 A x y _ _ _ _ r (by unfold Zaz;omega) h dw1.p dw2.p rw1 rw2 prog w _ (PySem.W.BoolBack Q) q
     ·cases h
theorem ZqP (I:Inv X pins σ H s) (n:Nat) (A:Around) (hu:A.units+n+1+Zaz<cLine) {b:Bool}:∀ (xs ys:List D) (vs1 vs2:List V) (us1 us2:List Value),Zb5 (ltN n) xs ys=some b→DenL X.K N H xs vs1→DenL X.K N H ys vs2→Vals vs1 us1→Vals vs2 us2→Zcg A.in1 s us1 us2 b:=by
 intro xs
 induction xs with
 | nil =>
  intro ys vs1 vs2 us1 us2 h d1 d2 r1 r2
  simp only [DenL] at d1;subst d1;cases r1
  cases ys with
  | nil=>simp only [DenL] at d2;subst d2;cases r2;cases h;exact .nn
  | cons y ys=>simp only [DenL] at d2;obtain ⟨w,t,e,_,_⟩:=d2;subst e;cases r2;cases h;exact .nc
 | cons x xs ihx =>
  intro ys vs1 vs2 us1 us2 h d1 d2 r1 r2
  simp only [DenL] at d1;obtain ⟨w1,t1,e1,dw1,dt1⟩:=d1;subst e1
  cases r1 with
  | cons rw1 rt1 =>
   cases ys with
   | nil=>simp only [DenL] at d2;subst d2;cases r2;cases h;exact .cn
   | cons y ys =>
    simp only [DenL] at d2;obtain ⟨w2,t2,e2,dw2,dt2⟩:=d2;subst e2
    cases r2 with
    | cons rw2 rt2 =>
     simp only [Zb5] at h
     split at h
     ·next ho =>
      rw [Bool.and_eq_true] at ho
      have he:=(ZdM I Zaz A.in1 x y _ _ _ _ (by rw [Zcr];omega) ho.1 ho.2 dw1.p dw2.p rw1 rw2).2.1
      split at h
      ·next e=>rw [e] at he;exact .eq he (ihx ys _ _ _ _ h dt1 dt2 rt1 rt2)
      ·next e =>
       rw [Bool.not_eq_true] at e
       rw [e] at he
       exact .ne he fun prog wo E Q q=>Zid I n A.in1 x y _ _ _ _ b (by rw [Zcr];omega) h dw1.p dw2.p rw1 rw2 prog wo E Q q
     ·cases h
def KMode (b:Option Bool) (k:D):Prop:=match b with
 | some true=>∃ i r,k=.tup (.int i::r)
 | some false=>∃ f r,k=.tup (.tup f::r)
 | none=>∃ r,k=.lst r
abbrev kmK:Option Bool→SortKind
 | some b=>tuples' b
 | none=>oneType'
theorem KMode.tup {b:Bool} {k:D} (h:KMode (some b) k):∃ f r,k=.tup (f::r):=by
 cases b with
 | true=>obtain ⟨i,r,e⟩:=h;exact ⟨_,_,e⟩
 | false=>obtain ⟨i,r,e⟩:=h;exact ⟨_,_,e⟩
theorem Zp5 (I:Inv X pins σ H s) {prog:Program} {w:World} (A:Around) (hu:A.units+40<cLine) (b r:Bool) {k1 k2:D} {v1 v2:V} {u1 u2:Value} {Q:Bool→Shared→Prop} {E:Value→Shared→Prop} (h:ltN 6 k1 k2=some r) (m1:KMode (some b) k1) (m2:KMode (some b) k2)
  (d1:Den X.K N H k1 v1) (d2:Den X.K N H k2 v2) (r1:RelV v1 u1) (r2:RelV v2 u2) (q:Q r s):wpAny (model prog w) A (keyLt' (tuples' b) u1 u2) Q E s:=by
 obtain ⟨f1,g1,e1⟩:=m1.tup
 obtain ⟨f2,g2,e2⟩:=m2.tup
 subst e1 e2
 simp only [Den] at d1 d2
 obtain ⟨a1,vs1,e1,q1,dl1⟩:=d1
 obtain ⟨a2,vs2,e2,q2,dl2⟩:=d2
 subst e1 e2
 cases r1
 cases r2
 obtain ⟨its1,rv1,p1,_⟩:=I.tuple q1
 obtain ⟨its2,rv2,p2,_⟩:=I.tuple q2
 obtain ⟨o1,ho1,_,n1,hd1⟩:=p1
 obtain ⟨o2,ho2,_,n2,hd2⟩:=p2
 refine kat_lt ho1 hd1 ho2 hd2 ?_
 have l1:=dl1.length
 have l2:=dl2.length
 have l3:=rv1.length
 have l4:=rv2.length
 have:=ZsY I (prog:=prog) (w:=w) (N:=N) A hu b (decide (its1.toArray.size<its2.toArray.size)) (Q:=Q) (f1::g1) (f2::g2) vs1 vs2 its1 its2 0 r h dl1 dl2 rv1 rv2 (by rw [List.size_toArray,List.size_toArray,← l3,← l4,← l1,← l2]) (by
  cases b with
  | false=>exact .inl rfl
  | true =>
   obtain ⟨i1,_,e1⟩:=m1
   obtain ⟨i2,_,e2⟩:=m2
   cases e1
   cases e2
   exact .inr (.inr ⟨fun x hx=>by cases hx;exact ⟨_,rfl⟩,fun x hx=>by cases hx;exact ⟨_,rfl⟩⟩)) q
 simpa using this
theorem Zra (I:Inv X pins σ H s) {prog:Program} {w:World} (A:Around) (hu:A.units+40<cLine) (b:Option Bool) (r:Bool) {k1 k2:D} {v1 v2:V} {u1 u2:Value} {Q:Bool→Shared→Prop} {E:Value→Shared→Prop} (h:ltN 6 k1 k2=some r) (m1:KMode b k1) (m2:KMode b k2)
  (d1:Den X.K N H k1 v1) (d2:Den X.K N H k2 v2) (r1:RelV v1 u1) (r2:RelV v2 u2) (q:Q r s):wpAny (model prog w) A (keyLt' (kmK b) u1 u2) Q E s:=by
 cases b with
 | some b=>exact Zp5 I A hu b r h m1 m2 d1 d2 r1 r2 q
 | none =>
  obtain ⟨g1,e1⟩:=m1
  obtain ⟨g2,e2⟩:=m2
  subst e1 e2
  obtain ⟨a1,vs1,e1,q1,dl1⟩:=d1.p
  obtain ⟨a2,vs2,e2,q2,dl2⟩:=d2.p
  subst e1 e2
  cases r1
  cases r2
  obtain ⟨its1,rv1,⟨⟨cls,dd,data,sl⟩,n1,ho1,hc1,hdd1,hd1⟩,_⟩:=I.list q1
  obtain ⟨its2,rv2,⟨⟨cls2,dd2,data2,sl2⟩,n2,ho2,hc2,hdd2,hd2⟩,_⟩:=I.list q2
  simp only at hc1 hd1 hc2 hd2
  subst hc1 hd1 hc2 hd2
  show wpAny (model prog w) A (oneLt' true _ _) Q E s
  exact Zmr ho1 ho2 (by simpa using ZqP I 5 A (by unfold Zaz;omega) g1 g2 _ _ _ _ h dl1 dl2 rv1 rv2) (by omega) q
theorem Zmo (I:Inv X pins σ H s) {M:Model} (b:Bool):∀ (ks:List D) (kvs:List V) (us:List Value),DenL X.K N H ks kvs→Vals kvs us→(∀ k∈ks,KMode (some b) k) →
  ∃ fs,KatTups s.heap us fs∧fs.length=us.length∧∀ v∈fs,Looks M s.heap (typeOf v) (.type (if b then "int" else "tuple")):=by
 intro ks
 induction ks with
 | nil =>
  intro kvs us d r _
  simp only [DenL] at d;subst d;cases r
  exact ⟨[],KatTups.nil,rfl,fun _ h=>nomatch h⟩
 | cons k ks ih =>
  intro kvs us d r hm
  simp only [DenL] at d;obtain ⟨v,t,e,dv,dt⟩:=d;subst e
  cases r with
  | cons rv rt =>
   obtain ⟨fs,h1,h2,h3⟩:=ih t _ dt rt fun k hk=>hm k (List.mem_cons_of_mem _ hk)
   have m:=hm k List.mem_cons_self
   obtain ⟨f,g,e⟩:=m.tup
   subst e
   simp only [Den] at dv
   obtain ⟨a,vs,e,q,dl⟩:=dv
   subst e
   cases rv
   obtain ⟨its,rv1,⟨o,ho,hc,n,hd⟩,_⟩:=I.tuple q
   obtain ⟨w,vs',e,dw,_⟩:=dl
   subst e
   cases rv1 with
   | cons rw1 rt1 =>
    rename_i u us'
    refine ⟨u::fs,KatTups.cons ho hc hd (by simp) h1,by simp [h2],fun v hv=>?_⟩
    rcases List.mem_cons.mp hv with e | hv
    ·subst e
     intro A Q E s' hk hq
     cases b with
     | true =>
      obtain ⟨i,_,e⟩:=m
      cases e
      have g:=dw.p.int
      subst g
      obtain ⟨t,rfl⟩:=rw1
      exact wpAny_typeOf (T:="int") rfl hq
     | false =>
      obtain ⟨i,_,e⟩:=m
      cases e
      simp only [Den] at dw
      obtain ⟨a2,vs2,e,q2,_⟩:=dw
      subst e
      cases rw1
      obtain ⟨_,_,⟨o2,ho2,hc2,_⟩,_⟩:=I.tuple q2
      exact wpAny_typeOf (T:="tuple") ⟨o2,hk _ _ ho2,hc2⟩ hq
    ·exact h3 v hv
theorem ZmT (I:Inv X pins σ H s) {M:Model}:∀ (ks:List D) (kvs:List V) (us:List Value),DenL X.K N H ks kvs→Vals kvs us→(∀ k∈ks,KMode none k)→∀ u∈us,Looks M s.heap (typeOf u) (.type "list"):=by
 intro ks
 induction ks with
 | nil =>
  intro kvs us d r _
  simp only [DenL] at d;subst d;cases r
  exact fun _ h=>nomatch h
 | cons k ks ih =>
  intro kvs us d r hm
  simp only [DenL] at d;obtain ⟨v,t,e,dv,dt⟩:=d;subst e
  cases r with
  | cons rv rt =>
   intro u hu
   rcases List.mem_cons.mp hu with e | hu
   ·subst e
    obtain ⟨g,e⟩:=hm k List.mem_cons_self
    subst e
    obtain ⟨a,vs,e,q,_⟩:=dv.p
    subst e
    cases rv
    obtain ⟨_,_,⟨o,n,ho,hc,_⟩,_⟩:=I.list q
    intro A Q E s' hk hq
    exact wpAny_typeOf (T:="list") ⟨o,hk _ _ ho,hc⟩ hq
   ·exact ih t _ dt rt (fun k hk=>hm k (List.mem_cons_of_mem _ hk)) u hu
theorem ZnH (I:Inv X pins σ H s) {M:Model} {A:Around} {E:Value→Shared→Prop} (b:Option Bool) (ks:List D) (kvs:List V) (us:List Value) (d:DenL X.K N H ks kvs) (r:Vals kvs us) (hm:∀ k∈ks,KMode b k) (h2:2≤us.length) {Q:SortKind→Shared→Prop} (q:Q (kmK b) s):wpAny M A (keyKind' us.toArray) Q E s:=by
 cases b with
 | some b =>
  obtain ⟨fs,k1,k2,k3⟩:=Zmo I (M:=M) b ks kvs us d r hm
  refine kat_kind k1 (by omega) k3 (by cases b<;>rfl) ?_
  have em:(Value.type (if b=true then "int" else "tuple") != Value.type "tuple")=b:=by cases b<;>rfl
  rw [em]
  exact q
 | none=>exact kas_kind h2 (ZmT I ks kvs us d r hm) rfl rfl q
structure Off (X:Cx) (pins:List (Addr×Obj)) (a:Addr):Prop where
 nL:a≠X.env.locals
 s0:X.s₀.heap.objs.size≤a
 cl:∀ x c,X.env.cells.lookup x=some c→c≠a
 pn:∀ p∈X.pn++pins,p.1≠a
 nf:a∉X.fs
theorem Inv.off (I:Inv X pins σ H s) {a:Addr} (h:s.heap.objs.size≤a):Off X pins a where
 nL:=fun e=>by have h2:=I.lt;rw [← e] at h2;exact absurd (Nat.lt_of_lt_of_le h2 h) (Nat.lt_irrefl _)
 s0:=Nat.le_trans I.sz h
 cl:=fun x c e z=>by
  obtain ⟨v,o,ho,_⟩:=I.cell x c e
  have h2:=Heap.lt_size ho
  rw [z] at h2
  exact absurd (Nat.lt_of_lt_of_le h2 h) (Nat.lt_irrefl _)
 pn:=fun p hp z=>by
  have h2:=Heap.lt_size (I.pin p hp).1
  rw [z] at h2
  exact absurd (Nat.lt_of_lt_of_le h2 h) (Nat.lt_irrefl _)
 nf:=I.nofs h
theorem Inv.pin1 {a:Addr} {o:Obj} (I:Inv X pins σ H s) (hH:H a=none) (f:Off X pins a) (e:s.heap.get? a=some o) (hc:∀ v,o.data≠.cell v):Inv X (pins++[(a,o)]) σ H s :=
 I.pins_of fun p hp=>by
  rcases List.mem_append.mp hp with hp | hp
  ·exact I.pin p (List.mem_append_right _ hp)
  ·simp only [List.mem_singleton] at hp;subst hp;exact ⟨e,hH,f.nL,f.nf,hc⟩
theorem Inv.catch {a:Addr} {its:List Value} {n:Nat} {vs:List V} (I:Inv X pins σ H s) (hH:H a=none) (f:Off X pins a) (e:s.heap.get? a=some { cls:=.type "list",data:=.seq its.toArray n }) (hv:Vals vs its) (hz:vs.length≤sizeLine):Inv X pins σ (upd H a (.lst vs)) s:=by
 have ne:∀ b u,H b=some u→b≠a:=fun b u q z=>by rw [z,hH] at q;cases q
 have:=I.step (h':=s.heap) (g':=s.gens) (d':=s.drawn) (t':=s.toks) (ch:=[a]) (H':=upd H a (.lst vs)) (fun b hb=>by
   have e:b=a:=by simpa using hb
   subst e
   exact ⟨.inr f.s0,f.nL,f.cl,f.pn⟩) (fun b o _ _ _ q _=>q) (fun b o _ _ _ q _=>⟨o.slots,q⟩) (fun b o hb _ n=>by rw [Zs (fun z=>hb (by simp [z]))];exact n) (fun b o _ q=>⟨o,q⟩)
  (fun b xs q=>by rw [Zs (ne _ _ q)];exact q) (fun b o u q=>by rw [Zs (ne _ _ q)];exact q) (fun b ps q=>⟨#[],by rw [Zs (ne _ _ q),q];simp⟩) (fun m hm=>hm) (fun b u q=>by
   by_cases hb:b=a
   ·subst hb
    rw [Zam] at q
    cases q
    exact ⟨hz,its,n,hv,e⟩
   ·rw [Zs hb] at q
    exact (I.hok b u q).stay (fun c v _ r=>r) (fun c r=>by rw [Zs (ne _ _ r)];exact r) fun c xs r=>by rw [Zs (ne _ _ r)];exact r) I.bare
 exact this
end
end L2
set_option Elab.async false
set_option linter.all false
set_option maxRecDepth 100000
namespace L2
open PySem PySem.Spec PyProof.Rows PySem.W
def ZaU (F:List Sl→Option Rv) (x:D):D:=((F [.val x]).map rvD).getD .non
def ltF (F:List Sl→Option Rv) (x y:D):Bool:=match ltN 6 (ZaU F x) (ZaU F y) with
 | some true=>true
 | _=>false
theorem Zgr {F:List Sl→Option Rv} {x y:D} {r:Bool} (h:ltN 6 (ZaU F x) (ZaU F y)=some r):ltF F x y=r:=by
 unfold ltF;rw [h];cases r<;>rfl
structure SortOk (F:List Sl→Option Rv) (xs:List D):Prop where
 few:xs.length<64
 tells:∀ x∈xs,∃ r,F [.val x]=some r
 mode:∃ b,∀ x∈xs,KMode b (ZaU F x)
 cmp:∀ x∈xs,∀ y∈xs,∃ r,ltN 6 (ZaU F x) (ZaU F y)=some r
 asym:∀ x∈xs,∀ y∈xs,ltF F x y=true→ltF F y x=false
 neg:∀ x∈xs,∀ y∈xs,∀ z∈xs,ltF F x z=true→ltF F x y=true∨ltF F y z=true
 anti:∀ x∈xs,∀ y∈xs,ltF F x y=false→ltF F y x=false→x=y
def Ze5 (lt:D→D→Bool) (x:D):List D→List D
 | []=>[x]
 | y::r=>if lt x y then x::y::r else y::Ze5 lt x r
def Zcw (lt:D→D→Bool):List D→List D
 | []=>[]
 | x::r=>Ze5 lt x (Zcw lt r)
theorem ZfE (lt:D→D→Bool) (x:D):∀ l,(Ze5 lt x l).Perm (x::l)
 | []=>.refl _
 | y::r=>by
  unfold Ze5
  split
  ·exact .refl _
  ·exact ((ZfE lt x r).cons y).trans (.swap x y r)
theorem ZdX (lt:D→D→Bool):∀ l,(Zcw lt l).Perm l
 | []=>.refl _
 | x::r=>(ZfE lt x _).trans ((ZdX lt r).cons x)
theorem ZhF {F:List Sl→Option Rv} {xs:List D} (h:SortOk F xs) {x:D} (hx:x∈xs):∀ l:List D,(∀ y∈l,y∈xs)→l.Pairwise (fun a b=>ltF F b a=false)→(Ze5 (ltF F) x l).Pairwise fun a b=>ltF F b a=false
 | [],_,_=>by simp [Ze5]
 | y::r,hm,hp=>by
  obtain ⟨h1,h2⟩:=List.pairwise_cons.mp hp
  have hy:=hm y List.mem_cons_self
  unfold Ze5
  split
  ·next hl =>
   refine List.pairwise_cons.mpr ⟨fun z hz=>?_,hp⟩
   rcases List.mem_cons.mp hz with e | hz
   ·subst e;exact h.asym x hx z hy hl
   ·cases hc:ltF F z x with
    | false=>rfl
    | true =>
     rcases h.neg z (hm z (List.mem_cons_of_mem _ hz)) y hy x hx hc with q | q
     ·rw [h1 z hz] at q;cases q
     ·rw [h.asym x hx y hy hl] at q;cases q
  ·next hl =>
   rw [Bool.not_eq_true] at hl
   refine List.pairwise_cons.mpr ⟨fun z hz=>?_,ZhF h hx r (fun z hz=>hm z (List.mem_cons_of_mem _ hz)) h2⟩
   rcases List.mem_cons.mp ((ZfE (ltF F) x r).subset hz) with e | hz
   ·subst e;exact hl
   ·exact h1 z hz
theorem ZhN {F:List Sl→Option Rv} {xs:List D} (h:SortOk F xs):∀ l:List D,(∀ y∈l,y∈xs)→(Zcw (ltF F) l).Pairwise fun a b=>ltF F b a=false
 | [],_=>.nil
 | x::r,hm=>ZhF h (hm x List.mem_cons_self) _ (fun y hy=>hm y (List.mem_cons_of_mem _ ((ZdX _ r).subset hy))) (ZhN h r fun y hy=>hm y (List.mem_cons_of_mem _ hy))
noncomputable def Zd8 (F:List Sl→Option Rv) (xs:List D):Option (List D):=gd (SortOk F xs) (some (Zcw (ltF F) xs))
theorem SortOk.same {F:List Sl→Option Rv} {xs ys:List D} (h:SortOk F xs) (hp:ys.Perm xs) (hs:ys.Pairwise fun a b=>ltF F b a=false):ys=Zcw (ltF F) xs :=
 List.Perm.eq_of_pairwise (le:=fun a b=>ltF F b a=false) (fun a b ha hb h1 h2=>h.anti a (hp.subset ha) b ((ZdX _ xs).subset hb) h2 h1) hs (ZhN h xs fun _ hy=>hy) (hp.trans (ZdX _ xs).symm)
theorem Ziw {F:List Sl→Option Rv} {xs:List D} (h:SortOk F xs):Zd8 F xs=some (Zcw (ltF F) xs):=Zfu h
theorem ZjA {F:List Sl→Option Rv} {xs ys:List D} (h:Zd8 F xs=some ys):SortOk F xs∧ys=Zcw (ltF F) xs:=by
 unfold Zd8 gd at h
 split at h
 ·next hh=>cases h;exact ⟨hh,rfl⟩
 ·cases h
section
variable {X:Cx} {pins:List (Addr×Obj)} {σ:St} {H:Hp} {s:Shared} {N:Fb}
theorem ZiK {K:PySem.W.Frag} {ds:List D} {vs:List V} (h:DenL K N H ds vs):∀ (js:List Nat),(∀ j∈js,j<ds.length)→DenL K N H (js.map fun j=>ds.getD j .non) (js.map fun j=>vs.getD j .non)
 | [],_=>DenL.nil
 | j::js,hj=>by
  have hl:=hj j List.mem_cons_self
  obtain ⟨v,e,d⟩:=h.get (List.getElem?_eq_getElem hl)
  refine DenL.cons ?_ (ZiK h js fun k hk=>hj k (List.mem_cons_of_mem _ hk))
  have e1:ds.getD j .non=ds[j]:=by simp [List.getD,hl]
  have e2:vs.getD j .non=v:=by simp [List.getD,e]
  show Den K N H (ds.getD j .non) (vs.getD j .non)
  rw [e1,e2];exact d
theorem ZdS {vs:List V} {us:List Value} (h:Vals vs us):∀ (js:List Nat),Vals (js.map fun j=>vs.getD j .non) (js.map fun j=>us.getD j .none)
 | []=>.nil
 | j::js=>by
  refine .cons ?_ (ZdS h js)
  induction h generalizing j with
  | nil=>simp;rfl
  | cons a _ ih =>
   cases j with
   | zero=>simpa using a
   | succ j=>simpa using ih j
theorem Zn4 (I:Inv X pins σ H s) {prog:Program} {w:World} (A:Around) (hu:A.units+40<cLine) {E:Value→Shared→Prop} {F:List Sl→Option Rv} {ds:List D} (h:SortOk F ds) {kvs:List V} {us items:List Value}
  (d:DenL X.K N H (ds.map (ZaU F)) kvs) (r:Vals kvs us) (hi:items.length=ds.length) {a:Addr} {e1:Nat} {kS:Value} {P:PySem.Fin→Shared→Prop}
  (q:∀ (p:List Nat) (st:SortSt),p.Perm (List.range ds.length)→(p.map fun j=>ds.getD j .non)=Zcw (ltF F) ds→Array.map (fun x=>x.2) (arrOf st)=(p.map fun j=>items.getD j .none).toArray→failedOf st=none→wpAny (model prog w) A (ksk_tail a false e1 kS st) P E s) :
  wpAny (model prog w) A (ksk_end a false items.toArray e1 kS us.toArray) P E s:=by
 unfold ksk_end
 simp only [Bool.false_eq_true,if_false]
 have l1:=d.length
 have l2:=r.length
 rw [List.length_map] at l1
 by_cases h2:items.toArray.size<2
 ·rw [if_pos h2]
  simp only [h2,if_true]
  have hz:us.length=items.length:=by omega
  rw [List.size_toArray] at h2
  refine wpAny_bind (wpAny_pure ?_)
  refine wpAny_bind ?_
  show wpAny _ _ (pure ((),SortSt.mk' general' (us.toArray.zip items.toArray) #[] 7 none)) _ _ _
  refine wpAny_pure ?_
  refine q (List.range ds.length) (SortSt.mk' general' (us.toArray.zip items.toArray) #[] 7 none) (.refl _) ?_ ?_ rfl
  ·have e:(List.range ds.length).map (fun j=>ds.getD j .non)=ds:=by
    apply List.ext_getElem?
    intro i
    by_cases hi:i<ds.length
    ·simp [hi]
    ·simp [hi]
   rw [e]
   refine h.same (.refl _) ?_
   match ds,hi with
   | [],_=>exact .nil
   | [a],_=>exact List.pairwise_singleton _ _
   | a::b::c,hi=>simp at hi;omega
  ·show Array.map (fun x=>x.2) (us.toArray.zip items.toArray)=_
   have e:(List.range ds.length).map (fun j=>items.getD j .none)=items:=by
    rw [← hi]
    apply List.ext_getElem?
    intro i
    by_cases hi:i<items.length
    ·simp [hi]
    ·simp [hi]
   rw [e]
   rw [List.zip_toArray,List.map_toArray]
   congr 1
   exact List.map_snd_zip (by omega)
 ·rw [if_neg h2]
  simp only [h2,if_false]
  rw [List.size_toArray] at h2
  obtain ⟨b,hb⟩:=h.mode
  refine wpAny_bind (ZnH I b (ds.map (ZaU F)) kvs us d r (fun k hk=>by
   obtain ⟨x,hx,rfl⟩:=List.mem_map.mp hk
   exact hb x hx) (by omega) ?_)
  have hz:us.length=items.length:=by omega
  have hsz:(us.toArray.zip items.toArray).size=ds.length:=by simp;omega
  have hr:=kas_range (us.toArray.zip items.toArray)
  rw [hsz] at hr
  have hst:SortSt.mk' (kmK b) (us.toArray.zip items.toArray) #[] 7 none=kas_st (kmK b) (us.toArray.zip items.toArray) (List.range ds.length).toArray:=by
   unfold kas_st;rw [hr]
  refine wpAny_bind ?_
  rw [hst]
  have W:WO (fun i j=>ltF F (ds.getD i .non) (ds.getD j .non)) ds.length:=by
   have mem:∀ i,i<ds.length→ds.getD i .non∈ds:=fun i hi=>by
    have e1:ds.getD i .non=ds[i]:=by simp [List.getD,hi]
    rw [e1];exact List.getElem_mem hi
   exact ⟨fun a b ha hb hl=>h.asym _ (mem a ha) _ (mem b hb) hl,fun a b c ha hb hc hl=>h.neg _ (mem a ha) _ (mem b hb) _ (mem c hc) hl⟩
  have hc:∀ i j (C:Bool→Shared→Prop),i<ds.length→j<ds.length→C (ltF F (ds.getD i .non) (ds.getD j .non)) s→kas_cmp prog w A (kmK b) (us.toArray.zip items.toArray) i j C s:=fun i j C hi' hj' hq=>by
   unfold kas_cmp
   rw [kat_item hz,kat_item hz]
   have mem:∀ i,i<ds.length→ds.getD i .non∈ds:=fun i hi=>by
    have e1:ds.getD i .non=ds[i]:=by simp [List.getD,hi]
    rw [e1];exact List.getElem_mem hi
   obtain ⟨rr,hrr⟩:=h.cmp _ (mem i hi') _ (mem j hj')
   rw [Zgr hrr] at hq
   have den:∀ i,i<ds.length→∃ v,Den X.K N H (ZaU F (ds.getD i .non)) v∧RelV v (us.getD i .none):=fun i hi=>by
    have e1:ds.getD i .non=ds[i]:=by simp [List.getD,hi]
    obtain ⟨v,ev,dv⟩:=d.get (i:=i) (d:=ZaU F ds[i]) (by simp [hi])
    refine ⟨v,by rw [e1];exact dv,?_⟩
    have:=ZdS r [i]
    cases this with
    | cons a _ =>
     have e2:kvs.getD i .non=v:=by simp [List.getD,ev]
     rw [← e2]
     exact a
   obtain ⟨v1,dv1,rv1⟩:=den i hi'
   obtain ⟨v2,dv2,rv2⟩:=den j hj'
   exact Zra I A hu b rr hrr (hb _ (mem i hi')) (hb _ (mem j hj')) dv1 dv2 rv1 rv2 hq
  refine kas_runs (Q:=fun _ st s'=>wpAny (model prog w) A (ksk_tail a false e1 kS st) P E s') (G:=fun p s'=>s'=s∧Bs ds.length p∧Zel (fun i j=>ltF F (ds.getD i .non) (ds.getD j .non)) p ds.length) (by omega) h.few (fun p st s' hp ha hf hg=>?_) (Zpl W hc (by omega) fun p a b=>⟨rfl,a,b⟩)
  obtain ⟨rfl,hB,hS⟩:=hg
  have hperm:p.toList.Perm (List.range ds.length):=by
   have:=hB.toList
   simpa using this
  refine q p.toList st hperm ?_ (kat_snds hz ha) hf
  refine h.same ?_ ?_
  ·have e:(List.range ds.length).map (fun j=>ds.getD j .non)=ds:=by
    apply List.ext_getElem?
    intro i
    by_cases hi:i<ds.length
    ·simp [hi]
    ·simp [hi]
   have:=hperm.map fun j=>ds.getD j .non
   rw [e] at this
   exact this
  ·rw [List.pairwise_map]
   rw [List.pairwise_iff_getElem]
   intro i j hi hj hij
   have hsz':=hB.size
   have:=hS i j (by omega) (by simp at hj;omega)
   unfold le' pvA at this
   simp at hi hj
   simpa [Array.getD,hi,hj] using this
end
end L2
set_option Elab.async false
set_option linter.all false
set_option maxRecDepth 100000
namespace L2
open PySem PySem.Spec PyProof.Rows PySem.W
section
variable {X:Cx} {pins:List (Addr×Obj)} {σ:St} {H:Hp} {s:Shared} {N:Fb}
abbrev lob (its:List Value) (n:Nat):Obj:={ cls:=.type "list",data:=.seq its.toArray n }
theorem Inv.rawset {a:Addr} {its its':List Value} {n:Nat} {f:Array Value→Array Value} (I:Inv X pins σ H s) (hH:H a=none) (o:Off X pins a) (e:s.heap.get? a=some (lob its n)) (hf:f its.toArray=its'.toArray) :
  ∃ n',(s.heap.update a (Obj.mapSeq f)).get? a=some (lob its' n')∧Inv X pins σ H { s with heap:=s.heap.update a (Obj.mapSeq f) }:=by
 have q:=PySem.IsL.update e f
 rw [hf] at q
 exact ⟨_,q,I.turned (t':=s.toks) (fun b u hb hu=>(Heap.get?_update_other s.heap (Obj.mapSeq f) (Ne.symm hb)).trans hu) hH o.nL (.inr o.s0) o.cl o.pn⟩
theorem Zgv (its:List Value) (n:Nat) (v:Option Value):(lob its n).data≠.cell v:=nofun
theorem Off.more {a b:Addr} {o:Obj} (f:Off X pins a) (h:b≠a):Off X (pins++[(b,o)]) a :=
 ⟨f.nL,f.s0,f.cl,fun p hp=>by
  rw [← List.append_assoc] at hp
  rcases List.mem_append.mp hp with hp | hp
  ·exact f.pn p hp
  ·simp only [List.mem_singleton] at hp;subst hp;exact h,f.nf⟩
theorem Inv.pinGet {a:Addr} {o:Obj} (I:Inv X pins σ H s) (h:(a,o)∈pins):s.heap.get? a=some o∧H a=none:=⟨(I.pin _ (List.mem_append_right _ h)).1,(I.pin _ (List.mem_append_right _ h)).2.1⟩
theorem Znx {prog:Program} {w:World} (A:Around) {D kS:Addr} {e1 e2:Nat} {us out:List Value} {vs:List V} {E:Value→Shared→Prop} {P:PySem.Fin→Shared→Prop} {st:SortSt} (I:Inv X (pins++[(D,lob [] e1)]++[(kS,lob us e2)]) σ H s)
  (fD:Off X pins D) (fK:Off X pins kS) (ne:D≠kS) (hus:us.length≤sizeLine) (hst:Array.map (fun x=>x.2) (arrOf st)=out.toArray) (hf:failedOf st=none) (hv:Vals vs out) (hz:vs.length≤sizeLine)
  (q:∀ s',Inv X pins σ (upd H D (.lst vs)) s'→P (.done (.ret .none)) s'):wpAny (model prog w) A (ksk_tail D false e1 (.ref kS) st) P E s:=by
 obtain ⟨gk,hk⟩:=I.pinGet (a:=kS) (List.mem_append_right _ List.mem_cons_self)
 obtain ⟨gd',hd⟩:=I.pinGet (a:=D) (List.mem_append_left _ (List.mem_append_right _ List.mem_cons_self))
 have I1:Inv X (pins++[(D,lob [] e1)]) σ H s:=I.unpinned
 obtain ⟨n2,g2,I2⟩:=I1.rawset (f:=fun _=>#[]) (its':=[]) hk (fK.more ne) gk rfl
 unfold ksk_tail
 refine wpAny_bind (listUpdate_at gk rfl ?_ (by simpa using hus) (by simp))
 refine wpAny_bind (wpAny_letGo ?_)
 obtain ⟨gd2,_⟩:=I2.pinGet (a:=D) (List.mem_append_right _ List.mem_cons_self)
 refine wpAny_bind (seqEpoch_at gd2 rfl ?_)
 have I3:Inv X pins σ H _:=I2.unpinned
 have hol:out.length≤sizeLine:=by rw [← hv.length];exact hz
 obtain ⟨n3,g3,I4⟩:=I3.rawset (f:=fun _=>out.toArray) (its':=out) hd fD gd2 rfl
 simp only [Bool.false_eq_true,if_false,hst]
 refine wpAny_bind (listUpdate_at gd2 rfl ?_ (by simp) (by simp;omega))
 have hb:(e1 != e1)=false:=by simp
 rw [hf]
 simp only [hb,Bool.false_eq_true,if_false]
 exact wpAny_pure (q _ (I4.catch hd fD g3 hv hz))
variable {k:Nat} {fn:Addr} {fd:FuncData} {ps:List Str} {F:List Sl→Option Rv}
theorem Zpd (Fo:FnOk X.prog X.w X.K X.mg X.base CX0 k fn fd ps (spD X.K F)) (hb:Binds X.K fd ps []) (I:Inv X pins σ H s) (A:Around) (hr:Room k A) (e0:Env0 X.prog X.w X.K X.mg X.base A X.stack s H) (nh:∀ a,N a→H a≠none) {x:D} {v:V} {u:Value} (d:Den X.K N H x v) (rv:RelV v u) {r:Rv} (hF:F [.val x]=some r)
  {E:Value→Shared→Prop} {Q:Value→Shared→Prop} (q:∀ u' s' v' H',Inv X pins σ H' s'→Same H H'→Den X.K N H' (ZaU F x) v'→RelV v' u'→Q u' s'):wpAny (model X.prog X.w) A (call (.ref fn) [u]) Q E s:=by
 have hsp:spD X.K F [v] H (fun v' H'=>Same H H'∧Den X.K N H' (ZaU F x) v') E0:=by
  refine ⟨N,[.val x],r,nh,?_,hF,fun v' H' hs ho=>⟨hs,?_⟩⟩
  ·exact ⟨v,[],rfl,d,rfl⟩
  ·have e:ZaU F x=rvD r:=by unfold ZaU;rw [hF];rfl
   rw [e]
   cases r with
   | val y=>exact ho
   | own ys fl =>
    obtain ⟨a,ws,e1,z1,z2,z3⟩:=ho
    simp only [rvD,Den]
    exact ⟨a,ws,e1,.of (fun z=>nh a z z1) z2,z3.nw fun b hb=>.inl (.inl hb)⟩
 have hl:([u]:List Value).length=ps.length:=by
  have:=Fo.len _ _ _ _ hsp
  simpa using this
 refine wpAny_call (codeAny_mono (Fo.run A X.stack s H ⟨[u],[]⟩ [u] [v] _ E0 hr e0 (by simpa using hb s [u] I.kIn (by simpa using hl)) (.cons rv .nil) hsp) fun r s' hq=>?_)
 cases r with
 | error e=>exact False.elim hq
 | ok fl =>
  cases fl with
  | ret u' =>
   obtain ⟨v',H',I',rv',hs,hd⟩:=I.after hq
   exact q u' s' v' H' I' hs hd rv'
  | next=>exact False.elim hq
  | brk=>exact False.elim hq
  | cont=>exact False.elim hq
theorem Same.none {H H':Hp} (h:Same H H') {a:Addr} (e:H' a=none):H a=none:=by
 cases q:H a with
 | none=>rfl
 | some o=>rw [h a o q] at e;cases e
theorem Zn1 (Fo:FnOk X.prog X.w X.K X.mg X.base CX0 k fn fd ps (spD X.K F)) (hb:Binds X.K fd ps []) (A:Around) (hr:Room k A) (hu:A.units+40<cLine) (hA:∀ s H,Env0 X.prog X.w X.K X.mg X.base X.A X.stack s H→Env0 X.prog X.w X.K X.mg X.base A X.stack s H)
  {da kS:Addr} {e1 e0:Nat} (I:Inv X (pins++[(da,lob [] e1)]++[(kS,lob [] e0)]) σ H s) (nh:∀ a,N a→H a≠none) {items:List Value} {xs:List V} {ds:List D} (fD:Off X pins da) (fK:Off X pins kS) (ne:da≠kS) (rv:Vals xs items) (dn:DenL X.K N H ds xs) (ok:SortOk F ds)
  {E:Value→Shared→Prop} {P:PySem.Fin→Shared→Prop} (q:∀ s' H' vs,Inv X pins σ (upd H' da (.lst vs)) s'→Same H H'→H' da=none→DenL X.K N H' (Zcw (ltF F) ds) vs→P (.done (.ret .none)) s') :
  wpAny (model X.prog X.w) A (ksk_rest da (.ref fn) false items.toArray e1 (.ref kS)) P E s:=by
 have l1:=dn.length
 have l2:=rv.length
 have few:=ok.few
 have hsl:sizeLine=16777216:=sizeLine_eq
 unfold ksk_rest
 refine wpAny_bind (wpAny_rule ?_)
 refine wpAny_bind (wpAny_forIn_array' _ (fun ZZ _ s'=>∃ (done:List Value) (H':Hp) (us:List Value) (kvs:List V) (e2:Nat),items=done++ZZ∧us.length=done.length∧Inv X (pins++[(da,lob [] e1)]++[(kS,lob us e2)]) σ H' s'∧Same H H'∧Vals kvs us∧DenL X.K N H' ((ds.take done.length).map (ZaU F)) kvs) _ ?_ ?_ items.toArray PUnit.unit ?_)
 ·rintro u ZZ b s1 ⟨done,H1,us,kvs,e2,hi,hl,I1,sm,rk,dk⟩
  have hdl:done.length<ds.length:=by
   have:=congrArg List.length hi
   simp at this
   omega
  have hx:ds[done.length]?=some ds[done.length]:=List.getElem?_eq_getElem hdl
  generalize ds[done.length]=x at hx
  obtain ⟨v,hv,dv⟩:=dn.get hx
  have ru:RelV v u:=by
   have:=ZdS rv [done.length]
   cases this with
   | cons a _ =>
    have e1:xs.getD done.length .non=v:=by simp [List.getD,hv]
    have e2:items.getD done.length .none=u:=by rw [hi];simp [List.getD]
    rw [← e1,← e2];exact a
  obtain ⟨r,hF⟩:=ok.tells x (List.mem_of_getElem? hx)
  refine wpAny_bind (wpAny_attempt ?_)
  refine Zpd (N:=N) Fo hb I1 A hr (hA _ _ I1.env0) (fun a ha z=>nh a ha (sm.none z)) (dv.same sm) ru hF fun u' s2 v' H2 I2 sm2 dv2 rv2=>?_
  obtain ⟨gk,hk⟩:=I2.pinGet (a:=kS) (List.mem_append_right _ List.mem_cons_self)
  have I3:Inv X (pins++[(da,lob [] e1)]) σ H2 s2:=I2.unpinned
  obtain ⟨n3,g3,I4⟩:=I3.rawset (f:=fun x=>x.push u') (its':=us++[u']) hk (fK.more ne) gk (by simp)
  refine wpAny_bind (listUpdate_at gk rfl ?_ (by simp;omega) (by simp;omega))
  refine wpAny_pure ?_
  refine ⟨done++[u],H2,us++[u'],kvs++[v'],n3,by rw [hi];simp,by simp [hl],I4.pin1 hk (fK.more ne) g3 (Zgv _ _),sm.trans sm2,rk.append (.cons rv2 .nil),?_⟩
  have e:(ds.take (done++[u]).length).map (ZaU F)=(ds.take done.length).map (ZaU F)++[ZaU F x]:=by
   rw [List.length_append,List.length_singleton,List.take_succ,hx]
   simp
  rw [e]
  exact (dk.same sm2).append (DenL.cons dv2 DenL.nil)
 ·rintro b s1 ⟨done,H1,us,kvs,e2,hi,hl,I1,sm,rk,dk⟩
  rw [List.append_nil] at hi
  subst hi
  obtain ⟨gk,hk⟩:=I1.pinGet (a:=kS) (List.mem_append_right _ List.mem_cons_self)
  obtain ⟨gd',hd⟩:=I1.pinGet (a:=da) (List.mem_append_left _ (List.mem_append_right _ List.mem_cons_self))
  refine wpAny_bind (listItems_at gk rfl ?_)
  have ht:ds.take items.length=ds:=List.take_of_length_le (by omega)
  rw [ht] at dk
  refine Zn4 (N:=N) I1 A hu ok dk rk (by omega) fun p st hp hs ha hf=>?_
  have hpl:p.length=ds.length:=by have:=hp.length_eq;simpa using this
  refine Znx A I1 fD fK ne (by omega) ha hf (ZdS rv p) (by rw [List.length_map];omega) fun s' J=>?_
  refine q s' H1 _ J sm hd ?_
  rw [← hs]
  exact ZiK (dn.same sm) p fun j hj=>by have:=hp.subset hj;simpa using this
 ·exact ⟨[],H,[],[],e0,by simp,rfl,I,Same.refl H,.nil,DenL.nil⟩
theorem Zii (Fo:FnOk X.prog X.w X.K X.mg X.base CX0 k fn fd ps (spD X.K F)) (hb:Binds X.K fd ps []) (A:Around) (hr:Room k A) (hu:A.units+40<cLine) (hA:∀ s H,Env0 X.prog X.w X.K X.mg X.base X.A X.stack s H→Env0 X.prog X.w X.K X.mg X.base A X.stack s H)
  (I:Inv X pins σ H s) (nh:∀ a,N a→H a≠none) {da:Addr} {items:List Value} {n0:Nat} {xs:List V} {ds:List D} (g:s.heap.get? da=some (lob items n0)) (hD:H da=none) (fD:Off X pins da) (rv:Vals xs items) (dn:DenL X.K N H ds xs) (ok:SortOk F ds)
  {E:Value→Shared→Prop} {P:PySem.Fin→Shared→Prop} (q:∀ s' H' vs,Inv X pins σ (upd H' da (.lst vs)) s'→Same H H'→H' da=none→DenL X.K N H' (Zcw (ltF F) ds) vs→P (.done (.ret .none)) s') :
  wpAny (model X.prog X.w) A (ksk_tree da (.ref fn) false) P E s:=by
 have l1:=dn.length
 have l2:=rv.length
 have few:=ok.few
 have hsl:sizeLine=16777216:=sizeLine_eq
 unfold ksk_tree
 refine wpAny_bind (listItems_at g rfl ?_)
 obtain ⟨n1,g1,I1⟩:=I.rawset (f:=fun _=>#[]) (its':=[]) hD fD g rfl
 refine wpAny_bind (listUpdate_at g rfl ?_ (by simp;omega) (by simp))
 refine wpAny_bind (seqEpoch_at g1 rfl ?_)
 refine wpAny_bind (wpAny_newTuple ?_ (by simp;omega))
 generalize hs1:({ heap:=s.heap.update da (Obj.mapSeq fun x=>#[]),gens:=s.gens,drawn:=s.drawn,toks:=s.toks,os:=s.os }:Shared)=s1 at *
 have g1':s1.heap.get? da=some (lob [] n1):=by rw [← hs1];exact g1
 have I2:=I1.kept (t':=s1.toks) (fun b u e=>Heap.get?_push_of_some { cls:=.type "tuple",data:=.seq items.toArray } e)
 have g2:=Heap.get?_push_of_some { cls:=.type "tuple",data:=.seq items.toArray } g1'
 generalize hs2:({ heap:=s1.heap.push { cls:=.type "tuple",data:=.seq items.toArray },gens:=s1.gens,drawn:=s1.drawn,toks:=s1.toks,os:=s1.os }:Shared)=s2 at *
 have g2':s2.heap.get? da=some (lob [] n1):=by rw [← hs2];exact g2
 refine wpAny_bind (wpAny_newList ?_ (by simp))
 have I3:=I2.kept (t':=s2.toks) (fun b u e=>Heap.get?_push_of_some (lob [] 0) e)
 have g3:=Heap.get?_push_of_some (lob [] 0) g2'
 have gk:=Heap.get?_push_size s2.heap (o:=lob [] 0) rfl
 have fK:=I2.off (Nat.le_refl s2.heap.objs.size)
 have hK:H s2.heap.objs.size=none:=I2.fresh
 have ne:da≠s2.heap.objs.size:=Nat.ne_of_lt (Heap.lt_size g2')
 refine wpAny_holding ?_
 exact Zn1 (N:=N) Fo hb A hr hu hA ((I3.pin1 hD fD g3 (Zgv _ _)).pin1 hK (fK.more ne) gk (Zgv _ _)) nh fD fK ne rv dn ok q
theorem ZkZ (Fo:FnOk X.prog X.w X.K X.mg X.base CX0 k fn fd ps (spD X.K F)) (hb:Binds X.K fd ps []) (hr:Room (k+2) X.A)
  (I:Inv X pins σ H s) (nh:∀ a,N a→H a≠none) {a:Addr} {xs:List V} {ds:List D} (hs:SqL X.K H a xs) (dn:DenL X.K N H ds xs) (ok:SortOk F ds) {Q:VK}
  (q:∀ da vs H',Same H H'→H da=none→H' da=some (.lst vs)→DenL X.K (fun b=>N b∨b=da) H' (Zcw (ltF F) ds) vs→Q (.ref da) H') :
  wpAny (model X.prog X.w) X.A (call (.builtin "sorted") [.ref a] [("key",.ref fn)]) (EP X pins σ Q) X.xe s:=by
 have l1:=dn.length
 have few:=ok.few
 have hsl:sizeLine=16777216:=sizeLine_eq
 obtain ⟨its,rv,⟨o,n,ho,hc,hdd,hd⟩,hz⟩:=I.list hs
 have l2:=rv.length
 refine wpAny_call (codeAny_call_builtin plain_sorted entry_sorted ?_)
 have hck:checkBuiltinCall "sorted" ⟨[.ref a],[("key",.ref fn)]⟩=pure ():=by rfl
 rw [hck]
 refine wpAny_pure ?_
 unfold PySem.Builtin.sorted
 have hcc:checkCount "sorted" 1 1 1=pure ():=rfl
 show wpAny _ _ (do checkCount "sorted" 1 1 1;let y ← collect (.ref a);let l ← newList y;let _ ← holding [l] (call (.builtin "list.sort") [l] [("key",.ref fn)]);ret l) _ _ _
 rw [hcc]
 refine wpAny_bind (wpAny_pure ?_)
 refine wpAny_bind (wpAny_collect_seq a (T:="list") (.inl rfl) ho hc hd (fun h1 k1=>?_) (by simp;omega))
 have I1:=I.kept (t':=s.toks) k1
 refine wpAny_bind (wpAny_newList ?_ (by simp;omega))
 generalize hs1:({ heap:=h1,gens:=s.gens,drawn:=s.drawn,toks:=s.toks,os:=s.os }:Shared)=s1 at *
 have I2:=I1.kept (t':=s1.toks) (fun b u e=>Heap.get?_push_of_some (lob its 0) e)
 have g:=Heap.get?_push_size s1.heap (o:=lob its 0) rfl
 have fD:=I1.off (Nat.le_refl s1.heap.objs.size)
 have hD:H s1.heap.objs.size=none:=I1.fresh
 refine wpAny_bind (wpAny_holding ?_)
 refine wpAny_call (codeAny_call_builtin PySem.F.slot_list_sort.plain PySem.F.entry_list_sort ?_)
 refine PySem.F.slot_list_sort.check _ _ _ _ _ _ _ _ ⟨_,g,rfl⟩ rfl ?_
 rw [ksk_t1]
 refine Zii (N:=N) Fo hb X.A.in1.in1 hr.in1.in1 ?_ (fun s H e=>e.in1.in1) I2 nh g hD fD rv dn ok fun s' H' vs J sm hn dv=>?_
 ·have:=hr.un;show X.A.units+1+1+40<_;omega
 ·refine wpAny_pure ?_
  refine ⟨.ref _,_,J,rfl,q _ vs _ (fun b u e=>?_) hD Zam ?_⟩
  ·rw [Zs (fun z=>by rw [z,hD] at e;cases e)];exact sm b u e
  ·exact DenL.step (M:=fun _=>False) ⟨fun b u e z=>by
    rw [Zs (fun z=>by rw [z,hn] at e;cases e)];exact e,fun b hb=>by
    rcases hb with hb | hb
    ·exact .inl hb
    ·subst hb;exact .inr hn⟩ _ _ dv
end
end L2
set_option Elab.async false
set_option linter.all false
set_option maxRecDepth 100000
namespace L2
open PySem PySem.Spec PyProof.Rows PySem.W
section
variable {X:Cx} {M:Fb} {H0:Hp} {k:Nat} {fn:Addr} {fd:FuncData} {ps:List Str} {F:List Sl→Option Rv} {e:Expr} {f:VE→Option D} {x y:Str} {p p2 kpos pos:Pos}
noncomputable def ZfW (F:List Sl→Option Rv) (f:VE→Option D):VE→Option (List D):=fun ρ=>match f ρ with
 | some (.lst xs)=>Zd8 F xs
 | _=>none
theorem Zoe (Fo:FnOk X.prog X.w X.K X.mg X.base CX0 k fn fd ps (spD X.K F)) (hr:Room (k+2) X.A) (hg:Gl X x) (hm:X.mg x=none) (hv:bootBuiltins x=some (.builtin "sorted")) (hgf:Gl X y) (hmf:X.mg y=some (.ref fn)) (hb:Binds X.K fd ps []) (he:PE X e (tP X.K M H0 f))
  (hn:x≠"__name__":=by decide) (hdb:(x==("__debug__":Str))=false:=by decide) (hdb2:(y==("__debug__":Str))=false:=by decide) (hs:starEach [e] X.env=(false,eval e X.env)::starEach [] X.env:=by exact Z1 (fun _ _ z=>nomatch z)) :
  PE X (.Call (.Name x p) [e] [⟨some "key",.Name y p2,kpos⟩] pos) (tF X.K M H0 (ZfW F f)):=by
 intro pins s σ H Q I h
 obtain ⟨ρ,ys,R,ev,q⟩:=h
 refine wpAny_Call_Name_kw (ZbR I hg hm hv ?_ hn hdb)
 unfold ZfW at ev
 split at ev
 ·next xs hf =>
  obtain ⟨ok,rfl⟩:=ZjA ev
  have ha:=(ZaO he (pa_nil (X:=X)) hs) pos pins s σ H (fun vs H1=>∃ v,vs=[v]∧Same H H1∧DenP X.K (Nf M ρ σ) H1 (.lst xs) v) I ⟨ρ,.lst xs,R,hf,fun v H1 s1 d1=>⟨v,rfl,s1,d1⟩⟩
  have hkw:=Zj7 (nm:=some "key") (kpos:=kpos) (ZkE (v:=.ref fn) (pos:=p2) hgf hmf rfl hdb2) (Zmm (X:=X))
  rw [hs] at ha ⊢
  refine callWith_builtin_kwB rfl rfl ?_
  unfold evalArgs
  refine wpAny_bind (thn ha fun us s1 hh=>?_)
  obtain ⟨vs,H1,I1,r1,v,rfl,sm,d1⟩:=hh
  refine wpAny_bind (wpAny_pure ?_)
  refine wpAny_holding ?_
  refine wpAny_bind (thn (hkw pos pins s1 σ H1 (fun zs H2=>zs=[.ref fn]∧H2=H1) I1 ⟨rfl,rfl⟩) fun ks s2 hh=>?_)
  obtain ⟨zs,H2,I2,r2,rfl,rfl⟩:=hh
  refine wpAny_bind (wpAny_pure ?_)
  refine wpAny_pure ?_
  obtain ⟨u,rfl,ru⟩:=ZaK r1
  obtain ⟨u2,rfl,ru2⟩:=ZaK r2
  cases ru2
  obtain ⟨a,ws,rfl,sq,dl⟩:=d1
  cases ru
  have R1:=R.st sm
  exact ZkZ (N:=Nf M ρ σ) Fo hb hr I2 R1.nh sq dl ok fun da vs H' s' hn' hd' dv=>q da vs H' (sm.trans s') (sm.none hn') hd' dv
 ·cases ev
theorem Zk4 (Fo:FnOk X.prog X.w X.K X.mg X.base CX0 k fn fd ps (spD X.K F)) (hr:Room (k+2) X.A) (hg:Gl X x) (hm:X.mg x=none) (hv:bootBuiltins x=some (.builtin "sorted")) (hgf:Gl X y) (hmf:X.mg y=some (.ref fn)) (hb:Binds X.K fd ps []) (he:JE X e (tP X.K M H0 f))
  (hn:x≠"__name__":=by decide) (hdb:(x==("__debug__":Str))=false:=by decide) (hdb2:(y==("__debug__":Str))=false:=by decide) (hs:starEach [e] X.env=(false,eval e X.env)::starEach [] X.env:=by exact Z1 (fun _ _ z=>nomatch z)) :
  JE X (.Call (.Name x p) [e] [⟨some "key",.Name y p2,kpos⟩] pos) (tF X.K M H0 (ZfW F f)):=⟨Zoe Fo hr hg hm hv hgf hmf hb he.h hn hdb hdb2 hs⟩
end
end L2
set_option Elab.async false
set_option linter.all false
set_option maxRecDepth 100000
namespace L2
open PySem PySem.Spec PyProof.Rows
section
variable {X:Cx} {K:PySem.W.Frag} {M:Fb} {H0:Hp} {pos:Pos} {tg elt iter:Expr} {ifs:List Expr} {scope:Scope} {ws:List Nat} {f:VE→Option (List D)} {b:D→VE→Option VE} {t:VE→Option Bool} {e:VE→Option D} {k:Nat} {oix:List Nat}
@[simp] theorem ZrO (xs:List D):Zi1 (.lst xs)=some xs:=rfl
end
end L2
set_option Elab.async false
set_option linter.all false
set_option maxRecDepth 100000
namespace L2
open PySem PySem.Spec PyProof.Rows PySem.W
theorem Zmp:typeLookup (.type "list") ("keys":Str)=pure none:=am_miss_of_fast (by kernel_rfl)
theorem Zo1 {prog:Program} {w:World} {A:Around} {E:Value→Shared→Prop} {s:Shared} {a:Addr} {its:Array Value} {Q:Option Value→Shared→Prop} (p:PlainL s.heap a its) (hA:A.handled=none)
  (q:∀ h' tk,(∀ b o,s.heap.get? b=some o→h'.get? b=some o)→Q none { s with heap:=h',toks:=tk }):wpAny (model prog w) A (getAttr? (.ref a) "keys") Q E s:=by
 obtain ⟨o,n,e,hc,hd,hs⟩:=p
 obtain ⟨c,dc,dt,sl⟩:=o
 dsimp only at hc hd hs
 subst hc hd hs
 obtain ⟨hp,g,d,tk,os⟩:=s
 have ty:∀ t,(⟨hp,g,d,t,os⟩:Shared).TypeIs (.ref a) "list":=fun _=>⟨_,e,rfl⟩
 have l1:=sub_AttributeError
 have l2:=F.slot_list_getattribute.lookup
 have l3:=F.slot_list_getattribute.bind (.ref a)
 have l4:=am_list_getattr_none
 unfold getAttr? getAttrBy? getAttrBy
 repeat (any_goals (first
  | assumption
  | exact ty _
  | ((with_reducible show wpAny _ _ (call (Value.builtin "list.__getattribute__") _ _) _ _ _)
     refine call_meets F.slot_list_getattribute (ty _) am_entry_list_getattribute (F.args_list_getattribute_2 _ _) (meets_getattribute_miss_list a its n sl "keys" _ Zmp (by decide +kernel) (by decide +kernel)) ⟨e,hA,fun h1 t1 x1 new=>?_⟩)
  | wp_step))
 obtain ⟨x2,x3,ex⟩:=new.there
 show wpAny _ _ (getattributeRaised _ _ _ _ _ _ _) _ _ _
 unfold getattributeRaised
 repeat (any_goals (first | assumption | wp_step))
 exact q h1 _ new.keeps
theorem ZeB:entryFor table "dict.update.loop"=some Builtin.«dict.update.loop»:=entryFor_of_tree (by kernel_rfl)
theorem ZbY:plainId "dict.update.loop"=true:=by decide +kernel
section
variable {X:Cx} {pins:List (Addr×Obj)} {σ:St} {H:Hp} {s:Shared} {A:Around} {E:Value→Shared→Prop} {tr:List T3} {a:Addr} {k:KT} {y v:V} {u r:Value}
theorem Zly {Q:Unit→Shared→Prop} (hu:A.units+1<cLine) (I:Inv X pins σ H s) (e:H a=some (dcO tr)) (hkeys:∀ t∈tr,ZbL X.K H t.1 t.2.1) (hk:ZeV k tr) (ky:ZbL X.K H k y) (ry:RelV y u) (rv:RelV v r) (hl:tr.length<sizeLine)
  (q:∀ h' t',Inv X pins σ (upd H a (dcO (ZbN tr k y v))) { s with heap:=h',toks:=t' }→Heap.SameBut a s.heap h'→Q () { s with heap:=h',toks:=t' }):wpAny (model X.prog X.w) A.in1 (dictSet a u r) Q E s:=by
 have h:IsDc X.K H a tr:=⟨.inl e,hkeys⟩
 have hl':(ZbN tr k y v).length≤sizeLine:=by have:=Zij tr k y v;omega
 cases k with
 | «at» b =>
  cases ky
  obtain ⟨z,hd,nd,us,rel,dd⟩:=ZfC I h hk
  have hz:us.length≤sizeLine:=by rw [← Paired.length rel];exact z
  refine wpAny_dictSet_pairs (knd:=ZV X.prog X.w) (hsz:=hz) (Zc1 ry) dd fun h' dd' hs=>q _ _ ?_ hs
  have he:∃ q,h'.get? a=some q:=let ⟨q,_,_,hq,_⟩:=dd';⟨q,hq⟩
  exact Ze6 I (by rw [e];exact True.intro) hs he (Zm7 hl' hd (Zde nd) (rel.put rv) dd')
 | tup l =>
  obtain ⟨p,ep,sq⟩:=ky
  subst ep
  cases (show u=Value.ref p from ry)
  obtain ⟨z,hd,nd,us,rel,dd⟩:=Zes I h hk
  have hz:us.length≤sizeLine:=by rw [← Paired.length rel];exact z
  refine wpAny_dictSet_heap (hsz:=hz) (tupleKind_room_in1 hu) (Zdr I sq) dd fun h' dd' hs=>q _ _ ?_ hs
  have he:∃ q,h'.get? a=some q:=let ⟨q,_,_,hq,_⟩:=dd';⟨q,hq⟩
  exact Ze6 I (by rw [e];exact True.intro) hs he (Zkn hl' hd (Zde nd) (rel.put rv) dd')
end
theorem Zhw {K:PySem.W.Frag} {H H':Hp} {k:KT} {v:V} (h:ZbL K H k v) (s:Same H H'):ZbL K H' k v:=by
 cases k with
 | «at» a=>exact h
 | tup l=>obtain ⟨p,e,sq⟩:=h;exact ⟨p,e,sq.same s⟩
def Zcp:KDs→List D→Option KDs
 | kvs,[]=>some kvs
 | kvs,.tup [y,d]::r=>match okK y with
  | some k=>if Zbs k kvs&&decide (kvs.length<sizeLine) then Zcp (Zav kvs k d) r else none
  | none=>none
 | _,_=>none
theorem ZnL {M:Model} {A:Around} {E:Value→Shared→Prop} {s:Shared} {p:Addr} {its:Array Value} {Q:List Value→Shared→Prop} (h:IsTup s.heap p its) (q:Q its.toList s):wpAny M A (Builtin.Dict.pairItems (.ref p)) Q E s:=by
 obtain ⟨o,e,hc,n,hd⟩:=h
 unfold Builtin.Dict.pairItems
 refine wpAny_bind (wpAny_typeOf (T:="tuple") ⟨o,e,hc⟩ ?_)
 rw [if_pos (by decide)]
 unfold seqItems?
 refine wpAny_bind (wpAny_bind (wpAny_load e ?_))
 rw [hd]
 exact wpAny_pure (wpAny_pure q)
section
variable {X:Cx} {pins:List (Addr×Obj)} {σ:St} {H:Hp} {A:Around} {a it l:Addr} {N:Fb} {us:List Value} {R:Result→Shared→Prop}
theorem Zgy (hu:A.units+1<cLine) (hA:A.in1.handled=none) (hH:H a=none) (fp:ZcR X pins H it) (hia:it≠a) (hil:l≠it) (hla:l≠a):∀ (ds:List D) (vs:List V) (ws:List Value) (i:Nat) (s:Shared) (kvs:KDs) (tr:List T3) (kvs':KDs),
  us.drop i=ws→Vals vs ws→DenL X.K N H ds vs→PD X.K N H kvs tr→Inv X pins σ (upd H a (dcO tr)) s→s.heap.IsListIter it l i→s.heap.IsList l us.toArray→Zcp kvs ds=some kvs' →
  (∀ s' tr',Inv X pins σ (upd H a (dcO tr')) s'→PD X.K N H kvs' tr'→R (.ok (.ret .none)) s') →
  codeAny (model X.prog X.w) A (.builtin "dict.update.loop" ⟨[.ref a,.ref it,rawInt (i:Int),.none],[]⟩) R s
 | [],vs,ws,i,s,kvs,tr,kvs',hd,hv,dn,pd,I,hit,hl,hf,q=>by
  cases dn
  cases hv
  cases hf
  refine codeAny_builtin ZeB ?_
  rw [Around.under_plainId ZbY _]
  show wpAny _ A.in1 (pyNext (.ref it) >>= _) _ _ s
  have hno:us.toArray[i]?=none:=by
   have:=List.drop_eq_nil_iff.mp hd
   simp [this]
  refine wpAny_bind (wpAny_pyNext_list_end hA hit hl hno fun h' ke=>?_)
  have I':=I.turned (t':=s.toks) (fun b o hb e=>ke b o hb e) (by rw [Zs hia];exact fp.1) fp.2.1 fp.2.2.2.1 fp.2.2.2.2.1 fp.2.2.2.2.2
  exact wpAny_bind (wpAny_pure (wpAny_pure (q _ tr I' pd)))
 | d::ds,vs,ws,i,s,kvs,tr,kvs',hd,hv,dn,pd,I,hit,hl,hf,q=>by
  simp only [DenL] at dn
  obtain ⟨v,vs',rfl,d1,dn'⟩:=dn
  cases hv with
  | @cons _ u _ ws' rv hv' =>
  unfold Zcp at hf
  split at hf
  ·cases ‹_::_=[]›
  ·next y dd r e1 =>
   cases e1
   cases hk:okK y with
   | none=>rw [hk] at hf;cases hf
   | some k =>
    rw [hk] at hf
    dsimp only at hf
    split at hf
    ·next hc =>
     rw [Bool.and_eq_true,decide_eq_true_eq] at hc
     have ey:=Zdp hk
     subst ey
     simp only [Den] at d1
     obtain ⟨p,vs2,rfl,sq,dl⟩:=d1
     simp only [DenL] at dl
     obtain ⟨kv,r2,rfl,dk,vv,r3,rfl,dv,rfl⟩:=dl
     cases rv
     have hat:us.toArray[i]?=some (.ref p):=by
      have h0:(us.drop i)[0]?=some (Value.ref p):=by rw [hd];rfl
      rw [List.getElem?_drop] at h0
      simpa using h0
     have hd':us.drop (i+1)=ws':=by
      rw [← List.tail_drop,hd];rfl
     refine codeAny_builtin ZeB ?_
     rw [Around.under_plainId ZbY _]
     show wpAny _ A.in1 (pyNext (.ref it) >>= _) _ _ s
     refine wpAny_bind (wpAny_pyNext_list_item hit hl hat fun h' hit' sb=>?_)
     have I':=I.turned (t':=s.toks) (fun b o hb e=>(sb.2 b hb).trans e) (by rw [Zs hia];exact fp.1) fp.2.1 fp.2.2.2.1 fp.2.2.2.2.1 fp.2.2.2.2.2
     have sm:Same H (upd H a (dcO tr)):=ZaH hH
     obtain ⟨its,rv2,ht,_⟩:=I'.tuple (sq.same sm)
     obtain ⟨u1,u2,rfl,r1,r2⟩:=Zh7 rv2
     have hl':h'.IsList l us.toArray:=hl.at fun o e=>(sb.2 l hil).trans e
     refine wpAny_bind (wpAny_holding ?_)
     refine wpAny_bind (wpAny_tryCatch (ZnL ht ?_))
     dsimp only
     refine wpAny_holding ?_
     refine Zly hu I' Zam (fun t ht=>Zhw (pd.keys t ht) sm) (pd.hom hc.1) (Zhw (Zdq dk) sm) r1 r2 (by have:=Paired.length pd;omega) fun h2 t2 I2 sb2=>?_
     rw [ZpG] at I2
     refine wpAny_pure ⟨plainId_quiet ZbY _,?_⟩
     have e2:rawInt ((i:Int)+1)=rawInt ((i+1:Nat):Int):=by simp
     rw [e2]
     refine Zgy hu hA hH fp hia hil hla ds vs' ws' (i+1) _ (Zav _ k dd) (ZbN tr k kv vv) kvs' hd' hv' dn' (pd.put dk dv) I2 ?_ ?_ hf q
     ·obtain ⟨o,e,hh⟩:=hit'
      exact ⟨o,(sb2.2 it hia).trans e,hh⟩
     ·exact hl'.at fun o e=>(sb2.2 l hla).trans e
    ·cases hf
  ·cases hf
theorem Zlx (hc:X.calm=true) (hu:X.A.units+64<cLine) {s:Shared} {E:Value→Shared→Prop} {Q:VK} (I:Inv X pins σ H s) {ds:List D} {vs:List V} {kvs:KDs} (sq:SqL X.K H l vs) (dn:DenL X.K N H ds vs) (hf:Zcp [] ds=some kvs)
  (q:∀ tr p,H p=none→PD X.K N H kvs tr→Q (.ref p) (upd H p (dcO tr))):wpAny (model X.prog X.w) X.A (call (.type "dict") [.ref l]) (EP X pins σ Q) E s:=by
 obtain ⟨us,rv,pl,hz⟩:=I.list sq
 have hlt:l<s.heap.objs.size:=by obtain ⟨o,n,e,_⟩:=pl;exact Heap.lt_size e
 have hA:X.A.handled=none:=I.ok.hd hc
 refine callType_codes (Q₁:=fun x s1=>x=.ref s.heap.objs.size∧s1={ s with heap:=s.heap.push { cls:=.type "dict",data:=.dict #[] } }) F.kt_called_dict (F.kt_typeCall_dict_1 (.ref l)) F.entry_dict_init (kt_code_dict_new (.ref l) ⟨rfl,rfl⟩) ?_
 rintro x s1 ⟨rfl,rfl⟩
 have hfr:H s.heap.objs.size=none:=I.hok.fresh (Nat.le_refl _)
 have I1:Inv X pins σ (upd H s.heap.objs.size (dcO [])) { s with heap:=s.heap.push { cls:=.type "dict",data:=.dict #[] } } :=
  I.laid (a:=s.heap.objs.size) (o:=dcO []) (t':=s.toks) (fun _ _ z=>Heap.get?_push_of_some _ z) (Nat.le_refl _) ⟨Nat.zero_le _,beq_eq_false_iff_ne.mpr (Ne.symm (Nat.ne_of_lt I.big)),List.nodup_nil,_,#[],0,Heap.get?_push_size _ rfl,⟨rfl,rfl,rfl⟩,rfl,rfl,rfl⟩
 have pl1:PlainL (s.heap.push { cls:=.type "dict",data:=.dict #[] }) l us.toArray:=by
  obtain ⟨o,n,e,hh⟩:=pl
  exact ⟨o,n,Heap.get?_push_of_some _ e,hh⟩
 have ty1:Shared.TypeIs { s with heap:=s.heap.push { cls:=.type "dict",data:=.dict #[] } } (.ref s.heap.objs.size) "dict":=⟨_,Heap.get?_push_size _ rfl,rfl⟩
 refine ⟨ty1,F.args_dict_init_2 _ _,?_⟩
 unfold Builtin.«dict.__init__» Builtin.Dict.selfAndRest
 refine wpAny_bind (wpAny_bind (wpAny_notOrdered_dict ty1 ?_))
 show wpAny _ _ (pure (s.heap.objs.size,[Value.ref l])) _ _ _
 refine wpAny_pure ?_
 show wpAny _ _ (Builtin.Dict.updateFrom "dict.__init__" s.heap.objs.size (.ref l) [] .none) _ _ _
 unfold Builtin.Dict.updateFrom
 refine wpAny_bind (wpAny_typeOf (T:="list") (by obtain ⟨o,n,e,hh,_⟩:=pl1;exact ⟨o,e,hh⟩) ?_)
 rw [if_pos (by decide)]
 refine wpAny_bind (Zo1 pl1 hA fun h2 t2 k2=>?_)
 rw [if_pos (show (none:Option Value).isNone=true from rfl)]
 have I2:=I1.kept (h':=h2) (t':=t2) k2
 have pl2:PlainL h2 l us.toArray:=by
  obtain ⟨o,n,e,hh⟩:=pl1
  exact ⟨o,n,k2 _ _ e,hh⟩
 refine wpAny_bind (wpAny_rule ?_)
 refine wpAny_bind (wpAny_pyIter_list pl2.isList ?_)
 have I3:=I2.kept (h':=h2.push { cls:=.type "list_iterator",data:=.fields #[.ref l,.int 0 0] }) (t':=t2) fun b o e=>Heap.get?_push_of_some _ e
 have hsz:s.heap.objs.size<h2.objs.size:=Heap.lt_size (k2 _ _ (Heap.get?_push_size _ rfl))
 have fp:ZcR X pins H h2.objs.size:=I2.fpOk (Nat.le_refl _) (by
  have:=I2.hok.fresh (a:=h2.objs.size) (Nat.le_refl _)
  rw [Zs (Nat.ne_of_gt hsz)] at this
  exact this)
 refine wpAny_pure ⟨plainId_quiet ZbY _,?_⟩
 refine Zgy (A:=X.A.in1) (N:=N) (us:=us) (by show X.A.units+1+1<cLine;omega) hA hfr fp (Nat.ne_of_gt hsz) (Nat.ne_of_lt (Nat.lt_trans hlt hsz)) (Nat.ne_of_lt hlt) ds vs us 0 _ [] [] kvs rfl rv dn .nil I3 ⟨_,Heap.get?_push_size _ rfl,rfl,rfl⟩ ?_ hf fun s' tr' I' pd=>?_
 ·exact pl2.isList.push _
 ·exact ⟨rfl,.ref s.heap.objs.size,_,I',rfl,q tr' _ hfr pd⟩
end
theorem Zl3:bootBuiltins "dict"=some (.type "dict"):=by kernel_rfl
def ZgP (f:VE→Option D):VE→Option (List D):=fun ρ=>match f ρ with
 | some (.lst xs)=>(Zcp [] xs).map ZI
 | _=>none
section
variable {X:Cx} {M:Fb} {H0:Hp} {e:Expr} {f:VE→Option D} {p pos:Pos}
theorem Zsq (hc:X.calm=true) (hu:X.A.units+64<cLine) (hg:Gl X "dict") (hm:X.mg "dict"=none) (he:PE X e (tP X.K M H0 f)) (hs:starEach [e] X.env=(false,eval e X.env)::starEach [] X.env:=by exact Z1 (fun _ _ z=>nomatch z)) :
  PE X (.Call (.Name "dict" p) [e] [] pos) (tFb true X.K M H0 (ZgP f)):=by
 intro pins s σ H Q I h
 obtain ⟨ρ,ys,R,ev,q⟩:=h
 unfold ZgP at ev
 split at ev
 ·next xs hf =>
  cases hp:Zcp [] xs with
  | none=>rw [hp] at ev;cases ev
  | some kvs =>
   rw [hp] at ev
   cases ev
   have ha:=(ZaO he (pa_nil (X:=X)) hs) pos pins s σ H (fun vs H1=>∃ v,vs=[v]∧Same H H1∧DenP X.K (Nf M ρ σ) H1 (.lst xs) v) I ⟨ρ,.lst xs,R,hf,fun v H1 s1 d1=>⟨v,rfl,s1,d1⟩⟩
   refine Call_ (ZbR I hg hm Zl3 (PyProof.Rows.callWith_type1 (thn ha fun us s1 hh=>?_) (by rw [hs]) rfl))
   obtain ⟨vs,H1,I1,r1,v,rfl,sm,d1⟩:=hh
   obtain ⟨u,rfl,ru⟩:=ZaK r1
   obtain ⟨a,ws,rfl,sq,dl⟩:=d1
   cases ru
   refine Zlx hc hu I1 sq dl hp fun tr b hb pd=>?_
   have:=ZfL (K:=X.K) (M:=M) (ρ:=ρ) (σ:=σ) (fl:=true) (Q:=Q) (xs:=ZI kvs) (vs:=ZaL tr) (p:=b) sm hb pd.flat q
   rw [Zf1 pd] at this
   exact this
 ·cases ev
theorem Zpt (hc:X.calm=true) (hu:X.A.units+64<cLine) (hg:Gl X "dict") (hm:X.mg "dict"=none) (he:JE X e (tP X.K M H0 f)) (hs:starEach [e] X.env=(false,eval e X.env)::starEach [] X.env:=by exact Z1 (fun _ _ z=>nomatch z)) :
  JE X (.Call (.Name "dict" p) [e] [] pos) (tFb true X.K M H0 (ZgP f)):=⟨Zsq hc hu hg hm he.h hs⟩
end
end L2
set_option Elab.async false
set_option linter.all false
set_option maxRecDepth 100000
namespace L2
open PySem PySem.Spec PyProof.Rows PySem.W
section
variable {X:Cx} {K:PySem.W.Frag} {M:Fb} {H0:Hp}
@[simp] def ZuJ:List D→Option D
  | [.int i]=>if i.natAbs.log2<1920 then some (.str (toString i)) else none
  | [.str z]=>some (.str z)
  | _=>none
@[simp] def ZuL:List D→Option D
  | [.str z]=>if z.length≤640 then (PySem.intText? z).map D.int else none
  | _=>none
@[simp] def Zt1 (z:Str):List D→Option D
  | [.str y]=>if (y.length==0)=false∧z.length≤sizeLine∧(Txt.split z y).length≤sizeLine then some (.lst ((Txt.split z y).map D.str)) else none
  | _=>none
end
end L2
set_option Elab.async false
set_option linter.all false
set_option maxRecDepth 100000
namespace L2
open PySem PySem.Spec PyProof.Rows
end L2
set_option Elab.async false
set_option linter.all false
set_option maxRecDepth 100000
namespace L2
open PySem PySem.Spec PyProof.Rows PySem.W
section
variable {X:Cx} {M:Fb} {H0:Hp} {e a b:Expr} {es:List Expr} {f:VE→Option D} {pos:Pos}
@[simp] def Zu2:Option D→Option D
  | some (.int i)=>if i.natAbs.log2<1920 then some (.str (toString i)) else none
  | some (.str z)=>if z.length≤sizeLine then some (.str z) else none
  | _=>none
def Zqr (acc:Str) (zs:List Str):Str:=zs.foldl (·++·) acc
@[simp] def ZuP (o:Option D) (p:Option (List Str)):Option (List Str):=match o,p with
  | some (.str z),some zs=>some (z::zs)
  | _,_=>none
@[simp] def ZuV (p:Option (List Str)):Option D:=match p with
  | some zs=>if (Zqr Str.empty zs).length≤sizeLine then some (.str (Zqr Str.empty zs)) else none
  | none=>none
end
end L2
set_option Elab.async false
set_option linter.all false
set_option maxRecDepth 100000
namespace L2
open PySem PySem.Spec PyProof.Rows PySem.W
section
variable {prog:Program} {w:World} {A:Around} {E:Value→Shared→Prop} {h:Heap} {g:Array GenState} {d:Drawn} {t:Nat} {os:OsState} {e C:Addr} {K:Frag}
end
end L2
set_option Elab.async false
set_option linter.all false
set_option maxRecDepth 100000
namespace L2
open PySem PySem.Spec PyProof.Rows PySem.W
structure Air (B:Heap) (l:List Env) (e:Addr) (C fl:Value) (h:Heap):Prop where
 stay:B.StaysIn h
 new:B.get? e=none
 fun_:h.FunFrames B l
 rcd:∃ oe vs,h.get? e=some oe∧oe.cls=C∧oe.data=.fields vs∧vs[2]?=some .none∧(vs[1]?=some .none∨∃ T oT ts,vs[1]?=some (.ref T)∧B.get? T=none∧T≠e∧h.get? T=some oT∧oT.data=.fields ts∧ts[3]?=some fl)
section
variable {M:Model} {A:Around} {E:Value→Shared→Prop} {s:Shared} {B:Heap} {l outer:List Env} {env:Env} {e L:Addr} {C fl:Value} {Q:Unit→Shared→Prop}
def Fly (P:Program) (w:World) (l:List Env) (H H':Hp) (s:Heap) (e C:Addr) (h:Heap):Prop :=
 Same H H'∧Un (frs l) [] H H' s h∧∃ B,HOk P w H' B∧(∀ b o,s.get? b=some o→H b=none→b∉frs l→B.get? b=some o)∧Air B l e (.ref C) .none h
def Thr (Y:Cx) (pins:List (Addr×Obj)) (σ:St) (H:Hp) (C:Addr) (e:Value) (s':Shared):Prop :=
 ∃ a H2 H' s2,e=.ref a∧Inv Y pins σ H2 s2∧Same H H2∧s'.os=s2.os∧AllBare s'.gens∧Fly Y.prog Y.w Y.stack H2 H' s2.heap a C s'.heap
theorem Thr.from {Y:Cx} {pins:List (Addr×Obj)} {σ:St} {H H1:Hp} {C:Addr} {v:Value} {s':Shared} (sm:Same H H1) (t:Thr Y pins σ H1 C v s'):Thr Y pins σ H C v s':=by
 obtain ⟨a,H2,H',s2,e1,I,sm2,r⟩:=t
 exact ⟨a,H2,H',s2,e1,I,sm.trans sm2,r⟩
end
end L2
set_option Elab.async false
set_option linter.all false
set_option maxRecDepth 100000
namespace L2
open PySem PySem.Spec PyProof.Rows PySem.W
section
variable {Y:Cx} {pins:List (Addr×Obj)} {σ:St} {H H2 H':Hp} {s s2 s':Shared} {x D G:Addr} {fl f0:Value} {B h h':Heap}
end
end L2
set_option Elab.async false
set_option linter.all false
set_option maxRecDepth 100000
namespace L2
open PySem PySem.Spec PyProof.Rows PySem.W
def ThrC (Y:Cx) (pins:List (Addr×Obj)) (σ:St) (H:Hp) (c:Str) (e:Value) (s':Shared):Prop:=∃ D,nsIn Y.K mainGlobals c=some (some (.ref D))∧Thr Y pins σ H D e s'
theorem ThrC.from {Y:Cx} {pins:List (Addr×Obj)} {σ:St} {H H1:Hp} {c:Str} {v:Value} {s':Shared} (sm:Same H H1) (t:ThrC Y pins σ H1 c v s'):ThrC Y pins σ H c v s':=by
 obtain ⟨D,e,t⟩:=t
 exact ⟨D,e,t.from sm⟩
section
variable {Y:Cx} {K:Frag} {M:Fb} {H0:Hp} {e:Expr} {es:List Expr} {st:Stmt} {ZZ a b:List Stmt} {h h1 h2:VE→Option Str} {g:VE→Res} {pos p np cpos:Pos} {fa:VE→Option (List Sl)} {x:Str}
@[simp] def nxO (r:Res) (h:VE→Option Str):Option Str:=match r with
  | .next ρ=>h ρ
  | _=>none
@[simp] def orX (o:Option Str) (r:Option Str):Option Str:=match o with
  | some c=>some c
  | none=>r
@[simp] def ZuN (t:Option Bool) (a b:Option Str):Option Str:=match t with
  | some true=>a
  | some false=>b
  | none=>none
@[simp] def ZuM (o:Option (List Sl)) (x:Str):Option Str:=match o with
  | some [_]=>some x
  | _=>none
theorem Rel.more {ρ:VE} {σ:St} {H:Hp} {y C:Addr} (R:Rel K M H0 ρ σ H) (hy:H y=some (.ext (XAt y C))):Rel K M (upd H0 y (.ext (XAt y C))) ρ σ H where
 len:=R.len
 same:=fun b o z=>by
  by_cases e:b=y
  ·rw [e,Zam] at z;rw [e,hy,z]
  ·rw [Zs e] at z;exact R.same b o z
 mh:=R.mh
 slot:=fun j sl z=>by
  have q:=R.slot j sl z
  cases sl with
  | no=>trivial
  | val d=>exact q
  | lent xs fl=>exact q
  | exc c=>exact q
  | own xs fl =>
   obtain ⟨b,vs,e1,h1,h2,h3,h4⟩:=q
   refine ⟨b,vs,e1,?_,h2,h3,h4⟩
   rw [Zs (fun e=>by rw [e,hy] at h3;cases fl<;>cases h3)];exact h1
 inj:=R.inj
@[simp] def Zto:Res→Res
  | .ret r=>.ret r
  | _=>.fail
@[simp] def ZuK (cs:List Str) (i:Nat) (o:Option Str) (r:Res) (g:VE→Res) (ρ:VE):Res:=match o with
  | none=>r
  | some c=>if cs.contains c=true then Zto (g (ρ.set i (.exc c))) else .fail
end
end L2
set_option Elab.async false
set_option linter.all false
set_option maxRecDepth 100000
namespace L2
open PySem PySem.Spec PyProof.Rows PySem.W
section
variable {prog:Program} {w:World} {A:Around} {E:Value→Shared→Prop} {s:Shared} {x C:Addr}
theorem XAt.at {h h':Heap} (p:XAt x C h) (k:∀ o,h.get? x=some o→h'.get? x=some o):XAt x C h':=let ⟨o,vs,h1,r⟩:=p;⟨o,vs,k o h1,r⟩
end
section
variable {Y:Cx} {K:Frag} {M:Fb} {H0:Hp} {x:Addr}
@[simp] def isX (i:Nat) (cs:List Str) (f:Str→Bool) (ρ:VE):Option D:=match ρ[i]? with
  | some (.exc c)=>if cs.contains c=true then some (.bl (f c)) else none
  | _=>none
end
end L2
set_option Elab.async false
set_option linter.all false
set_option maxRecDepth 100000
namespace L2
open PySem PySem.Spec PyProof.Rows PySem.W
section
variable {K:Frag} {C D G:Addr} {b:Bool} {cd:ClassData}
end
section
variable {Y:Cx} {K:Frag} {M:Fb} {H0:Hp} {b:List Stmt} {h h':VE→Option Str}
end
end L2
set_option Elab.async false
set_option linter.all false
set_option maxRecDepth 100000
set_option maxHeartbeats 4000000
namespace L2
open PySem PySem.Spec PyProof.Rows
section
variable {X:Cx} {K:PySem.W.Frag} {M:Fb} {H0:Hp} {pos:Pos} {st:Stmt}
@[simp] def ZuW (i:Nat) (ρ:VE):Res:=match rdO ρ i with
  | some _=>.next (ρ.set i (.own []))
  | _=>.fail
@[simp] def ZuY (c:Bool) (a b:Res):Res:=if c=true then a else b
def ZsH:D→D→Option D
 | .bl i,.bl j=>some (.bl (!decide (i=j)))
 | _,_=>none
@[simp] theorem ZtU (i j:Bool):ZsH (.bl i) (.bl j)=some (.bl (!decide (i=j))):=rfl
@[simp] def ZuI (i:Nat) (ρ:VE):Bool:=match ρ[i]? with
  | some (.own _ false)=>true
  | _=>false
end
end L2
set_option Elab.async false
set_option linter.all false
set_option maxRecDepth 100000
namespace L2
open PySem PySem.Spec PyProof.Rows
def ZlE (i j:Int):Prop:=0<j∧j<2^100
instance (i j:Int):Decidable (ZlE i j):=by unfold ZlE;exact inferInstance
section
variable {X:Cx} {K:PySem.W.Frag} {M:Fb} {H0:Hp} {a b:Expr} {f g:VE→Option D} {pos:Pos}
@[simp] def ZuH:D→D→Option D:=i2 fun i j=>if ZlE i j then some (.int (i / j)) else none
end
end L2
set_option Elab.async false
set_option linter.all false
set_option maxRecDepth 100000
namespace L2
open PySem PySem.Spec PyProof.Rows
def Zts (K:PySem.W.Frag):V→List V→Hp→VK→Prop:=fun x xs H Q=>∃ a tr k y z,x=.ref a∧xs=[y,z]∧IsDc K H a tr∧ZeV k tr∧ZbL K H k y∧(∀ v,ZaY tr k=some v→Q v H)∧(ZaY tr k=none→Q z H)
section
variable {X:Cx}
theorem Zqf (hu:X.A.units+64<cLine):MtR X "dict.get" (Zts X.K):=by
 intro pins s σ H x xs v us Q I rx rs h
 obtain ⟨a,tr,k,y,z,rfl,rfl,hd,hk,ky,q1,q2⟩:=h
 cases rx
 obtain ⟨u1,u2,rfl,ry,rz⟩:=rs.two
 cases k with
 | «at» b =>
  cases ky
  obtain ⟨zz,hs,nd,us,rel,dd⟩:=ZfC I hd hk
  have h1:=rel.val b
  refine call_meetsIn PySem.F.slot_dict_get dd.typeIs PySem.F.entry_dict_get (PySem.F.args_dict_get_3 _ _ _) (meets_dict_get_default (ZV X.prog X.w) a (Zc1 ry) hs u2) ⟨_,dd.mapOf,?_⟩
  cases hv:ZaY tr (.at b) with
  | none =>
   cases hw:valueAt us b with
   | none=>exact ⟨z,H,I.tok _,rz,q2 hv⟩
   | some w=>rw [hv,hw] at h1;exact h1.elim
  | some w =>
   cases hw:valueAt us b with
   | none=>rw [hv,hw] at h1;exact h1.elim
   | some w'=>rw [hv,hw] at h1;exact ⟨w,H,I.tok _,h1,q1 w hv⟩
 | tup l =>
  obtain ⟨p,ep,sq⟩:=ky
  subst ep
  cases (show u1=Value.ref p from ry)
  obtain ⟨zz,hs,nd,us,rel,dd⟩:=Zes I hd hk
  have h1:=rel.val l
  refine call_meetsIn PySem.F.slot_dict_get dd.typeIs PySem.F.entry_dict_get (PySem.F.args_dict_get_3 _ _ _) (meetsH_dict_get_default (tupleKind (ZV X.prog X.w)) a p hs u2) ⟨tupleKind_room_in1 (by omega),l,us,Zdr I sq,dd,?_⟩
  cases hv:ZaY tr (.tup l) with
  | none =>
   cases hw:atKey us l with
   | none=>exact ⟨z,H,I.tok _,rz,q2 hv⟩
   | some w=>rw [hv,hw] at h1;exact h1.elim
  | some w =>
   cases hw:atKey us l with
   | none=>rw [hv,hw] at h1;exact h1.elim
   | some w'=>rw [hv,hw] at h1;exact ⟨w,H,I.tok _,h1,q1 w hv⟩
def dgF (i:Nat) (fk fv:VE→Option D):VE→Option D:=fun ρ=>match rdG ρ i,fk ρ,fv ρ with
 | some xs,some y,some d=>match unf xs,okK y with
  | some kvs,some k=>if Zbs k kvs then some ((ZO kvs k).getD d) else none
  | _,_=>none
 | _,_,_=>none
variable {K:PySem.W.Frag} {M:Fb} {H0:Hp} {ek ev:Expr} {fk fv:VE→Option D} {pos:Pos}
theorem ZmR {i:Nat} {x:Str} {vpos apos cpos:Pos} (hu:X.A.units+64<cLine) (hk:JE X ek (tP X.K M H0 fk)) (hv':JE X ev (tD X.K M H0 fv)) (hN:X.N[i]?=some x:=by rfl) (hv:Vis X.env.scope x:=by first | exact Or.inl rfl | exact Or.inr (Or.inl rfl) | exact Or.inr (Or.inr rfl)) (hd:(x==("__debug__":Str))=false:=by decide) (hcd:(x==("__classdict__":Str))=false:=by decide)
  (hbase:attributeBase (.Name x vpos) "get" X.env (eval (.Name x vpos) X.env)=eval (.Name x vpos) X.env:=by rfl)
  (hfew:((backTo cpos (starEach [ek,ev] X.env)).all (fun x=>!x.1)&&(backToKw cpos (keywordEach [] X.env)).all (fun x=>x.1.isSome)
   && decide ([ek,ev].length+([]:List Keyword).length+(if ([]:List Keyword).isEmpty then 0 else 1)<30))=true:=by rfl)
  (hline:(apos.endLine==cpos.line)=true:=by rfl) (hst:starEach [ek,ev] X.env=(false,eval ek X.env)::starEach [ev] X.env:=by exact Z1 (fun _ _ z=>nomatch z)) (hst2:starEach [ev] X.env=(false,eval ev X.env)::starEach [] X.env:=by exact Z1 (fun _ _ z=>nomatch z)) (hpl:(backTo cpos (starEach [ev] X.env)).any (·.1)=false:=by rfl) :
  JE X (.Call (.Attribute (.Name x vpos) "get" apos) [ek,ev] [] cpos) (tD X.K M H0 (dgF i fk fv)) :=
 ⟨(Zk7 PySem.F.plainAttrs_dict PySem.F.slot_dict_get PySem.F.type_dict_get (Zqf hu) (Zc4 hN hv hd hcd) (ZaO hk.h (ZaO hv'.h pa_nil hst2) hst) hbase hfew hline hst hpl).mono fun σ H Q h=>by
   obtain ⟨ρ,d,R,ex,q⟩:=h
   unfold dgF at ex
   split at ex
   ·next xs y dv hr hfk hfv =>
    split at ex
    ·next kvs k hun hkk =>
     split at ex
     ·next hh =>
      cases ex
      have hi':=Ziv hr
      have exs:=ZcL hun
      subst exs
      obtain ⟨a,vs,e1,z1,z2,z3,z4⟩:=R.slot i _ hi'
      have ha:=join_some e1
      have tv:tyV X.K "dict" (.ref a) H:=.inr (.inr (.inl ⟨rfl,.inr (.inr ⟨_,_,.inl z3⟩)⟩))
      refine ⟨.ref a,ha,tv,ρ,y,R,hfk,fun w H1 s1 hw=>⟨ρ,dv,R.st s1,hfv,fun v H2 s2 hv=>?_⟩⟩
      have s:=s1.trans s2
      obtain ⟨tr,e',pd⟩:=Zib (z4.same s)
      subst e'
      rw [Zdp hkk] at hw
      have hw2:=ZdA (hw.same s2)
      have hval:=pd.val k
      refine ⟨a,tr,k,w,v,rfl,rfl,⟨.inl (show H2 a=some (dcO tr) by rw [← Zf1 pd];exact s _ _ z3),pd.keys⟩,pd.hom hh,Zdq hw2,fun u hu'=>?_,fun hn=>?_⟩
      ·rw [hu'] at hval
       cases hvl:ZO kvs k with
       | none=>rw [hvl] at hval;exact hval.elim
       | some d0 =>
        rw [hvl] at hval q
        exact q u H2 s hval
      ·rw [hn] at hval
       cases hvl:ZO kvs k with
       | some d0=>rw [hvl] at hval;exact hval.elim
       | none =>
        rw [hvl] at q
        exact q v H2 s hv
     ·cases ex
    ·cases ex
   ·cases ex⟩
end
end L2
set_option Elab.async false
set_option linter.all false
set_option maxRecDepth 100000
set_option maxHeartbeats 4000000
namespace L2
open PySem PySem.Spec PyProof.Rows
abbrev Z6 (h:Heap) (T:Addr) (a b c:Value):Prop:=h.get? T=some { cls:=.type "tuple",data:=.seq #[a,b,c] }
section
variable {prog:Program} {w:World} {A:Around} {E:Value→Shared→Prop} {s:Shared}
theorem ZdJ {T:Addr} {a b c x:Value} {k:Nat} {Q:Unit→Shared→Prop} (hT:Z6 s.heap T a b c)
  (h:∀ h',h'.get? T=some { cls:=.type "tuple",data:=.seq ((#[a,b,c]:Array Value).setIfInBounds k x) }→Heap.SameBut T s.heap h'→Q () { s with heap:=h' }) :
  wpAny (model prog w) A (updateSeq T (·.setIfInBounds k x)) Q E s:=by
 refine wpAny_updateSeq hT rfl (h _ ?_ (Heap.SameBut.update ..))
 rw [Heap.get?_update_self _ hT rfl]
 simp [Obj.mapSeq]
theorem Z5 {i:Addr} {f:List Addr} {n k:Nat} {is:Nat→Value→Prop} {st:Nat→Heap→Prop} (S:ZaJ prog w i f n is st) {h h':Heap} (q:st k h) {c:Addr} (hc:i≠c) (hf:∀ x∈f,x≠c) (sb:Heap.SameBut c h h'):st k h' :=
 S.frame k h h' q fun x hx o e=>sb.extBut x o (by rcases hx with rfl | hx;exact hc;exact hf x hx) e
structure ZA3 (z tin tout ia ib ic:Addr) (fa fb fc:List Addr):Prop where
 z1:tin≠z
 z2:tout≠z
 z3:ia≠z
 z4:ib≠z
 z5:ic≠z
 a1:tout≠ia
 a2:tout≠ib
 a3:tout≠ic
 b1:ia≠ib
 b2:ia≠ic
 b3:ib≠ic
 fA:∀ b∈fa,b≠z∧b≠tout∧b≠ib∧b≠ic
 fB:∀ b∈fb,b≠z∧b≠tout∧b≠ia∧b≠ic
 fC:∀ b∈fc,b≠z∧b≠tout∧b≠ia∧b≠ib
variable {z tin tout ia ib ic:Addr} {fa fb fc:List Addr} {n m l k:Nat} {isA isB isC:Nat→Value→Prop} {sa sb sc:Nat→Heap→Prop} {a b c:Value}
theorem ZlU {Q:Option Value→Shared→Prop} (D:ZA3 z tin tout ia ib ic fa fb fc) (SA:ZaJ prog w ia fa n isA sa) (SB:ZaJ prog w ib fb m isB sb) (SC:ZaJ prog w ic fc l isC sc)
  (hz:IsZip s.heap z tin tout .none) (hi:Z6 s.heap tin (.ref ia) (.ref ib) (.ref ic)) (ho:Z6 s.heap tout a b c) (ha:sa k s.heap) (hb:sb k s.heap) (hc:sc k s.heap) (kn:k<n) (km:k<m) (kl:k<l)
  (q:∀ x y v h',isA k x→isB k y→isC k v→IsZip h' z tin tout (rawInt s.heap.objs.size)→Z6 h' tout x y v→sa (k+1) h'→sb (k+1) h'→sc (k+1) h'→Z6 h' s.heap.objs.size x y v→h'.objs.size=s.heap.objs.size+1 →
   (∀ c o,c≠z→c≠tout→c≠ia→c≠ib→c≠ic→s.heap.get? c=some o→h'.get? c=some o)→Q (some (.ref s.heap.objs.size)) { s with heap:=h' }) :
  wpAny (model prog w) A (pyNext (.ref z)) Q E s:=by
 have ty:s.TypeIs (.ref z) "zip":=⟨_,hz,rfl⟩
 unfold pyNext
 refine wpAny_bind (wpAny_attempt (wpAny_callSpecial?_slot (name:=Str.ofString "__next__") ty PySem.F.slot_zip_next (wpAny_call_entry PySem.F.slot_zip_next ty PySem.F.entry_zip_next ?_ (PySem.F.args_zip_next_1 _))))
 show wpAny _ _ (field (.ref z) 2 >>= _) _ _ _
 refine wpAny_bind (wpAny_field hz rfl (x:=.bool false) rfl ?_)
 show wpAny _ _ (field (.ref z) 3 >>= _) _ _ _
 refine wpAny_bind (wpAny_field hz rfl (x:=.ref tin) rfl ?_)
 refine wpAny_bind (wpAny_seqItems hi rfl ?_)
 show wpAny _ _ (Builtin.SmallTypes.ownedTupleIsFree (.ref z) >>= _) _ _ _
 refine wpAny_bind ?_
 unfold Builtin.SmallTypes.ownedTupleIsFree
 refine wpAny_bind (wpAny_field hz rfl (x:=.none) rfl (wpAny_pure ?_))
 rw [if_pos rfl]
 refine wpAny_bind (wpAny_rule ?_)
 refine wpAny_bind (wpAny_field hz rfl (x:=.ref tout) rfl ?_)
 refine wpAny_bind (wpAny_setField_rec hz (by simp) fun g1 z1 b1=>?_)
 have z1:IsZip g1 z tin tout .ellipsis:=z1
 have fA1:=fun x hx=>(D.fA x hx).1
 have fA2:=fun x hx=>(D.fA x hx).2.1
 have fA3:=fun x hx=>(D.fA x hx).2.2.1
 have fA4:=fun x hx=>(D.fA x hx).2.2.2
 have fB1:=fun x hx=>(D.fB x hx).1
 have fB2:=fun x hx=>(D.fB x hx).2.1
 have fB3:=fun x hx=>(D.fB x hx).2.2.1
 have fB4:=fun x hx=>(D.fB x hx).2.2.2
 have fC1:=fun x hx=>(D.fC x hx).1
 have fC2:=fun x hx=>(D.fC x hx).2.1
 have fC3:=fun x hx=>(D.fC x hx).2.2.1
 have fC4:=fun x hx=>(D.fC x hx).2.2.2
 refine wpAny_bind ?_
 simp only [List.zipIdx_nil,List.zipIdx_cons,List.forIn_nil,List.forIn_cons]
 refine wpAny_bind (wpAny_bind (wpAny_onRaise ?_))
 show wpAny _ _ (Builtin.SmallTypes.nextOf (.ref ia) >>= _) _ _ _
 refine wpAny_bind (SA.item _ _ _ k _ kn (Z5 SA ha D.z3 fA1 b1) fun x g2 hx a2 b2=>wpAny_pure ?_)
 have o2:Z6 g2 tout a b c:=b2.extBut _ _ D.a1 (b1.extBut _ _ D.z2 ho)
 refine wpAny_bind (wpAny_seqItems o2 rfl ?_)
 refine wpAny_bind (ZdJ o2 fun g3 o3 b3=>?_)
 have o3:Z6 g3 tout x b c:=o3
 refine wpAny_bind (wpAny_letGo (wpAny_pure ?_))
 refine wpAny_bind (wpAny_bind (wpAny_onRaise ?_))
 show wpAny _ _ (Builtin.SmallTypes.nextOf (.ref ib) >>= _) _ _ _
 have hb3:sb k g3:=Z5 SB (Z5 SB (Z5 SB hb D.z4 fB1 b1) (Ne.symm D.b1) fB3 b2) (Ne.symm D.a2) fB2 b3
 refine wpAny_bind (SB.item _ _ _ k _ km hb3 fun y g4 hy a4 b4=>wpAny_pure ?_)
 have o4:Z6 g4 tout x b c:=b4.extBut _ _ D.a2 o3
 refine wpAny_bind (wpAny_seqItems o4 rfl ?_)
 refine wpAny_bind (ZdJ o4 fun g5 o5 b5=>?_)
 have o5:Z6 g5 tout x y c:=o5
 refine wpAny_bind (wpAny_letGo (wpAny_pure ?_))
 refine wpAny_bind (wpAny_bind (wpAny_onRaise ?_))
 show wpAny _ _ (Builtin.SmallTypes.nextOf (.ref ic) >>= _) _ _ _
 have hc5:sc k g5:=Z5 SC (Z5 SC (Z5 SC (Z5 SC (Z5 SC hc D.z5 fC1 b1) (Ne.symm D.b2) fC3 b2) (Ne.symm D.a3) fC2 b3) (Ne.symm D.b3) fC4 b4) (Ne.symm D.a3) fC2 b5
 refine wpAny_bind (SC.item _ _ _ k _ kl hc5 fun v g6 hv a6 b6=>wpAny_pure ?_)
 have o6:Z6 g6 tout x y c:=b6.extBut _ _ D.a3 o5
 refine wpAny_bind (wpAny_seqItems o6 rfl ?_)
 refine wpAny_bind (ZdJ o6 fun g7 o7 b7=>?_)
 have o7:Z6 g7 tout x y v:=o7
 refine wpAny_bind (wpAny_letGo (wpAny_pure (wpAny_pure ?_)))
 refine wpAny_bind (wpAny_seqItems o7 rfl ?_)
 refine wpAny_bind (wpAny_newTuple ?_)
 have sz:g7.objs.size=s.heap.objs.size:=by rw [b7.1,b6.1,b5.1,b4.1,b3.1,b2.1,b1.1]
 have z7:IsZip g7 z tin tout .ellipsis:=b7.extBut _ _ (Ne.symm D.z2) (b6.extBut _ _ (Ne.symm D.z5) (b5.extBut _ _ (Ne.symm D.z2) (b4.extBut _ _ (Ne.symm D.z4) (b3.extBut _ _ (Ne.symm D.z2) (b2.extBut _ _ (Ne.symm D.z3) z1)))))
 have kp:∀ c o,c≠z→c≠tout→c≠ia→c≠ib→c≠ic→s.heap.get? c=some o→g7.get? c=some o:=fun c o c1 c2 c3 c4 c5 e =>
  b7.extBut _ _ c2 (b6.extBut _ _ c5 (b5.extBut _ _ c2 (b4.extBut _ _ c4 (b3.extBut _ _ c2 (b2.extBut _ _ c3 (b1.extBut _ _ c1 e))))))
 have a7:sa (k+1) g7:=Z5 SA (Z5 SA (Z5 SA (Z5 SA (Z5 SA a2 (Ne.symm D.a1) fA2 b3) D.b1 fA3 b4) (Ne.symm D.a1) fA2 b5) D.b2 fA4 b6) (Ne.symm D.a1) fA2 b7
 have b7':sb (k+1) g7:=Z5 SB (Z5 SB (Z5 SB a4 (Ne.symm D.a2) fB2 b5) D.b3 fB4 b6) (Ne.symm D.a2) fB2 b7
 have c7':sc (k+1) g7:=Z5 SC a6 (Ne.symm D.a3) fC2 b7
 have zlt:z<g7.objs.size:=Heap.lt_size z7
 show wpAny _ _ (Builtin.SmallTypes.ownedTupleHandOut (.ref z) (.ref g7.objs.size) >>= _) _ _ _
 refine wpAny_bind ?_
 unfold Builtin.SmallTypes.ownedTupleHandOut
 have z8:IsZip (g7.push { cls:=.type "tuple",data:=.seq #[x,y,v] }) z tin tout .ellipsis:=Heap.get?_push_of_some _ z7
 refine wpAny_bind (wpAny_setField_rec z8 (by simp) fun g9 z9 b9=>?_)
 have z9:IsZip g9 z tin tout (rawInt g7.objs.size):=z9
 refine wpAny_setField_rec z9 (by simp) fun gA zA bA=>?_
 have zA:IsZip gA z tin tout (rawInt g7.objs.size):=zA
 have up:∀ c o,c≠z→g7.get? c=some o→gA.get? c=some o:=fun c o c1 e=>bA.extBut _ _ c1 (b9.extBut _ _ c1 (Heap.get?_push_of_some _ e))
 have new:Z6 gA g7.objs.size x y v:=bA.extBut _ _ (Nat.ne_of_gt zlt) (b9.extBut _ _ (Nat.ne_of_gt zlt) (Heap.get?_push_size _ rfl))
 have sA:gA.objs.size=g7.objs.size+1:=by rw [bA.1,b9.1,Heap.size_push]
 have fin:∀ {i:Addr} {f:List Addr} {n:Nat} {is:Nat→Value→Prop} {st:Nat→Heap→Prop} (S:ZaJ prog w i f n is st),i≠z→(∀ x∈f,x≠z)→st (k+1) g7→st (k+1) gA:=fun S hi hf q=>S.frame _ _ _ q fun c hc o e=>up c o (by rcases hc with rfl | hc;exact hi;exact hf c hc) e
 rw [sz] at zA new sA
 refine wpAny_pure ⟨_,rfl,wpAny_pure ?_⟩
 show Q (some (.ref g7.objs.size)) _
 rw [sz]
 exact q x y v gA hx hy hv zA (up _ _ D.z2 o7) (fin SA D.z3 fA1 a7) (fin SB D.z4 fB1 b7') (fin SC D.z5 fC1 c7') new sA fun c o c1 c2 c3 c4 c5 e=>up c o c1 (kp c o c1 c2 c3 c4 c5 e)
theorem Zny {Q:Option Value→Shared→Prop} (hh:A.handled=none) (D:ZA3 z tin tout ia ib ic fa fb fc) (SA:ZaJ prog w ia fa n isA sa) (SB:ZaJ prog w ib fb m isB sb) (SC:ZaJ prog w ic fc l isC sc)
  (hz:IsZip s.heap z tin tout .none) (hi:Z6 s.heap tin (.ref ia) (.ref ib) (.ref ic)) (ho:Z6 s.heap tout a b c) (ha:sa k s.heap) (hb:sb k s.heap) (hc:sc k s.heap) (kn:n≤k∨m≤k∨l≤k)
  (q:∀ h',(∀ c o,c≠z→c≠tout→c≠ia→c≠ib→c≠ic→s.heap.get? c=some o→h'.get? c=some o)→Q none { s with heap:=h' }) :
  wpAny (model prog w) A (pyNext (.ref z)) Q E s:=by
 have ty:s.TypeIs (.ref z) "zip":=⟨_,hz,rfl⟩
 unfold pyNext
 refine wpAny_bind (wpAny_attempt (wpAny_callSpecial?_slot (name:=Str.ofString "__next__") ty PySem.F.slot_zip_next (wpAny_call_entry PySem.F.slot_zip_next ty PySem.F.entry_zip_next ?_ (PySem.F.args_zip_next_1 _))))
 have last:∀ (h':Heap) (e:Addr),(∀ c o,c≠z→c≠tout→c≠ia→c≠ib→c≠ic→s.heap.get? c=some o→h'.get? c=some o)→(∃ o,h'.get? e=some o∧o.cls=.type "StopIteration") →
   wpAny (model prog w) A (do if (← isInstance (.ref e) (.type "StopIteration"))=true then pure (none:Option Value) else throw (Value.ref e)) Q E { s with heap:=h' }:=fun h' e kp ⟨o,e1,c1⟩ =>
  wpAny_bind (wpAny_isInstance (T:="StopIteration") (b:=true) ⟨o,e1,c1⟩ isSubtype_stop (wpAny_pure (q h' kp)))
 show wpAny _ _ (field (.ref z) 2 >>= _) _ _ _
 refine wpAny_bind (wpAny_field hz rfl (x:=.bool false) rfl ?_)
 show wpAny _ _ (field (.ref z) 3 >>= _) _ _ _
 refine wpAny_bind (wpAny_field hz rfl (x:=.ref tin) rfl ?_)
 refine wpAny_bind (wpAny_seqItems hi rfl ?_)
 show wpAny _ _ (Builtin.SmallTypes.ownedTupleIsFree (.ref z) >>= _) _ _ _
 refine wpAny_bind ?_
 unfold Builtin.SmallTypes.ownedTupleIsFree
 refine wpAny_bind (wpAny_field hz rfl (x:=.none) rfl (wpAny_pure ?_))
 rw [if_pos rfl]
 refine wpAny_bind (wpAny_rule ?_)
 refine wpAny_bind (wpAny_field hz rfl (x:=.ref tout) rfl ?_)
 refine wpAny_bind (wpAny_setField_rec hz (by simp) fun g1 z1 b1=>?_)
 have z1:IsZip g1 z tin tout .ellipsis:=z1
 have fA1:=fun x hx=>(D.fA x hx).1
 have fB1:=fun x hx=>(D.fB x hx).1
 have fB2:=fun x hx=>(D.fB x hx).2.1
 have fB3:=fun x hx=>(D.fB x hx).2.2.1
 have fC1:=fun x hx=>(D.fC x hx).1
 have fC2:=fun x hx=>(D.fC x hx).2.1
 have fC3:=fun x hx=>(D.fC x hx).2.2.1
 have fC4:=fun x hx=>(D.fC x hx).2.2.2
 refine wpAny_bind ?_
 simp only [List.zipIdx_nil,List.zipIdx_cons,List.forIn_nil,List.forIn_cons]
 refine wpAny_bind (wpAny_bind (wpAny_onRaise ?_))
 show wpAny _ _ (Builtin.SmallTypes.nextOf (.ref ia) >>= _) _ _ _
 by_cases ka:n≤k
 ·refine wpAny_bind (SA.fin A.in1 _ _ k _ (by first | exact hh | simpa using hh) ka (Z5 SA ha D.z3 fA1 b1) fun g2 e x2 he=>?_)
  obtain ⟨oe,e1,c1⟩:=he
  have z2:IsZip g2 z tin tout .ellipsis:=x2 _ _ (Ne.symm D.z3) z1
  have ez:e≠z:=fun x=>by subst x;rw [z2] at e1;cases e1;simp at c1
  exact wpAny_setField_rec z2 (by simp) fun g3 _ b3=>last g3 e (fun c o c1 _ c3 _ _ x=>b3.extBut _ _ c1 (x2 _ _ c3 (b1.extBut _ _ c1 x))) ⟨oe,b3.extBut _ _ ez e1,c1⟩
 ·refine wpAny_bind (SA.item _ _ _ k _ (Nat.lt_of_not_le ka) (Z5 SA ha D.z3 fA1 b1) fun x g2 hx a2 b2=>wpAny_pure ?_)
  have o2:Z6 g2 tout a b c:=b2.extBut _ _ D.a1 (b1.extBut _ _ D.z2 ho)
  refine wpAny_bind (wpAny_seqItems o2 rfl ?_)
  refine wpAny_bind (ZdJ o2 fun g3 o3 b3=>?_)
  have o3:Z6 g3 tout x b c:=o3
  refine wpAny_bind (wpAny_letGo (wpAny_pure ?_))
  refine wpAny_bind (wpAny_bind (wpAny_onRaise ?_))
  show wpAny _ _ (Builtin.SmallTypes.nextOf (.ref ib) >>= _) _ _ _
  have hb3:sb k g3:=Z5 SB (Z5 SB (Z5 SB hb D.z4 fB1 b1) (Ne.symm D.b1) fB3 b2) (Ne.symm D.a2) fB2 b3
  have z3:IsZip g3 z tin tout .ellipsis:=b3.extBut _ _ (Ne.symm D.z2) (b2.extBut _ _ (Ne.symm D.z3) z1)
  by_cases kb:m≤k
  ·refine wpAny_bind (SB.fin A.in1 _ _ k _ (by first | exact hh | simpa using hh) kb hb3 fun g4 e x4 he=>?_)
   obtain ⟨oe,e1,c1⟩:=he
   have z4:IsZip g4 z tin tout .ellipsis:=x4 _ _ (Ne.symm D.z4) z3
   have ez:e≠z:=fun x=>by subst x;rw [z4] at e1;cases e1;simp at c1
   exact wpAny_setField_rec z4 (by simp) fun g5 _ b5=>last g5 e (fun c o c1 c2 c3 c4 _ x=>b5.extBut _ _ c1 (x4 _ _ c4 (b3.extBut _ _ c2 (b2.extBut _ _ c3 (b1.extBut _ _ c1 x))))) ⟨oe,b5.extBut _ _ ez e1,c1⟩
  ·have kc:l≤k:=by rcases kn with h | h | h;exact absurd h ka;exact absurd h kb;exact h
   refine wpAny_bind (SB.item _ _ _ k _ (Nat.lt_of_not_le kb) hb3 fun y g4 hy a4 b4=>wpAny_pure ?_)
   have o4:Z6 g4 tout x b c:=b4.extBut _ _ D.a2 o3
   refine wpAny_bind (wpAny_seqItems o4 rfl ?_)
   refine wpAny_bind (ZdJ o4 fun g5 o5 b5=>?_)
   have o5:Z6 g5 tout x y c:=o5
   refine wpAny_bind (wpAny_letGo (wpAny_pure ?_))
   refine wpAny_bind (wpAny_bind (wpAny_onRaise ?_))
   show wpAny _ _ (Builtin.SmallTypes.nextOf (.ref ic) >>= _) _ _ _
   have hc5:sc k g5:=Z5 SC (Z5 SC (Z5 SC (Z5 SC (Z5 SC hc D.z5 fC1 b1) (Ne.symm D.b2) fC3 b2) (Ne.symm D.a3) fC2 b3) (Ne.symm D.b3) fC4 b4) (Ne.symm D.a3) fC2 b5
   refine wpAny_bind (SC.fin A.in1 _ _ k _ (by first | exact hh | simpa using hh) kc hc5 fun g6 e x6 he=>?_)
   obtain ⟨oe,e1,c1⟩:=he
   have z6:IsZip g6 z tin tout .ellipsis:=x6 _ _ (Ne.symm D.z5) (b5.extBut _ _ (Ne.symm D.z2) (b4.extBut _ _ (Ne.symm D.z4) z3))
   have ez:e≠z:=fun x=>by subst x;rw [z6] at e1;cases e1;simp at c1
   exact wpAny_setField_rec z6 (by simp) fun g7 _ b7=>last g7 e (fun c o c1 c2 c3 c4 c5 x=>b7.extBut _ _ c1 (x6 _ _ c5 (b5.extBut _ _ c2 (b4.extBut _ _ c4 (b3.extBut _ _ c2 (b2.extBut _ _ c3 (b1.extBut _ _ c1 x))))))) ⟨oe,b7.extBut _ _ ez e1,c1⟩
end
@[reducible] def yh3 (h:Heap) (A B C:Src):Heap:=(zh2 h A B).push C.obj
@[reducible] def yh4 (h:Heap) (A B C:Src):Heap:=(yh3 h A B C).push { cls:=.type "tuple",data:=.seq #[.ref h.objs.size,.ref (zh1 h A).objs.size,.ref (zh2 h A B).objs.size] }
@[reducible] def yh5 (h:Heap) (A B C:Src):Heap:=(yh4 h A B C).push { cls:=.type "tuple",data:=.seq #[.none,.none,.none] }
@[reducible] def yh6 (h:Heap) (A B C:Src):Heap:=(yh5 h A B C).push { cls:=.type "zip",data:=.fields #[.none,.bool false,.bool false,.ref (yh3 h A B C).objs.size,.ref (yh4 h A B C).objs.size] }
theorem Znp (A B C:Src) (xs ys vs:Array Value):Meets (Builtin.«zip.__new__» ⟨[.type "zip",.ref A.ad,.ref B.ad,.ref C.ad],[]⟩) (fun _ R s=>A.ok s.heap xs∧B.ok s.heap ys∧C.ok s.heap vs∧R (.ok (.ret (.ref (yh5 s.heap A B C).objs.size))) { s with heap:=yh6 s.heap A B C }) :=
 .of_wp fun prog w A' R s h=>by
  obtain ⟨hp,g,d,tk,os⟩:=s;obtain ⟨h1,h2,h3,q⟩:=h
  have hs:=sub_zip
  have k1:A.ok (Shared.heap ⟨hp,g,d,tk,os⟩) xs:=h1
  have k2:B.ok (Shared.heap ⟨hp.push A.obj,g,d,tk,os⟩) ys:=B.okAt h2 fun o e=>Heap.get?_push_of_some _ e
  have k3:C.ok (Shared.heap ⟨(hp.push A.obj).push B.obj,g,d,tk,os⟩) vs:=C.okAt h3 fun o e=>Heap.get?_push_of_some _ (Heap.get?_push_of_some _ e)
  wp_walk using A.pyIter k1,B.pyIter k2,C.pyIter k3
  exact ⟨_,rfl,q⟩
end L2
set_option Elab.async false
set_option linter.all false
set_option maxRecDepth 100000
set_option maxHeartbeats 4000000
namespace L2
open PySem PySem.Spec PyProof.Rows
theorem ZpD (a b c:Value):checkTypeCall "zip" { pos:=[a,b,c] }=pure ():=by kernel_rfl
theorem ZoQ (a b c:Value):checkBuiltinCall "zip.__new__" { pos:=[Value.type "zip",a,b,c] }=pure ():=by kernel_rfl
theorem ZtC (a b c d:Value):argsOk "object.__init__" ⟨[a,b,c,d],[]⟩:=by
 unfold argsOk;rw [signature?_of (id:="object.__init__") (n:=['_','_','t','i','n','i','_','_']) (o:=['t','c','e','j','b','o']) (by kernel_rfl) PySem.F.owner_object];kernel_rfl
section
variable {prog:Program} {w:World} {A:Around} {E:Value→Shared→Prop} {s:Shared}
theorem Zmy {S T U:Src} {xs ys vs:Array Value} {Q:Value→Shared→Prop} (p1:S.ok s.heap xs) (p2:T.ok s.heap ys) (p3:U.ok s.heap vs)
  (q:∀ h',IsZip h' (s.heap.objs.size+5) (s.heap.objs.size+3) (s.heap.objs.size+4) .none→Z6 h' (s.heap.objs.size+3) (.ref s.heap.objs.size) (.ref (s.heap.objs.size+1)) (.ref (s.heap.objs.size+2)) →
   Z6 h' (s.heap.objs.size+4) .none .none .none→S.it h' s.heap.objs.size 0→T.it h' (s.heap.objs.size+1) 0→U.it h' (s.heap.objs.size+2) 0→(∀ c o,s.heap.get? c=some o→h'.get? c=some o)→Q (.ref (s.heap.objs.size+5)) { s with heap:=h' }) :
  wpAny (model prog w) A (call (.type "zip") [.ref S.ad,.ref T.ad,.ref U.ad]) Q E s:=by
 refine callType_new PySem.F.called_zip (by decide) (ZpD _ _ _) (ZoQ _ _ _) (fun obj=>ZtC obj _ _ _) PySem.F.entry_zip_new (Znp S T U xs ys vs) ⟨p1,p2,p3,?_⟩
 have z1:(zh1 s.heap S).objs.size=s.heap.objs.size+1:=Heap.size_push ..
 have z2:(zh2 s.heap S T).objs.size=s.heap.objs.size+2:=by rw [Heap.size_push,z1]
 have z3:(yh3 s.heap S T U).objs.size=s.heap.objs.size+3:=by rw [Heap.size_push,z2]
 have z4:(yh4 s.heap S T U).objs.size=s.heap.objs.size+4:=by rw [Heap.size_push,z3]
 have z5:(yh5 s.heap S T U).objs.size=s.heap.objs.size+5:=by rw [Heap.size_push,z4]
 have g6:(yh6 s.heap S T U).get? (yh5 s.heap S T U).objs.size=some _:=Heap.get?_push_size _ rfl
 have g5:(yh6 s.heap S T U).get? (yh4 s.heap S T U).objs.size=some _:=Heap.get?_push_of_some _ (Heap.get?_push_size _ rfl)
 have g4:(yh6 s.heap S T U).get? (yh3 s.heap S T U).objs.size=some _:=Heap.get?_push_of_some _ (Heap.get?_push_of_some _ (Heap.get?_push_size _ rfl))
 have up:∀ c o,(yh3 s.heap S T U).get? c=some o→(yh6 s.heap S T U).get? c=some o:=fun c o e=>Heap.get?_push_of_some _ (Heap.get?_push_of_some _ (Heap.get?_push_of_some _ e))
 have t3:U.it (yh6 s.heap S T U) (zh2 s.heap S T).objs.size 0:=U.itAt (U.new (h:=zh2 s.heap S T)) fun o e=>up _ o e
 have t2:T.it (yh6 s.heap S T U) (zh1 s.heap S).objs.size 0:=T.itAt (T.new (h:=zh1 s.heap S)) fun o e=>up _ o (Heap.get?_push_of_some _ e)
 have t1:S.it (yh6 s.heap S T U) s.heap.objs.size 0:=S.itAt (S.new (h:=s.heap)) fun o e=>up _ o (Heap.get?_push_of_some _ (Heap.get?_push_of_some _ e))
 show _∧_
 rw [z3,z4,z5] at g6
 rw [z1,z2,z3] at g4
 rw [z4] at g5
 rw [z1] at t2
 rw [z2] at t3
 rw [z5]
 exact ⟨⟨_,g6,rfl⟩,q _ g6 g4 g5 t1 t2 t3 fun c o e=>up _ _ (Heap.get?_push_of_some _ (Heap.get?_push_of_some _ (Heap.get?_push_of_some _ e)))⟩
end
def Zsh (K:PySem.W.Frag) (S T U:Src):It :=
 ⟨fun i H=>∃ xs ys vs x y v,S.sq K H xs∧T.sq K H ys∧U.sq K H vs∧xs[i]?=some x∧ys[i]?=some y∧vs[i]?=some v,
  fun i H r H'=>∃ p x y v,r=.ref p∧H p=none∧H'=upd H p (.tup [x,y,v])∧(∀ xs,S.sq K H xs→xs[i]?=some x)∧(∀ ys,T.sq K H ys→ys[i]?=some y)∧∀ vs,U.sq K H vs→vs[i]?=some v,
  fun i H=>∃ xs ys vs,S.sq K H xs∧T.sq K H ys∧U.sq K H vs∧(xs.length≤i∨ys.length≤i∨vs.length≤i)⟩
theorem ZkL {n:Nat} {S T U:Src} (h1:S.ad<n) (h2:T.ad<n) (h3:U.ad<n):ZA3 (n+5) (n+3) (n+4) n (n+1) (n+2) [S.ad] [T.ad] [U.ad]:=by
 have key:∀ (a:Addr),a<n→∀ k:Nat,a≠n+k:=fun a ha k e=>by subst e;exact absurd ha (by show ¬ @LT.lt Nat _ _ _;omega)
 have k0:∀ (a:Addr),a<n→a≠n:=fun a ha=>key a ha 0
 refine ⟨?_,?_,?_,?_,?_,?_,?_,?_,?_,?_,?_,fun b hb=>?_,fun b hb=>?_,fun b hb=>?_⟩
 all_goals first
  | (show @Ne Nat _ _;omega)
  | (rw [List.mem_singleton.mp hb];exact ⟨key _ h1 5,key _ h1 4,key _ h1 1,key _ h1 2⟩)
  | (rw [List.mem_singleton.mp hb];exact ⟨key _ h2 5,key _ h2 4,k0 _ h2,key _ h2 2⟩)
  | (rw [List.mem_singleton.mp hb];exact ⟨key _ h3 5,key _ h3 4,k0 _ h3,key _ h3 1⟩)
theorem ZmQ {P:Program} {w:World} {K:PySem.W.Frag} {elts:List Expr} {x1} {pos:Pos} (S T U:Src) (n:Nat) (h1:S.ad<n) (h2:T.ad<n) (h3:U.ad<n) :
  Zeh P w K (.Tuple elts x1 pos) (Zsh K S T U) [n+5,n+3,n+4,n,n+1,n+2] (n+5) (fun i h=>IsZip h (n+5) (n+3) (n+4) .none∧Z6 h (n+3) (.ref n) (.ref (n+1)) (.ref (n+2))∧(∃ a b c,Z6 h (n+4) a b c)∧S.it h n i∧T.it h (n+1) i∧U.it h (n+2) i) where
 mem:=by simp
 obj:=fun i h st q hq=>by
  obtain ⟨z,a,⟨x,y,v,b⟩,c,d,e⟩:=st
  simp only [List.mem_cons,List.not_mem_nil,or_false] at hq
  rcases hq with rfl | rfl | rfl | rfl | rfl | rfl
  ·exact ⟨_,z,fun v e=>nomatch (show Data.fields _=Data.cell v from e)⟩
  ·exact ⟨_,a,fun v e=>nomatch (show Data.seq _ _=Data.cell v from e)⟩
  ·exact ⟨_,b,fun v e=>nomatch (show Data.seq _ _=Data.cell v from e)⟩
  ·exact S.itOb c
  ·exact T.itOb d
  ·exact U.itOb e
 keep:=fun i h h' st k=>by
  obtain ⟨z,a,⟨x,y,v,b⟩,c,d,f⟩:=st
  exact ⟨k _ (by simp) _ z,k _ (by simp) _ a,⟨x,y,v,k _ (by simp) _ b⟩,S.itAt c fun o e=>k _ (by simp) o e,T.itAt d fun o e=>k _ (by simp) o e,U.itAt f fun o e=>k _ (by simp) o e⟩
 item:=by
  intro X hP hw hK hc i pins s σ H E I hf st ex0
  obtain ⟨z,a,⟨u,v,t,b⟩,c,d,f⟩:=st
  obtain ⟨xs,ys,vs,x,y,v3,hx,hy,hv,ex,ey,ev⟩:=ex0
  subst hP hw hK
  obtain ⟨its,r1,o1,_⟩:=S.of I hx
  obtain ⟨jts,r2,o2,_⟩:=T.of I hy
  obtain ⟨kts,r3,o3,_⟩:=U.of I hv
  obtain ⟨u1,e1,ru1⟩:=r1.get ex
  obtain ⟨u2,e2,ru2⟩:=r2.get ey
  obtain ⟨u3,e3,ru3⟩:=r3.get ev
  have l1:=(List.getElem?_eq_some_iff.mp e1).1
  have l2:=(List.getElem?_eq_some_iff.mp e2).1
  have l3:=(List.getElem?_eq_some_iff.mp e3).1
  refine ZlU (ZkL h1 h2 h3) (S.sub (P:=X.prog) (w:=X.w) its.toArray) (T.sub (P:=X.prog) (w:=X.w) jts.toArray) (U.sub (P:=X.prog) (w:=X.w) kts.toArray) z a b ⟨c,o1⟩ ⟨d,o2⟩ ⟨f,o3⟩ (by simpa using l1) (by simpa using l2) (by simpa using l3) fun x' y' v' h' hx' hy' hv' z' to' c'' d'' f'' new sz kp=>?_
  obtain ⟨c',_⟩:=c''
  obtain ⟨d',_⟩:=d''
  obtain ⟨f',_⟩:=f''
  have hx1:x'=u1:=by simp [e1] at hx';exact hx'.symm
  have hy1:y'=u2:=by simp [e2] at hy';exact hy'.symm
  have hv1:v'=u3:=by simp [e3] at hv';exact hv'.symm
  subst hx1 hy1 hv1
  refine ⟨_,rfl,wpAny_letOwnedTupleGo_zip z' fun h2' z2 sb=>?_⟩
  have hlt:n+5<s.heap.objs.size:=Heap.lt_size z
  have up:∀ q o,q≠n+5→h'.get? q=some o→h2'.get? q=some o:=fun q o hq e=>sb.extBut _ _ hq e
  have I1:Inv X pins σ (upd H s.heap.objs.size (.tup [x,y,v3])) { s with heap:=h2' }:=by
   refine I.yielded hf (fun q o hq e=>up q o (fun z=>hq (by simp [z])) (kp q o (fun z=>hq (by simp [z])) (fun z=>hq (by simp [z])) (fun z=>hq (by simp [z])) (fun z=>hq (by simp [z])) (fun z=>hq (by simp [z])) e)) (Nat.le_refl _) ?_
   exact ⟨show 3≤sizeLine by decide,[x',y',v'],.cons ru1 (.cons ru2 (.cons ru3 .nil)),⟨_,up _ _ (by (show @Ne Nat _ _;omega)) new,rfl,_,rfl⟩⟩
  have kt:Z6 h2' (n+3) (.ref n) (.ref (n+1)) (.ref (n+2)):=up _ _ (by (show @Ne Nat _ _;omega)) (kp _ _ (by (show @Ne Nat _ _;omega)) (by (show @Ne Nat _ _;omega)) (by (show @Ne Nat _ _;omega)) (by (show @Ne Nat _ _;omega)) (by (show @Ne Nat _ _;omega)) a)
  refine ⟨.ref s.heap.objs.size,_,I1,rfl,⟨_,x,y,v3,rfl,I.hok.fresh (Nat.le_refl _),rfl,fun zs hz=>by rw [S.inj I hz hx];exact ex,fun zs hz=>by rw [T.inj I hz hy];exact ey,fun zs hz=>by rw [U.inj I hz hv];exact ev⟩,⟨z2,kt,⟨x',y',v',up _ _ (by (show @Ne Nat _ _;omega)) to'⟩,S.itAt c' fun o e=>up _ o (by (show @Ne Nat _ _;omega)) e,T.itAt d' fun o e=>up _ o (by (show @Ne Nat _ _;omega)) e,U.itAt f' fun o e=>up _ o (by (show @Ne Nat _ _;omega)) e⟩,fun q hq=>?_⟩
  rw [Zs]
  ·exact (hf q hq).1
  ·simp only [List.mem_cons,List.not_mem_nil,or_false] at hq
   rcases hq with rfl | rfl | rfl | rfl | rfl | rfl<;>(show @Ne Nat _ _;omega)
 done:=by
  intro X hP hw hK hc i pins s σ H E I hf st ex0
  obtain ⟨z,a,⟨u,v,t,b⟩,c,d,f⟩:=st
  obtain ⟨xs,ys,vs,hx,hy,hv,hl⟩:=ex0
  subst hP hw hK
  obtain ⟨its,r1,o1,_⟩:=S.of I hx
  obtain ⟨jts,r2,o2,_⟩:=T.of I hy
  obtain ⟨kts,r3,o3,_⟩:=U.of I hv
  have q1:=r1.length
  have q2:=r2.length
  have q3:=r3.length
  refine Zny (I.ok.hd hc) (ZkL h1 h2 h3) (S.sub (P:=X.prog) (w:=X.w) its.toArray) (T.sub (P:=X.prog) (w:=X.w) jts.toArray) (U.sub (P:=X.prog) (w:=X.w) kts.toArray) z a b ⟨c,o1⟩ ⟨d,o2⟩ ⟨f,o3⟩ (by simp only [List.size_toArray];omega) fun h' kp=>⟨rfl,I.turnedL hf fun q o hq e=>kp q o (fun z=>hq (by simp [z])) (fun z=>hq (by simp [z])) (fun z=>hq (by simp [z])) (fun z=>hq (by simp [z])) (fun z=>hq (by simp [z])) e⟩
 self:=fun _ _ _ _ _ st q=>wpAny_pyIter_zip st.1 q
theorem ZoZ {K:PySem.W.Frag} {M N:Fb} {H:Hp} {S T U:Src} {xs ys zs:List D} {us vs ws:List V} (h1:DenL K N H xs us) (h2:DenL K N H ys vs) (h3:DenL K N H zs ws) (q1:∀ N2 H2,Step M N N2 H H2→S.sq K H2 us) (q2:∀ N2 H2,Step M N N2 H H2→T.sq K H2 vs) (q3:∀ N2 H2,Step M N N2 H H2→U.sq K H2 ws) :
  ZiV K M N H (Zsh K S T U) (List.zipWith (fun x y=>D.tup [x,y.1,y.2]) xs (ys.zip zs)):=fun N2 H2 St i=>by
 have s1:=q1 _ _ St
 have s2:=q2 _ _ St
 have s3:=q3 _ _ St
 have d1:=DenL.step St _ _ h1
 have d2:=DenL.step St _ _ h2
 have d3:=DenL.step St _ _ h3
 refine ⟨fun d he=>?_,fun he=>⟨us,vs,ws,s1,s2,s3,?_⟩⟩
 ·rw [List.getElem?_zipWith] at he
  cases ex:xs[i]? with
  | none=>rw [ex] at he;cases he
  | some x =>
   cases eyz:(ys.zip zs)[i]? with
   | none=>rw [ex,eyz] at he;cases he
   | some yz =>
    rw [ex,eyz] at he;cases he
    obtain ⟨y,z⟩:=yz
    obtain ⟨ey,ez⟩:=List.getElem?_zip_eq_some.mp eyz
    obtain ⟨u,eu,du⟩:=d1.get ex
    obtain ⟨v,ev,dv⟩:=d2.get ey
    obtain ⟨w,ew,dw⟩:=d3.get ez
    refine ⟨⟨us,vs,ws,u,v,w,s1,s2,s3,eu,ev,ew⟩,fun r H3 hr=>?_⟩
    obtain ⟨p,u',v',w',e1,hp,e3,w1,w2,w3⟩:=hr
    have:=w1 us s1;rw [eu] at this;cases this
    have:=w2 vs s2;rw [ev] at this;cases this
    have:=w3 ws s3;rw [ew] at this;cases this
    subst e1 e3
    exact ⟨Zgn hp,ZcJ hp (DenL.cons du (DenL.cons dv (DenL.cons dw DenL.nil)))⟩
 ·have l1:=h1.length
  have l2:=h2.length
  have l3:=h3.length
  simp only [List.length_zipWith,List.length_zip] at he
  omega
@[simp] def Zh9 (f g k:VE→Option D):VE→Option (List D):=fun ρ=>match (f ρ).bind Zan,(g ρ).bind Zan,(k ρ).bind Zan with
  | some xs,some ys,some zs=>some (List.zipWith (fun x y=>D.tup [x,y.1,y.2]) xs (ys.zip zs))
  | _,_,_=>none
section
variable {X:Cx} {M:Fb} {H0:Hp} {f g k:VE→Option D} {a b c:Expr} {elts:List Expr} {p pos tpos:Pos}
theorem Zm8 {x1} (hg:Gl X "zip") (hm:X.mg "zip"=none) (ha:JE X a (tQ X.K M H0 f)) (hb:JE X b (tQ X.K M H0 g)) (hc:JE X c (tQ X.K M H0 k)) (hs:starEach [a,b,c] X.env=[(false,eval a X.env),(false,eval b X.env),(false,eval c X.env)]:=by rfl) (hs2:starEach [b,c] X.env=[(false,eval b X.env),(false,eval c X.env)]:=by rfl) (hs3:starEach [c] X.env=[(false,eval c X.env)]:=by rfl) (hs4:starEach [] X.env=[]:=by rfl) :
  JI X (.Tuple elts x1 tpos) (.Call (.Name "zip" p) [a,b,c] [] pos) (tI X.K M H0 (Zh9 f g k)):=⟨by
 intro pins s σ H Q I h
 obtain ⟨ρ,ds,R,e,q⟩:=h
 unfold Zh9 at e
 split at e
 ·next xs ys zs ex ey ez =>
  cases e
  cases hf:f ρ with
  | none=>rw [hf] at ex;cases ex
  | some d1 =>
   cases hgv:g ρ with
   | none=>rw [hgv] at ey;cases ey
   | some d2 =>
    cases hkv:k ρ with
    | none=>rw [hkv] at ez;cases ez
    | some d3 =>
     rw [hf] at ex
     rw [hgv] at ey
     rw [hkv] at ez
     have PA3:=ZaO ha.h (ZaO hb.h (ZaO hc.h pa_nil (by rw [hs3,hs4])) (by rw [hs2,hs3])) (by rw [hs,hs2])
     refine Call_ (ZbR I hg hm ZhS (PyProof.Rows.callWith_type1 (thn (PA3 pos pins s σ H (fun vs H2=>∃ S T U us ws ts,vs=[.ref (Src.ad S),.ref (Src.ad T),.ref (Src.ad U)]∧Same H H2∧DenL X.K (Nf M ρ σ) H2 xs us∧DenL X.K (Nf M ρ σ) H2 ys ws∧DenL X.K (Nf M ρ σ) H2 zs ts∧(∀ N2 H3,Step M (Nf M ρ σ) N2 H2 H3→S.sq X.K H3 us)∧(∀ N2 H3,Step M (Nf M ρ σ) N2 H2 H3→T.sq X.K H3 ws)∧∀ N2 H3,Step M (Nf M ρ σ) N2 H2 H3→U.sq X.K H3 ts) I ?_) fun us s1 hq=>?_) (by rw [hs,hs2]) (by rw [hs2];rfl)))
     ·refine ⟨ρ,d1,R,hf,fun v1 H1 z1 q1=>⟨ρ,d2,R.st z1,hgv,fun v2 H2 z2 q2=>⟨ρ,d3,(R.st z1).st z2,hkv,fun v3 H3 z3 q3=>?_⟩⟩⟩
      obtain ⟨S,us,e1,dl1,k1⟩:=q1.src ex
      obtain ⟨T,ws,e2,dl2,k2⟩:=q2.src ey
      obtain ⟨U,ts,e3,dl3,k3⟩:=q3.src ez
      exact ⟨S,T,U,us,ws,ts,by rw [e1,e2,e3],(z1.trans z2).trans z3,(dl1.same z2).same z3,dl2.same z3,dl3,fun N2 H3 St=>k1 _ _ ((Step.of_same (z2.trans z3)).trans St),fun N2 H3 St=>k2 _ _ ((Step.of_same z3).trans St),k3⟩
     ·obtain ⟨vs,H1,I1,r1,q1⟩:=hq
      obtain ⟨S,T,U,us',ws,ts,e1,z,dl1,dl2,dl3,k1,k2,k3⟩:=q1
      subst e1
      cases r1 with
      | cons r rr =>
       cases rr with
       | cons r' rr =>
        cases rr with
        | cons r'' rr =>
         cases rr
         cases r
         cases r'
         cases r''
         obtain ⟨its,v1,o1,_⟩:=S.of I1 (k1 _ _ Step.refl)
         obtain ⟨jts,v2,o2,_⟩:=T.of I1 (k2 _ _ Step.refl)
         obtain ⟨kts,v3,o3,_⟩:=U.of I1 (k3 _ _ Step.refl)
         refine Zmy o1 o2 o3 fun h' a1 a2 a3 a4 a5 a6 kp=>wpAny_pyIter_zip a1 ?_
         refine ⟨_,_,_,_,H1,rfl,I1.kept (t':=s1.toks) kp,ZmQ S T U s1.heap.objs.size (S.lt o1) (T.lt o2) (U.lt o3),⟨a1,a2,⟨_,_,_,a3⟩,a4,a5,a6⟩,fun b hb=>?_,q _ _ z (ZoZ dl1 dl2 dl3 k1 k2 k3)⟩
         have hl:s1.heap.objs.size≤b:=by
          simp only [List.mem_cons,List.not_mem_nil,or_false] at hb
          rcases hb with rfl | rfl | rfl | rfl | rfl | rfl<;>(show @LE.le Nat _ _ _;omega)
         exact I1.fpOk hl (I1.hok.fresh hl)
 ·cases e⟩
end
end L2
set_option Elab.async false
set_option linter.all false
set_option maxRecDepth 100000
set_option maxHeartbeats 4000000
namespace L2
open PySem PySem.Spec PyProof.Rows PySem.W
def RawD (h:Heap) (d:Addr) (es:Array DictEntry) (ep:Nat):Prop:=∃ o,h.get? d=some o∧o.ExactDict∧o.data=.dict es ep
section
variable {prog:Program} {w:World} {A:Around} {E:Value→Shared→Prop} {s:Shared} {d it:Addr} {es:Array DictEntry} {ep i:Nat}
theorem RawD.type (x:RawD s.heap d es ep):s.TypeIs (.ref d) "dict":=by
 obtain ⟨o,e1,e2,_⟩:=x
 exact ⟨o,e1,e2.1⟩
theorem RawD.at {h h':Heap} (x:RawD h d es ep) (k:∀ o,h.get? d=some o→h'.get? d=some o):RawD h' d es ep:=by
 obtain ⟨o,e1,e2⟩:=x
 exact ⟨o,k o e1,e2⟩
theorem ZnC {Q:Value→Shared→Prop} (hd:(d==sysModules)=false) (hm:RawD s.heap d es ep)
  (hQ:Q (.ref s.heap.objs.size) { s with heap:=s.heap.push { cls:=.type "dict_keyiterator",data:=.fields #[.ref d,.int 0 0,.int es.size 0,.int ep 0] } }):wpAny (model prog w) A (pyIter (.ref d)) Q E s:=by
 have ty:=hm.type
 obtain ⟨o,e1,e2,e3⟩:=hm
 refine wpAny_pyIter_slot ty PySem.F.slot_dict_iter (wpAny_call_entry PySem.F.slot_dict_iter ty PySem.F.entry_dict_iter ?_ (PySem.F.args_dict_iter_1 _))
 unfold Builtin.«dict.__iter__» Builtin.Dict.dictSlotNone
 refine wpAny_bind (wpAny_bind (wpAny_notOrdered_dict ty ?_))
 refine (wpAny_pure ?_:wpAny _ _ (pure (Value.ref d)) _ _ s)
 show wpAny _ _ (Builtin.Dict.showsAll d >>= _) _ _ s
 unfold Builtin.Dict.showsAll
 rw [if_neg (by rw [hd];exact Bool.false_ne_true)]
 refine wpAny_bind (wpAny_pure (wpAny_bind (wpAny_dictEntries e1 e3 (wpAny_bind (wpAny_dictEpoch e1 e3 ?_)))))
 refine wpAny_bind (wpAny_newObj_type (wpAny_pure ⟨_,rfl,"dict_keyiterator",_,⟨_,Heap.get?_push_size _ rfl,rfl⟩,PySem.F.slot_dict_keyiterator_next.lookup,?_⟩))
 simpa [rawInt] using hQ
theorem Znt {Q:Option Value→Shared→Prop} (hi:s.heap.IsKeyIter it d i es.size ep) (hm:RawD s.heap d es ep) (hl:i<es.size)
  (hQ:∀ h',h'.IsKeyIter it d (i+1) es.size ep→Heap.SameBut it s.heap h'→Q (some es[i].key) { s with heap:=h' }):wpAny (model prog w) A (pyNext (.ref it)) Q E s:=by
 have ty:=hi.typeIs
 obtain ⟨p,f1,f2,f3⟩:=hi
 obtain ⟨o,e1,e2,e3⟩:=hm
 unfold pyNext
 refine wpAny_bind (wpAny_attempt (wpAny_callSpecial?_slot (name:=Str.ofString "__next__") ty PySem.F.slot_dict_keyiterator_next (wpAny_call_entry PySem.F.slot_dict_keyiterator_next ty PySem.F.entry_dict_keyiterator_next ?_ (PySem.F.args_dict_keyiterator_next_1 _))))
 refine wpAny_bind (wpAny_pure (wpAny_bind (wpAny_bind ?_)))
 first | refine wpAny_bind (wpAny_typeNameOfWhole_keyiter ty (wpAny_pure ?_)) | refine wpAny_bind (wpAny_typeNameOf_keyiter ty (wpAny_pure ?_))
 refine wpAny_bind (wpAny_fieldsOf f1 f3 ?_)
 simp only [show Builtin.Dict_items.ownsTuple "dict_keyiterator"=false by decide,Bool.false_eq_true,if_false]
 show wpAny _ _ (if (Value.ref d==Value.none)=true then _ else _) _ _ s
 rw [if_neg (show ¬ ((Value.ref d==Value.none)=true) from fun z=>Bool.false_ne_true z)]
 refine wpAny_bind (wpAny_pure (wpAny_bind (wpAny_dictEntries e1 e3 ?_)))
 rw [if_neg (by simp)]
 refine wpAny_bind (wpAny_pure (wpAny_bind (wpAny_dictEpoch e1 e3 ?_)))
 rw [if_neg (by simp)]
 refine wpAny_pure ?_
 simp only [show ¬ ((i:Int)<0) from by omega,if_false,Int.toNat_natCast,Array.getElem?_eq_getElem hl]
 refine wpAny_bind ?_
 first | refine wpAny_bind (wpAny_typeNameOfWhole_keyiter ty (wpAny_pure ?_)) | refine wpAny_bind (wpAny_typeNameOf_keyiter ty (wpAny_pure ?_))
 refine wpAny_bind (wpAny_isOneOf_keyiter ty ?_)
 show wpAny _ _ (setField (.ref it) 1 (rawInt ((i:Int)+1)) >>= _) _ _ s
 refine wpAny_bind (wpAny_setField f1 f3 (by simp) ?_)
 have ni:(s.heap.update it (Obj.mapFields (·.setIfInBounds 1 (rawInt ((i:Int)+1))))).IsKeyIter it d (i+1) es.size ep:=⟨_,Heap.get?_update_self _ f1 (Obj.isFreed_of_fields (Obj.data_mapFields f3 _)),(Obj.cls_mapFields ..).trans f2,by rw [Obj.data_mapFields f3];simp [rawInt]⟩
 refine wpAny_bind (wpAny_holding (wpAny_bind (wpAny_isOneOf_keyiter (s:={ s with heap:=s.heap.update it (Obj.mapFields (·.setIfInBounds 1 (rawInt ((i:Int)+1)))) }) ni.typeIs ?_)))
 exact wpAny_pure (wpAny_pure ⟨_,rfl,wpAny_pure (hQ _ ni (Heap.SameBut.update ..))⟩)
theorem ZpV {Q:Option Value→Shared→Prop} (hh:A.handled=none) (hi:s.heap.IsKeyIter it d i es.size ep) (hm:RawD s.heap d es ep) (hl:es.size≤i)
  (hQ:∀ h',Heap.ExtBut it s.heap h'→Q none { s with heap:=h' }):wpAny (model prog w) A (pyNext (.ref it)) Q E s:=by
 have ty:=hi.typeIs
 obtain ⟨p,f1,f2,f3⟩:=hi
 obtain ⟨o,e1,e2,e3⟩:=hm
 unfold pyNext
 refine wpAny_bind (wpAny_attempt (wpAny_callSpecial?_slot (name:=Str.ofString "__next__") ty PySem.F.slot_dict_keyiterator_next (wpAny_call_entry PySem.F.slot_dict_keyiterator_next ty PySem.F.entry_dict_keyiterator_next ?_ (PySem.F.args_dict_keyiterator_next_1 _))))
 refine wpAny_bind (wpAny_pure (wpAny_bind (wpAny_bind ?_)))
 first | refine wpAny_bind (wpAny_typeNameOfWhole_keyiter ty (wpAny_pure ?_)) | refine wpAny_bind (wpAny_typeNameOf_keyiter ty (wpAny_pure ?_))
 refine wpAny_bind (wpAny_fieldsOf f1 f3 ?_)
 simp only [show Builtin.Dict_items.ownsTuple "dict_keyiterator"=false by decide,Bool.false_eq_true,if_false]
 show wpAny _ _ (if (Value.ref d==Value.none)=true then _ else _) _ _ s
 rw [if_neg (show ¬ ((Value.ref d==Value.none)=true) from fun z=>Bool.false_ne_true z)]
 refine wpAny_bind (wpAny_pure (wpAny_bind (wpAny_dictEntries e1 e3 ?_)))
 rw [if_neg (by simp)]
 refine wpAny_bind (wpAny_pure (wpAny_bind (wpAny_dictEpoch e1 e3 ?_)))
 rw [if_neg (by simp)]
 refine wpAny_pure ?_
 simp only [show ¬ ((i:Int)<0) from by omega,if_false,Int.toNat_natCast,Array.getElem?_eq_none hl]
 refine wpAny_bind ?_
 first | refine wpAny_bind (wpAny_typeNameOfWhole_keyiter ty (wpAny_pure ?_)) | refine wpAny_bind (wpAny_typeNameOf_keyiter ty (wpAny_pure ?_))
 show wpAny _ _ (setField (.ref it) 0 .none >>= _) _ _ s
 refine wpAny_bind (wpAny_setField f1 f3 (by simp) ?_)
 show wpAny _ _ (newExc (.type "StopIteration") [] >>= _) _ _ _
 refine wpAny_bind ?_
 simp only [newExc,newTuple]
 refine wpAny_bind (wpAny_newObj_type ?_ (by size_fits))
 refine wpAny_bind (m:=firstArgMember _ _) (wpAny_of_eq (a:=Value.none) (by first | rfl | (simp only [firstArgMember];rfl)) ?_)
 refine wpAny_newObj_type ?_ (by size_fits)
 simp only [raiseNew]
 refine wpAny_bind (wpAny_handled ?_)
 rw [show A.in1.handled=none from hh]
 refine wpAny_bind (wpAny_pure (wpAny_throw ?_))
 refine wpAny_bind (wpAny_isInstance (T:="StopIteration") (b:=true) ⟨_,Heap.get?_push_size _ rfl,rfl⟩ isSubtype_stop ?_)
 exact wpAny_pure (hQ _ ((Heap.ExtBut.push (Heap.SameBut.extBut (Heap.SameBut.update ..)) _).push _))
theorem Zog (hh:A.handled=none) (I:Addr) (hne:d≠I):Walks prog w A I [I,d] [I] es.size (fun i v=>∃ e,es[i]?=some e∧v=e.key) (fun i h=>h.IsKeyIter I d i es.size ep∧RawD h d es ep) where
 sub:=fun b hb=>by simp at hb;simp [hb]
 frame:=fun _ _ _ st hk=>⟨st.1.at fun o e=>hk I (by simp) o e,st.2.at fun o e=>hk d (by simp) o e⟩
 item:=fun i s Q E hi st hQ=>Znt st.1 st.2 hi fun h' ni sb=>hQ _ h' s.toks ⟨es[i],Array.getElem?_eq_getElem hi,rfl⟩ ⟨ni,st.2.at fun o e=>sb.extBut _ _ hne e⟩ fun b o hb e=>sb.extBut b o (fun h=>hb (by simp [h])) e
 done:=fun s Q E st hQ=>ZpV hh st.1 st.2 (Nat.le_refl _) fun h' he'=>hQ h' s.toks fun b o hb e=>he' b o (fun h=>hb (by simp [h])) e
 self:=fun _ _ _ _ st hQ=>wpAny_pyIter_keyiter st.1 hQ
theorem Zkl (lo:(d==sysModules)=false):KdlSrc prog w "dict" d d es.size (fun i v=>∃ e,es[i]?=some e∧v=e.key) (fun h=>RawD h d es ep) where
 type:=fun _ hm=>hm.type
 there:=fun _ hm=>by obtain ⟨o,e1,_⟩:=hm;exact ⟨Heap.lt_size e1,Heap.lt_size e1⟩
 keep:=fun _ _ hm hk=>hm.at fun o e=>hk d (.inl rfl) o e
 notList:=by decide
 notTuple:=by decide
 hint:=fun _ _ _ _ hm hq=>kdl_hint_dict hm.type hq
 iter:=fun _ s hh hm=>⟨_,_,(fun _ _ hq=>ZnC lo hm hq),Zog hh _ (by obtain ⟨o,e1,_⟩:=hm;exact Nat.ne_of_lt (Heap.lt_size e1)),⟨⟨_,Heap.get?_push_size _ rfl,rfl,rfl⟩,hm.at fun o e=>Heap.get?_push_of_some _ e⟩⟩
end
end L2
set_option Elab.async false
set_option linter.all false
set_option maxRecDepth 100000
set_option maxHeartbeats 4000000
namespace L2
open PySem PySem.Spec PyProof.Rows PySem.W
theorem Zjv {w:World}:∀ {tr:List T3} {es:List DictEntry},Ze0 w (tr.map (·.1)) (ZaL tr) es→Vals (tr.map fun t=>t.2.1) (es.map fun e=>e.key):=by
 intro tr
 induction tr with
 | nil =>
  intro es h
  obtain ⟨_,e⟩:=h
  subst e
  exact .nil
 | cons t r ih =>
  intro es h
  obtain ⟨kv,v,r',e,t',h1,h2,h3,_,_,_,h6⟩:=h
  simp only [ZaL,List.cons.injEq] at h1
  obtain ⟨e1,e2,e3⟩:=h1
  subst h2 e1 e2 e3
  exact .cons h3 (ih h6)
section
variable {X:Cx}
theorem ZhE {es:Array DictEntry} {acc:Array Value} (h:ItemsOf (fun i v=>∃ e,es[i]?=some e∧v=e.key) acc es.size):acc.toList=es.toList.map fun e=>e.key:=by
 refine List.ext_getElem? fun i=>?_
 rw [Array.getElem?_toList,List.getElem?_map,Array.getElem?_toList]
 cases ha:acc[i]? with
 | some v =>
  obtain ⟨e,he,hv⟩:=h.2 i v ha
  rw [he,hv];rfl
 | none =>
  have h1:acc.size≤i:=Array.getElem?_eq_none_iff.mp ha
  have h2:es[i]?=none:=Array.getElem?_eq_none_iff.mpr (by rw [← h.1];exact h1)
  rw [h2];rfl
theorem Zjl (hc:X.calm=true):CallR X (.type "list") (fun xs H Q=>∃ a tr,xs=[.ref a]∧IsDc X.K H a tr∧∀ l,H l=none→Q (.ref l) (upd H l (.lst (tr.map fun t=>t.2.1)))):=by
 intro pins s σ H xs us Q I r h
 obtain ⟨a,tr,rfl,hd,q⟩:=h
 obtain ⟨u,rfl,rx⟩:=ZaK r
 cases rx
 obtain ⟨z,hs,nd,o,es,ep,e1,e2,e3,e4⟩:=hd.1.ok I.hok
 have hv:=Zjv e4
 have hl:tr.length=es.size:=by have:=hv.length;simpa using this
 have hz:tr.length≤sizeLine:=by simpa using z
 refine kdl_call (Zkl (es:=es) (ep:=ep) hs) (I.ok.hd hc) ⟨o,e1,e2,e3⟩ (by rw [← hl];exact hz) fun h' tk acc' c' kp hn hi=>?_
 have hacc:=ZhE hi
 refine ⟨.ref s.heap.objs.size,_,I.laid (t':=tk) kp (Nat.le_refl _) (show ObjOk X.prog X.w _ h' _ (.lst (tr.map fun t=>t.2.1)) from ⟨by simpa using hz,acc'.toList,c',by rw [hacc];exact hv,by simpa using hn⟩),rfl,q _ (I.hok.fresh (Nat.le_refl _))⟩
end
def Zjb:List D→Option (List D)
 | [.lst xs true]=>(unf xs).map fun kvs=>kvs.map fun p=>kD p.1
 | _=>none
@[simp] theorem Zmx (kvs:KDs):Zjb [.lst (ZI kvs) true]=some (kvs.map fun p=>kD p.1):=by simp [Zjb]
section
variable {K:PySem.W.Frag} {N:Fb} {H:Hp}
theorem PD.kden:∀ {kvs:KDs} {tr:List T3},PD K N H kvs tr→DenL K N H (kvs.map fun p=>kD p.1) (tr.map fun t=>t.2.1)
 | _,_,.nil=>DenL.nil
 | _,_,.cons ⟨h1,h2,h3⟩ t=>DenL.cons h2 (PD.kden t)
theorem Znv:RcF K (fun xs H Q=>∃ a tr,xs=[.ref a]∧IsDc K H a tr∧∀ l,H l=none→Q (.ref l) (upd H l (.lst (tr.map fun t=>t.2.1)))) Zjb:=by
 intro N H vs ds xs Q nh h e q
 unfold Zjb at e
 split at e
 ·next ys =>
  cases hu:unf ys with
  | none=>rw [hu] at e;cases e
  | some kvs =>
   rw [hu] at e
   cases e
   obtain ⟨v,rfl,hv⟩:=Paired.one' h
   rw [ZcL hu] at hv
   obtain ⟨p,ws,ep,r,hd⟩:=hv
   subst ep
   obtain ⟨tr,dc,pd⟩:=ZgR r hd
   exact ⟨p,tr,rfl,dc,fun l hl=>q _ l hl pd.kden⟩
 ·cases e
end
end L2
set_option Elab.async false
set_option linter.all false
set_option maxRecDepth 100000
set_option maxHeartbeats 4000000
namespace L2
open PySem PySem.Spec PyProof.Rows PySem.W
section
variable {prog:Program} {w:World} {A:Around} {E:Value→Shared→Prop} {s:Shared} {T:String} {r d:Addr} {n:Nat} {P:Nat→Value→Prop} {OK:Heap→Prop}
theorem ZjQ {Q:List Value→Shared→Prop} (K:KdlSrc prog w T r d n P OK) (hh:A.handled=none) (hok:OK s.heap) (hn:n≤sizeLine)
  (hQ:∀ h' tk acc,(∀ b o,s.heap.get? b=some o→h'.get? b=some o)→ItemsOf P acc n→Q acc.toList { s with heap:=h',toks:=tk }):wpAny (model prog w) A (collect (.ref r)) Q E s:=by
 obtain ⟨lr,ld⟩:=K.there _ hok
 unfold collect
 refine wpAny_bind (wpAny_runValue (codeAny_builtin F.entry_proto_collect ?_))
 rw [Around.under_plainId F.plain_proto_collect _]
 show wpAny _ A.in1 (newList [] >>= fun l=>again (.builtin "list.__iadd__" ⟨[l,.ref r],[]⟩)) _ _ s
 refine wpAny_bind (wpAny_newObj_type ?_)
 refine wpAny_pure ⟨plainId_quiet F.plain_list_iadd _,codeAny_builtin F.entry_list_iadd ?_⟩
 rw [Around.under_plainId F.plain_list_iadd _]
 show wpAny _ A.in1 (Builtin.List.listExtendWith (.ref s.heap.objs.size) (.ref r) (.ref s.heap.objs.size)) _ _ _
 have hS:(s.heap.push { cls:=.type "list",data:=.seq ([]:List Value).toArray }).get? s.heap.objs.size=some { cls:=.type "list",data:=.seq #[] 0 }:=Heap.get?_push_size _ rfl
 have fin':∀ s',(∃ h' tk acc c',s'={ s with heap:=h',toks:=tk }∧(∀ b o,s.heap.get? b=some o→h'.get? b=some o)∧h'.get? s.heap.objs.size=some { cls:=.type "list",dict:=none,data:=.seq acc c',slots:=#[] }∧ItemsOf P acc n)→wpAny (model prog w) A (match Value.ref s.heap.objs.size with
   | Value.ref a=>do
    match (← load a).data with
     | Data.seq xs _=>pure xs.toList
     | _=>unsupported "internal:collect"
   | _=>unsupported "internal:collect") Q E s':=by
  rintro s' ⟨h',tk,acc,c',rfl,hk,hs',hi⟩
  show wpAny _ A (load s.heap.objs.size >>= _) _ _ _
  refine wpAny_bind (wpAny_load hs' ?_)
  refine wpAny_pure ?_
  exact hQ h' tk acc hk hi
 refine wpAny_mono (kdl_extend (R:=fun r s'=>r=.ok (.ret (.ref s.heap.objs.size))∧∃ h' tk acc c',s'={ s with heap:=h',toks:=tk }∧(∀ b o,s.heap.get? b=some o→h'.get? b=some o)∧h'.get? s.heap.objs.size=some { cls:=.type "list",dict:=none,data:=.seq acc c',slots:=#[] }∧ItemsOf P acc n) (s:={ s with heap:=s.heap.push { cls:=.type "list",data:=.seq ([]:List Value).toArray } }) K hh (K.keep _ _ hok fun b _ o e=>Heap.get?_push_of_some _ e) s.heap.objs.size (Nat.ne_of_gt lr) (Nat.ne_of_gt ld) _ 0 hS (fun h' tk acc c' hk hs' hi=>⟨rfl,h',tk,acc,c',rfl,fun b o e=>hk b o (Nat.ne_of_lt (Heap.lt_size e)) (Heap.get?_push_of_some _ e),hs',hi⟩) hn) (fun fin s' h=>?_) (fun e s' h=>?_)
 ·cases fin with
  | done f =>
   obtain ⟨e,h⟩:=h
   cases e
   exact fin' s' h
  | again c =>
   refine ⟨h.1,codeAny_mono h.2 fun r s'' hr=>?_⟩
   obtain ⟨rfl,h⟩:=hr
   exact fin' s'' h
 ·exact nomatch h.1
end
section
variable {X:Cx} {pins:List (Addr×Obj)} {σ:St} {H:Hp} {s:Shared} {N:Fb} {k:Nat} {fn:Addr} {fd:FuncData} {ps:List Str} {F:List Sl→Option Rv}
theorem Zmq (Fo:FnOk X.prog X.w X.K X.mg X.base CX0 k fn fd ps (spD X.K F)) (hb:Binds X.K fd ps []) (hr:Room (k+2) X.A) (hcalm:X.calm=true)
  (I:Inv X pins σ H s) (nh:∀ a,N a→H a≠none) {a:Addr} {tr:List T3} {ds:List D} (hdc:IsDc X.K H a tr) (dn:DenL X.K N H ds (tr.map fun t=>t.2.1)) (ok:SortOk F ds) {Q:VK}
  (q:∀ da vs H',Same H H'→H da=none→H' da=some (.lst vs)→DenL X.K (fun b=>N b∨b=da) H' (Zcw (ltF F) ds) vs→Q (.ref da) H') :
  wpAny (model X.prog X.w) X.A (call (.builtin "sorted") [.ref a] [("key",.ref fn)]) (EP X pins σ Q) X.xe s:=by
 have l1:=dn.length
 have few:=ok.few
 have hsl:sizeLine=16777216:=sizeLine_eq
 obtain ⟨z,hs,nd,o,es,ep,e1,e2,e3,e4⟩:=hdc.1.ok I.hok
 have hv:=Zjv e4
 have hl:tr.length=es.size:=by have:=hv.length;simpa using this
 refine wpAny_call (codeAny_call_builtin plain_sorted entry_sorted ?_)
 have hck:checkBuiltinCall "sorted" ⟨[.ref a],[("key",.ref fn)]⟩=pure ():=by rfl
 rw [hck]
 refine wpAny_pure ?_
 unfold PySem.Builtin.sorted
 have hcc:checkCount "sorted" 1 1 1=pure ():=rfl
 show wpAny _ _ (do checkCount "sorted" 1 1 1;let y ← collect (.ref a);let l ← newList y;let _ ← holding [l] (call (.builtin "list.sort") [l] [("key",.ref fn)]);ret l) _ _ _
 rw [hcc]
 refine wpAny_bind (wpAny_pure ?_)
 refine wpAny_bind (ZjQ (Zkl (es:=es) (ep:=ep) hs) (I.ok.hd hcalm) ⟨o,e1,e2,e3⟩ (by simp at l1;omega) fun h1 tk acc k1 hi=>?_)
 have hacc:=ZhE hi
 rw [hacc]
 have I1:=I.kept (t':=tk) k1
 have l2:=hv.length
 generalize hits:List.map (fun e=>e.key) es.toList=its at *
 have rv:Vals (tr.map fun t=>t.2.1) its:=hv
 refine wpAny_bind (wpAny_newList ?_ (by simp at l1 l2 ⊢;omega))
 generalize hs1:({ heap:=h1,gens:=s.gens,drawn:=s.drawn,toks:=tk,os:=s.os }:Shared)=s1 at *
 have I2:=I1.kept (t':=s1.toks) (fun b u e=>Heap.get?_push_of_some (lob its 0) e)
 have g:=Heap.get?_push_size s1.heap (o:=lob its 0) rfl
 have fD:=I1.off (Nat.le_refl s1.heap.objs.size)
 have hD:H s1.heap.objs.size=none:=I1.fresh
 refine wpAny_bind (wpAny_holding ?_)
 refine wpAny_call (codeAny_call_builtin PySem.F.slot_list_sort.plain PySem.F.entry_list_sort ?_)
 refine PySem.F.slot_list_sort.check _ _ _ _ _ _ _ _ ⟨_,g,rfl⟩ rfl ?_
 rw [ksk_t1]
 refine Zii (N:=N) Fo hb X.A.in1.in1 hr.in1.in1 ?_ (fun s H e=>e.in1.in1) I2 nh g hD fD rv dn ok fun s' H' vs J sm hn dv=>?_
 ·have:=hr.un;show X.A.units+1+1+40<_;omega
 ·refine wpAny_pure ?_
  refine ⟨.ref _,_,J,rfl,q _ vs _ (fun b u e=>?_) hD Zam ?_⟩
  ·rw [Zs (fun z=>by rw [z,hD] at e;cases e)];exact sm b u e
  ·exact DenL.step (M:=fun _=>False) ⟨fun b u e z=>by
    rw [Zs (fun z=>by rw [z,hn] at e;cases e)];exact e,fun b hb=>by
    rcases hb with hb | hb
    ·exact .inl hb
    ·subst hb;exact .inr hn⟩ _ _ dv
end
section
variable {X:Cx} {M:Fb} {H0:Hp} {k:Nat} {fn:Addr} {fd:FuncData} {ps:List Str} {F:List Sl→Option Rv} {e:Expr} {f:VE→Option D} {x y:Str} {p p2 kpos pos:Pos}
noncomputable def ZeN (F:List Sl→Option Rv) (f:VE→Option D):VE→Option (List D):=fun ρ=>match f ρ with
 | some (.lst xs true)=>(unf xs).bind fun kvs=>Zd8 F (kvs.map fun p=>kD p.1)
 | _=>none
theorem Zm5 (hcalm:X.calm=true) (Fo:FnOk X.prog X.w X.K X.mg X.base CX0 k fn fd ps (spD X.K F)) (hr:Room (k+2) X.A) (hg:Gl X x) (hm:X.mg x=none) (hv:bootBuiltins x=some (.builtin "sorted")) (hgf:Gl X y) (hmf:X.mg y=some (.ref fn)) (hb:Binds X.K fd ps []) (he:PE X e (tP X.K M H0 f))
  (hn:x≠"__name__":=by decide) (hdb:(x==("__debug__":Str))=false:=by decide) (hdb2:(y==("__debug__":Str))=false:=by decide) (hs:starEach [e] X.env=(false,eval e X.env)::starEach [] X.env:=by exact Z1 (fun _ _ z=>nomatch z)) :
  PE X (.Call (.Name x p) [e] [⟨some "key",.Name y p2,kpos⟩] pos) (tF X.K M H0 (ZeN F f)):=by
 intro pins s σ H Q I h
 obtain ⟨ρ,ys,R,ev,q⟩:=h
 refine wpAny_Call_Name_kw (ZbR I hg hm hv ?_ hn hdb)
 unfold ZeN at ev
 split at ev
 ·next xs hf =>
  cases hu:unf xs with
  | none=>rw [hu] at ev;cases ev
  | some kvs =>
  rw [hu] at ev
  obtain ⟨ok,rfl⟩:=ZjA ev
  have ha:=(ZaO he (pa_nil (X:=X)) hs) pos pins s σ H (fun vs H1=>∃ v,vs=[v]∧Same H H1∧DenP X.K (Nf M ρ σ) H1 (.lst xs true) v) I ⟨ρ,.lst xs true,R,hf,fun v H1 s1 d1=>⟨v,rfl,s1,d1⟩⟩
  have hkw:=Zj7 (nm:=some "key") (kpos:=kpos) (ZkE (v:=.ref fn) (pos:=p2) hgf hmf rfl hdb2) (Zmm (X:=X))
  rw [hs] at ha ⊢
  refine callWith_builtin_kwB rfl rfl ?_
  unfold evalArgs
  refine wpAny_bind (thn ha fun us s1 hh=>?_)
  obtain ⟨vs,H1,I1,r1,v,rfl,sm,d1⟩:=hh
  refine wpAny_bind (wpAny_pure ?_)
  refine wpAny_holding ?_
  refine wpAny_bind (thn (hkw pos pins s1 σ H1 (fun zs H2=>zs=[.ref fn]∧H2=H1) I1 ⟨rfl,rfl⟩) fun ks s2 hh=>?_)
  obtain ⟨zs,H2,I2,r2,rfl,rfl⟩:=hh
  refine wpAny_bind (wpAny_pure ?_)
  refine wpAny_pure ?_
  obtain ⟨u,rfl,ru⟩:=ZaK r1
  obtain ⟨u2,rfl,ru2⟩:=ZaK r2
  cases ru2
  rw [ZcL hu] at d1
  obtain ⟨a,ws,rfl,sq,dl⟩:=d1
  cases ru
  obtain ⟨tr,dc,pd⟩:=ZgR sq dl
  have R1:=R.st sm
  exact Zmq (N:=Nf M ρ σ) Fo hb hr hcalm I2 R1.nh dc pd.kden ok fun da vs H' s' hn' hd' dv=>q da vs H' (sm.trans s') (sm.none hn') hd' dv
 ·cases ev
theorem ZjW (hcalm:X.calm=true) (Fo:FnOk X.prog X.w X.K X.mg X.base CX0 k fn fd ps (spD X.K F)) (hr:Room (k+2) X.A) (hg:Gl X x) (hm:X.mg x=none) (hv:bootBuiltins x=some (.builtin "sorted")) (hgf:Gl X y) (hmf:X.mg y=some (.ref fn)) (hb:Binds X.K fd ps []) (he:JE X e (tP X.K M H0 f))
  (hn:x≠"__name__":=by decide) (hdb:(x==("__debug__":Str))=false:=by decide) (hdb2:(y==("__debug__":Str))=false:=by decide) (hs:starEach [e] X.env=(false,eval e X.env)::starEach [] X.env:=by exact Z1 (fun _ _ z=>nomatch z)) :
  JE X (.Call (.Name x p) [e] [⟨some "key",.Name y p2,kpos⟩] pos) (tF X.K M H0 (ZeN F f)):=⟨Zm5 hcalm Fo hr hg hm hv hgf hmf hb he.h hn hdb hdb2 hs⟩
end
end L2
set_option Elab.async false
set_option linter.all false
set_option maxRecDepth 100000
namespace L2
open PySem PySem.Spec PyProof.Rows
@[simp] theorem ZuA (a b:Int):eqD (.int a) (.int b)=decide (a=b):=by simp only [eqD];by_cases h:a=b<;>simp [h]
@[simp] theorem Zul (a b:Str):eqD (.str a) (.str b)=decide (a=b):=by simp only [eqD];by_cases h:a=b<;>simp [h]
@[simp] theorem Zus (a b:Bool):eqD (.bl a) (.bl b)=decide (a=b):=by simp only [eqD];by_cases h:a=b<;>simp [h]
@[simp] theorem Zuy:eqD .non .non=true:=by simp only [eqD]
@[simp] theorem Zuw (a:Bool) (b:Int):eqD (.bl a) (.int b)=decide ((if a then 1 else 0)=b):=by simp only [eqD];by_cases h:(if a then 1 else 0)=b<;>simp [h]
@[simp] theorem Zt8 (a:Int) (b:Bool):eqD (.int a) (.bl b)=decide (a=(if b then 1 else 0)):=by simp only [eqD];by_cases h:a=(if b then 1 else 0)<;>simp [h]
@[simp] theorem Zt2 (a:Int) (b:Str):eqD (.int a) (.str b)=false:=by simp only [eqD]
@[simp] theorem Zuq (a:Str) (b:Int):eqD (.str a) (.int b)=false:=by simp only [eqD]
@[simp] theorem Zuc (a:Bool) (b:Str):eqD (.bl a) (.str b)=false:=by simp only [eqD]
@[simp] theorem Zt4 (a:Str) (b:Bool):eqD (.str a) (.bl b)=false:=by simp only [eqD]
@[simp] theorem Zt5 (b:Int):eqD .non (.int b)=false:=by simp only [eqD]
@[simp] theorem Zuh (b:Str):eqD .non (.str b)=false:=by simp only [eqD]
@[simp] theorem Zt0 (b:Bool):eqD .non (.bl b)=false:=by simp only [eqD]
@[simp] theorem Zut (b:Int):eqD (.int b) .non=false:=by simp only [eqD]
@[simp] theorem Zuo (b:Str):eqD (.str b) .non=false:=by simp only [eqD]
@[simp] theorem Zuj (b:Bool):eqD (.bl b) .non=false:=by simp only [eqD]
@[simp] theorem Zub (a b:List D):eqD (.tup a) (.tup b)=Zad a b:=by simp only [eqD]
@[simp] theorem Zt6 (a b:List D):eqD (.lst a) (.lst b)=Zad a b:=by simp only [eqD]
@[simp] theorem Zui (a b:List D):eqD (.tup a) (.lst b)=false:=by simp only [eqD]
@[simp] theorem Zur (a b:List D):eqD (.lst a) (.tup b)=false:=by simp only [eqD]
@[simp] theorem Zud (a:List D) (b:Int):eqD (.tup a) (.int b)=false:=by simp only [eqD]
@[simp] theorem Zug (a:List D) (b:Str):eqD (.tup a) (.str b)=false:=by simp only [eqD]
@[simp] theorem Zuu (a:List D):eqD (.tup a) .non=false:=by simp only [eqD]
@[simp] theorem Zux (a:List D) (b:Bool):eqD (.tup a) (.bl b)=false:=by simp only [eqD]
@[simp] theorem Zuk (a:List D) (b:Int):eqD (.int b) (.tup a)=false:=by simp only [eqD]
@[simp] theorem Zt3 (a:List D) (b:Str):eqD (.str b) (.tup a)=false:=by simp only [eqD]
@[simp] theorem Zuf (a:List D):eqD .non (.tup a)=false:=by simp only [eqD]
@[simp] theorem Zun (a:List D) (b:Bool):eqD (.bl b) (.tup a)=false:=by simp only [eqD]
@[simp] theorem Zua (a:List D) (b:Int):eqD (.lst a) (.int b)=false:=by simp only [eqD]
@[simp] theorem ZuB (a:List D) (b:Str):eqD (.lst a) (.str b)=false:=by simp only [eqD]
@[simp] theorem Zuz (a:List D):eqD (.lst a) .non=false:=by simp only [eqD]
@[simp] theorem ZuD (a:List D) (b:Bool):eqD (.lst a) (.bl b)=false:=by simp only [eqD]
@[simp] theorem ZuC (a:List D) (b:Int):eqD (.int b) (.lst a)=false:=by simp only [eqD]
@[simp] theorem Zup (a:List D) (b:Str):eqD (.str b) (.lst a)=false:=by simp only [eqD]
@[simp] theorem Zum (a:List D):eqD .non (.lst a)=false:=by simp only [eqD]
@[simp] theorem ZtV (a:List D) (b:Bool):eqD (.bl b) (.lst a)=false:=by simp only [eqD]
@[simp] theorem ZtJ:Zad [] []=true:=by simp only [Zad]
@[simp] theorem Ztg (a b:D) (as bs:List D):Zad (a::as) (b::bs)=(eqD a b&&Zad as bs):=by simp only [Zad]
@[simp] theorem ZtT (b:D) (bs:List D):Zad [] (b::bs)=false:=by simp only [Zad]
@[simp] theorem ZtS (b:D) (bs:List D):Zad (b::bs) []=false:=by simp only [Zad]
@[simp] theorem Zmi:∀ (a b:List Int),Zad (a.map D.int) (b.map D.int)=decide (a=b)
  | [],[]=>by simp
  | [],_::_=>by simp
  | _::_,[]=>by simp
  | x::a,y::b=>by simp [Zmi a b]
@[simp] theorem Ztu (n:Nat) (a:List Int):(a.map D.int).all (okD n)=true:=by
  rw [List.all_eq_true]
  intro x hx
  obtain ⟨i,_,rfl⟩:=List.mem_map.mp hx
  cases n<;>rfl
@[simp] theorem ZtY (t n:String):Zhe t n=(t==n||(t=="bool"&&n=="int")):=rfl
@[simp] theorem ZsM:Zbk=["NoneType","bool","int","str","tuple","list"]:=rfl
@[simp] theorem ZeK:Zaz=12:=rfl
@[simp] theorem ZtB:tysOf.tysL []=some []:=rfl
@[simp] theorem Zte (n:String) (r:List D):tysOf.tysL (.ty n::r)=(tysOf.tysL r).map (n::·):=rfl
@[simp] theorem ZtX (ns:List Int):Zb7 (ns.map D.int)=some ns:=ZfP ns
@[simp] theorem Zhk:∀ (ns:List Bool),Zec (ns.map D.bl)=some ns
  | []=>rfl
  | n::ns=>by simp only [List.map_cons,Zec,Zhk ns];rfl
theorem ZaA {α:Type} {b:D→VE→Option VE} {e:VE→Option D} {ρ:VE} (G F:α→D):∀ (xs:List α),(∀ x∈xs,∃ ρ1,b (G x) ρ=some ρ1∧e ρ1=some (F x))→ZaF b (fun _=>some true) e ρ (xs.map G)=some (xs.map F)
 | [],_=>rfl
 | x::xs,h=>by
  obtain ⟨ρ1,h1,h2⟩:=h x List.mem_cons_self
  simp only [List.map_cons,ZaF,h1,h2,Zb,Option.bind,ZaA G F xs fun y hy=>h y (List.mem_cons_of_mem _ hy)]
@[simp] theorem ZK {α:Type} (l:List α) (h:l.length≤1000000):Zo (some l)=some l:=by
  have:l.length≤sizeLine:=Nat.le_trans h (by decide)
  simp [this]
theorem ZiQ {α β:Type} (f:α→β) (xs:List α) (lo hi:Option Int):ZbJ (xs.map f) lo hi=(ZbJ xs lo hi).map f:=by
 unfold ZbJ
 rw [List.length_map,List.map_take,List.map_drop]
theorem Zue {α:Type} (xs:List α) (k:Int) (h:0≤k):ZbJ xs none (some k)=xs.take k.toNat:=by
 have e:HT.sIx xs.length 0 none=0:=rfl
 have e2:HT.sIx xs.length xs.length (some k)=min k.toNat xs.length:=by simp only [HT.sIx];split<;>omega
 unfold ZbJ
 rw [e,e2,List.drop_zero,Nat.sub_zero]
 rcases Nat.le_total k.toNat xs.length with h1 | h1
 ·rw [Nat.min_eq_left h1]
 ·rw [Nat.min_eq_right h1,List.take_length,List.take_of_length_le h1]
theorem ZnK {α:Type} (xs:List α) (k:Int) (h:0≤k):ZbJ xs (some k) none=xs.drop k.toNat:=by
 have e:HT.sIx xs.length xs.length none=xs.length:=rfl
 have e2:HT.sIx xs.length 0 (some k)=min k.toNat xs.length:=by simp only [HT.sIx];split<;>omega
 unfold ZbJ
 rw [e,e2]
 rcases Nat.le_total k.toNat xs.length with h1 | h1
 ·rw [Nat.min_eq_left h1,List.take_of_length_le (by rw [List.length_drop];exact Nat.le_refl _)]
 ·rw [Nat.min_eq_right h1,List.drop_length,List.drop_of_length_le h1,List.take_nil]
theorem Zpi {α:Type} (xs:List α) (i j:Int) (hi:0≤i) (hj:0≤j):ZbJ xs (some i) (some j)=(xs.drop i.toNat).take (j.toNat-i.toNat):=by
 have e1:HT.sIx xs.length 0 (some i)=min i.toNat xs.length:=by simp only [HT.sIx];split<;>omega
 have e2:HT.sIx xs.length xs.length (some j)=min j.toNat xs.length:=by simp only [HT.sIx];split<;>omega
 unfold ZbJ
 rw [e1,e2]
 rcases Nat.le_total i.toNat xs.length with h1 | h1
 ·rw [Nat.min_eq_left h1]
  rcases Nat.le_total j.toNat xs.length with h2 | h2
  ·rw [Nat.min_eq_left h2]
  ·rw [Nat.min_eq_right h2,List.take_of_length_le (by rw [List.length_drop];exact Nat.le_refl _),List.take_of_length_le (by rw [List.length_drop];omega)]
 ·rw [Nat.min_eq_right h1,List.drop_length,List.drop_of_length_le h1,List.take_nil,List.take_nil]
@[simp] theorem ZnD (ns:List Int):ZgC [.lst (ns.map D.int)]=if ns.length<64 then some ((ZcB ns).map D.int) else none:=by simp [ZgC]
theorem Zom {a b:List Int} (h:a.Perm b):a.sum=b.sum:=by
 induction h with
 | nil=>rfl
 | cons x _ ih=>simp [ih]
 | swap x y l=>simp;omega
 | trans _ _ h1 h2=>exact h1.trans h2
theorem Znz (j:Int) (h0:0≤j) (h:j<1000000000):ZcN [.int j]=some ((List.range j.toNat).map fun (k:Nat)=>D.int (k:Int)):=by
 have e:ZbO 0 j.toNat=(List.range j.toNat).map fun (k:Nat)=>D.int (k:Int):=by simp [ZbO]
 simp only [ZcN]
 rw [Zfu ⟨by omega,by omega⟩,e]
theorem ZcH (n:Nat) (h:n<1000000000):ZcN [.int (n:Int)]=some ((List.range n).map fun (k:Nat)=>D.int (k:Int)):=by
 rw [Znz _ (by omega) (by omega),Int.toNat_natCast]
theorem ZnW (i j:Int) (h0:0≤i) (h1:i<1000000000) (h:j<1000000000) (h2 : -1000000000<j):Zgq [.int i,.int j]=some ((List.range (j-i).toNat).map fun (k:Nat)=>D.int (i+(k:Int))):=by
 simp only [Zgq]
 rw [Zfu ⟨by omega,by omega,by omega,by omega⟩]
 rfl
theorem Zji (xs ys:List D) (h:xs.length+ys.length≤1000000):Zx (.lst xs) (.lst ys)=some (.lst (xs++ys)):=by
 simp only [Zx]
 rw [if_pos (Nat.le_trans h (by decide))]
theorem Zi9 (xs ys:List D) (h:xs.length+ys.length≤1000000):Zx (.tup xs) (.tup ys)=some (.tup (xs++ys)):=by
 simp only [Zx]
 rw [if_pos (Nat.le_trans h (by decide))]
theorem ZdF (x y:Str) (h:x.length+y.length≤1000000):Zx (.str x) (.str y)=some (.str (x++y)):=by
 simp only [Zx]
 rw [if_pos (Nat.le_trans h (by decide))]
theorem Zsi {n:Nat} {i:Int} (h0:0≤i) (h1:i<n):ixN n i=some i.toNat:=by unfold ixN;rw [if_pos h0,if_pos h1]
theorem Zry {α:Type} {xs:List α} {i:Int} (h0:0≤i) (h1:i<xs.length):∃ x,atI xs i=some x∧x∈xs:=by
 have h:i.toNat<xs.length:=by omega
 refine ⟨xs[i.toNat],?_,List.getElem_mem _⟩
 unfold atI
 rw [Zsi h0 h1]
 exact List.getElem?_eq_getElem h
theorem ZpH {z:Str} {i:Int} (hz:z.length≤1000000) (h0:0≤i) (h1:i<z.length):∃ c,ixD (.str z) (.int i)=some (.str ⟨#[c]⟩)∧c∈z.cps.toList:=by
 have hl:z.cps.toList.length=z.length:=by simp [Str.length]
 obtain ⟨c,e,hc⟩:=Zry (xs:=z.cps.toList) h0 (by rw [hl];exact h1)
 refine ⟨c,?_,hc⟩
 simp only [ixD]
 rw [if_pos (Nat.le_trans hz (by decide)),e]
 rfl
@[simp] theorem Za7 (d:D):rvD (.val d)=d:=rfl
@[simp] theorem Zf8 (xs:List D) (b:Bool):rvD (.own xs b)=.lst xs b:=rfl
end L2
set_option Elab.async false
set_option linter.all false
set_option maxRecDepth 100000
set_option maxHeartbeats 4000000
namespace K32
open PySem PySem.Spec PyProof.Rows L2
noncomputable def Zf0:VE→Res:=(fun ρ=>Zi (ZQ ((Zo ((Zb (Zk ((ZH Zba (fun ρ=>Zb (rdA ρ 0) (some []))) ρ)) (Zb (Zk ((ZH ZlC (fun ρ=>Zb (rdA ρ 0) (some []))) ρ)) (Zb (Zk ((ZH Zln (fun ρ=>Zb (rdA ρ 0) (some []))) ρ)) (Zb (Zk ((ZH ZlO (fun ρ=>Zb (rdA ρ 0) (some []))) ρ)) (some []))))).bind Zw)).map D.tup)) (fun ρ=>.next ρ))
noncomputable def F_cell_of:List Sl→Option Rv:=fnP 1 1 Zf0
noncomputable def Zgo:VE→Res:=(fun ρ=>Zi (ZQ ((Zo ((Zb (Zk ((Ze Zx (Ze ixD (fun ρ=>rdP ρ 0) (fun _=>some (.int (0)))) (Ze ixD (fun ρ=>rdP ρ 1) (fun _=>some (.int (0))))) ρ)) (Zb (Zk ((Ze Zx (Ze ixD (fun ρ=>rdP ρ 0) (fun _=>some (.int (1)))) (Ze ixD (fun ρ=>rdP ρ 1) (fun _=>some (.int (1))))) ρ)) (Zb (Zk ((ZH Zlf (fun ρ=>Zb (Zk ((Ze ixD (fun ρ=>rdP ρ 0) (fun _=>some (.int (2)))) ρ)) (Zb (Zk ((Ze ixD (fun ρ=>rdP ρ 1) (fun _=>some (.int (2)))) ρ)) (some [])))) ρ)) (Zb (Zk ((ZH Zlp (fun ρ=>Zb (Zk ((Ze ixD (fun ρ=>rdP ρ 0) (fun _=>some (.int (3)))) ρ)) (Zb (Zk ((Ze ixD (fun ρ=>rdP ρ 1) (fun _=>some (.int (3)))) ρ)) (some [])))) ρ)) (some []))))).bind Zw)).map D.tup)) (fun ρ=>.next ρ))
noncomputable def F_merged:List Sl→Option Rv:=fnP 2 2 Zgo
noncomputable def Ze3:VE→Res:=(fun ρ=>Zi (ZQ (blO (ZiB (asB ((ZH isD (fun ρ=>Zb (rdA ρ 0) (Zb (Zk (some (.ty "int"))) (some [])))) ρ)) (asB (blO (ZbG (asB ((ZH isD (fun ρ=>Zb (rdA ρ 0) (Zb (Zk (some (.ty "bool"))) (some [])))) ρ)))))))) (fun ρ=>.next ρ))
noncomputable def F_is_whole:List Sl→Option Rv:=fnP 1 1 Ze3
noncomputable def ZdW:VE→Res:=(fun ρ=>Zi (ZQ (Zg0 (asB ((Ze ltO (fun ρ=>rdP ρ 1) (ZH Zba (fun ρ=>Zb (rdA ρ 0) (some [])))) ρ)) ((Ze ixD (fun ρ=>rdP ρ 0) (fun ρ=>rdP ρ 1)) ρ) (some .non))) (fun ρ=>.next ρ))
noncomputable def F_line_at:List Sl→Option Rv:=fnP 2 2 ZdW
noncomputable def ZgN:VE→Option D:=(fun _=>some (.int (0)))
noncomputable def Ze7:VE→Res:=(fun ρ=>Zi (ZQ ((ZH Zbp (fun ρ=>Zb (Zk (ZN ((ZM 1 [] (fun ρ=>(rdQ ρ 0).bind ZJ) (Zm 0) (fun _=>some true) ZgN) ρ))) (some []))) ρ)) (fun ρ=>.next ρ))
noncomputable def F_finest:List Sl→Option Rv:=fnP 1 1 Ze7
noncomputable def ZbU:VE→Option D:=(Ze (Zb8 false) (fun ρ=>rdP ρ 1) (fun ρ=>rdP ρ 0))
noncomputable def Zcz:VE→Res:=(fun ρ=>Zi (ZQ ((ZH Zim (fun ρ=>Zb (Zk (ZN ((ZM 2 [] (ZfI (fun ρ=>rdQ ρ 0) (fun ρ=>rdQ ρ 1)) (Z8 2 (Zu (Zm 0) (Zu (Zm 1) Z9))) (fun _=>some true) ZbU) ρ))) (some []))) ρ)) (fun ρ=>.next ρ))
noncomputable def F_goes_along:List Sl→Option Rv:=fnP 2 2 Zcz
noncomputable def Zcd:VE→Res:=(fun ρ=>Zi (Zaa (asB ((Ze ltO (fun ρ=>rdP ρ 1) (ZH Zba (fun ρ=>Zb (rdA ρ 0) (some [])))) ρ)) (Zi (ZQ ((Ze ixD (fun ρ=>rdP ρ 0) (fun ρ=>rdP ρ 1)) ρ)) (fun ρ=>.next ρ)) (.next ρ)) (fun ρ=>Zi (ZQ (some (.int (0)))) (fun ρ=>.next ρ)))
noncomputable def F_law_cell_at:List Sl→Option Rv:=fnP 2 2 Zcd
noncomputable def ZbW:VE→Res:=(fun ρ=>Zi (ZL 2 ((Ze ZW (Ze Zx (Ze Zx (Ze ZcP (fun ρ=>rdP ρ 2) (fun _=>some (.int (48271)))) (Ze ZcP (fun _=>some (.int (2))) (fun ρ=>rdP ρ 4))) (fun _=>some (.int (11)))) (fun _=>some (.int (2147483647)))) ρ) ρ) (fun ρ=>Zi (Zbd 3 ((Ze Zbg (fun ρ=>rdP ρ 2) (fun _=>some (.int (64)))) ρ) ρ) (fun ρ=>.next ρ)))
noncomputable def Zet:VE→Res:=(fun ρ=>ZL 2 ((Ze ZW (Ze Zx (fun ρ=>rdP ρ 0) (Ze ZcP (fun _=>some (.int (7919))) (fun ρ=>rdP ρ 1))) (fun _=>some (.int (2147483629)))) ρ) ρ)
noncomputable def Zez:VE→Res:=(fun ρ=>ZaM 3 (Zo ((some []).bind Zw)) ρ)
noncomputable def ZeC:VE→Res:=(Zaw (fun ρ=>((Zb (Zk (some (.int (25)))) (some [])).bind Zw).bind ZcN) (Zm 4) ZbW)
noncomputable def ZeF:VE→Res:=(fun ρ=>ZQ ((sl3 (fun ρ=>rdP ρ 3) (fun ρ=>asI (some (.int (1)))) (fun _=>some none) slD) ρ))
noncomputable def Zho:VE→Res:=fun ρ=>.next ρ
noncomputable def Zev:VE→Res:=fun ρ=>Zi (ZeF ρ) Zho
noncomputable def ZeI:VE→Res:=fun ρ=>Zi (ZeC ρ) Zev
noncomputable def ZeG:VE→Res:=fun ρ=>Zi (Zez ρ) ZeI
noncomputable def Zey:VE→Res:=fun ρ=>Zi (Zet ρ) ZeG
noncomputable def ZdL:VE→Res:=Zey
noncomputable def F_law_stream:List Sl→Option Rv:=fnP 2 5 ZdL
noncomputable def ZdD:VE→Res:=(fun ρ=>Zi (ZL 3 ((Ze Zx (fun ρ=>rdP ρ 3) (Ze ixD (fun ρ=>rdP ρ 2) (Ze ZW (Ze Zbg (fun ρ=>rdP ρ 0) (Ze Zx (fun ρ=>rdP ρ 4) (fun _=>some (.int (3))))) (fun _=>some (.int (36)))))) ρ) ρ) (fun ρ=>.next ρ))
noncomputable def ZfY:VE→Res:=(fun ρ=>ZL 2 (some (.str "abcdefghijklmnopqrstuvwxyz0123456789")) ρ)
noncomputable def Zfz:VE→Res:=(fun ρ=>ZL 3 ((Ze ixD (fun ρ=>rdP ρ 2) (Ze ZW (fun ρ=>rdP ρ 0) (fun _=>some (.int (26))))) ρ) ρ)
noncomputable def ZfU:VE→Res:=(Zaw (fun ρ=>((Zb (Zk (rdV ρ 1)) (some [])).bind Zw).bind ZcN) (Zm 4) ZdD)
noncomputable def ZfQ:VE→Res:=(fun ρ=>ZQ (rdV ρ 3))
noncomputable def Zie:VE→Res:=fun ρ=>.next ρ
noncomputable def ZfS:VE→Res:=fun ρ=>Zi (ZfQ ρ) Zie
noncomputable def ZfZ:VE→Res:=fun ρ=>Zi (ZfU ρ) ZfS
noncomputable def ZfH:VE→Res:=fun ρ=>Zi (Zfz ρ) ZfZ
noncomputable def ZfB:VE→Res:=fun ρ=>Zi (ZfY ρ) ZfH
noncomputable def ZeZ:VE→Res:=ZfB
noncomputable def F_law_word:List Sl→Option Rv:=fnP 2 5 ZeZ
noncomputable def Ze8:VE→Res:=(fun ρ=>Zi (Zaa (Zk1 (rdP ρ 0)) (Zi (ZQ ((Zo ((Zb (Zk (some (.int (0)))) (Zb (Zk (some (.int (0)))) (Zb (Zk (some (.str ""))) (some [])))).bind Zw)).map D.tup)) (fun ρ=>.next ρ)) (.next ρ)) (fun ρ=>Zi (Zaa (Zbe ((ZH isD (fun ρ=>Zb (rdA ρ 0) (Zb (Zk (some (.ty "int"))) (some [])))) ρ)) (Zi (ZQ ((Zo ((Zb (Zk (some (.int (1)))) (Zb (Zk (rdV ρ 0)) (Zb (Zk (some (.str ""))) (some [])))).bind Zw)).map D.tup)) (fun ρ=>.next ρ)) (.next ρ)) (fun ρ=>Zi (ZQ ((Zo ((Zb (Zk (some (.int (2)))) (Zb (Zk (some (.int (0)))) (Zb (Zk (rdV ρ 0)) (some [])))).bind Zw)).map D.tup)) (fun ρ=>.next ρ))))
noncomputable def F_law_rank:List Sl→Option Rv:=fnP 1 1 Ze8
noncomputable def Zb3:VE→Res:=(fun ρ=>Zi (Zaa (asB ((Ze eqO (Ze ixD (fun ρ=>rdP ρ 3) (fun _=>some (.int (0)))) (fun ρ=>rdP ρ 1)) ρ)) (Zi (ZQ ((Ze ixD (Ze Zx (fun ρ=>rdP ρ 3) (fun ρ=>(Zo ((Zb (Zk (some .non)) (some [])).bind Zw)).map D.tup)) (fun ρ=>rdP ρ 2)) ρ)) (fun ρ=>.next ρ)) (.next ρ)) (fun ρ=>.next ρ))
noncomputable def ZeR:VE→Res:=(fun ρ=>Zi ((Zaw (fun ρ=>(rdQ ρ 0).bind ZJ) (Zm 3) Zb3) ρ) (fun ρ=>Zi (ZQ (some .non)) (fun ρ=>.next ρ)))
noncomputable def F_law_up:List Sl→Option Rv:=fnP 3 4 ZeR
noncomputable def Zdd:VE→Res:=(fun ρ=>Zi (ZL 1 (ZN ((Zc7 ZgC (fun ρ=>Zb (rdA ρ 0) (some []))) ρ)) ρ) (fun ρ=>Zi (ZQ ((Zo ((Zb (Zk ((ZH Zba (fun ρ=>Zb (rdA ρ 1) (some []))) ρ)) (Zb (Zk ((ZH ZlC (fun ρ=>Zb (rdA ρ 1) (some []))) ρ)) (Zb (Zk ((Ze ixD (fun ρ=>rdP ρ 1) (fun _=>some (.int (0)))) ρ)) (Zb (Zk ((Ze ixD (fun ρ=>rdP ρ 1) (fun ρ=>Zg1 (some (.int (1))))) ρ)) (some []))))).bind Zw)).map D.tup)) (fun ρ=>.next ρ)))
noncomputable def F_law_cell_of:List Sl→Option Rv:=fnP 1 2 Zdd
noncomputable def Zcb:VE→Res:=(fun ρ=>Zi (Zbd 2 ((Ze ZW (Ze Zbg (fun ρ=>rdP ρ 0) (Ze ixD (fun ρ=>ZN (Zo ((Zb (Zk (some (.int (1)))) (Zb (Zk (some (.int (5)))) (Zb (Zk (some (.int (25)))) (Zb (Zk (some (.int (125)))) (some []))))).bind Zw))) (fun ρ=>rdP ρ 3))) (Ze Zx (ZH Zba (fun ρ=>Zb (Zk ((Ze ixD (fun ρ=>rdP ρ 4) (fun _=>some (.int (0)))) ρ)) (some []))) (fun _=>some (.int (1))))) ρ) ρ) (fun ρ=>.next ρ))
noncomputable def ZcW:VE→Res:=(fun ρ=>Zi (ZaM 2 (Zo ((some []).bind Zw)) ρ) (fun ρ=>Zi ((Zaw (ZbI (fun ρ=>rdQ ρ 1)) (Z8 2 (Zu (Zm 3) (Zu (Zm 4) Z9))) Zcb) ρ) (fun ρ=>Zi (ZQ ((ZH Zbp (fun ρ=>Zb (rdA ρ 2) (some []))) ρ)) (fun ρ=>.next ρ))))
noncomputable def F_law_grain:List Sl→Option Rv:=fnP 2 5 ZcW
noncomputable def Zcl:VE→Option D:=(ZH isD (fun ρ=>Zb (rdA ρ 0) (Zb (Zk (some (.ty "bool"))) (some []))))
noncomputable def Zbw:VE→Res:=(fun ρ=>Zi (Zaa (orB (ZbG (Zbe ((ZH isD (fun ρ=>Zb (rdA ρ 1) (Zb (Zk (some (.ty "tuple"))) (some [])))) ρ))) (orB (asB ((Ze neO (ZH Zba (fun ρ=>Zb (rdA ρ 1) (some []))) (fun _=>some (.int (2)))) ρ)) (ZbG (Zbe ((ZH isD (fun ρ=>Zb (Zk ((Ze ixD (fun ρ=>rdP ρ 1) (fun _=>some (.int (0)))) ρ)) (Zb (Zk (some (.ty "tuple"))) (some [])))) ρ))))) (Zi (ZQ (some (.bl false))) (fun ρ=>.next ρ)) (.next ρ)) (fun ρ=>Zi (Zaa (orB (ZbG (Zbe ((ZH isD (fun ρ=>Zb (Zk ((Ze ixD (fun ρ=>rdP ρ 1) (fun _=>some (.int (1)))) ρ)) (Zb (Zk (some (.ty "tuple"))) (some [])))) ρ))) (Zbe ((ZH Zig (fun ρ=>Zb (Zk (ZN ((ZM 1 [] (fun ρ=>((Ze Zx (Ze ixD (fun ρ=>rdP ρ 1) (fun _=>some (.int (0)))) (Ze ixD (fun ρ=>rdP ρ 1) (fun _=>some (.int (1))))) ρ).bind ZJ) (Zm 0) (fun _=>some true) Zcl) ρ))) (some []))) ρ))) (Zi (ZQ (some (.bl false))) (fun ρ=>.next ρ)) (.next ρ)) (fun ρ=>.next ρ)))
noncomputable def ZbV:VE→Res:=(fun ρ=>Zi (Zaa (ZbG (Zbe ((ZH isD (fun ρ=>Zb (rdA ρ 0) (Zb (Zk (some (.ty "list"))) (some [])))) ρ))) (Zi (ZQ (some (.bl false))) (fun ρ=>.next ρ)) (.next ρ)) (fun ρ=>Zi ((Zaw (fun ρ=>(rdQ ρ 0).bind ZJ) (Zm 1) Zbw) ρ) (fun ρ=>Zi (ZQ (some (.bl true))) (fun ρ=>.next ρ))))
noncomputable def F_law_is_table:List Sl→Option Rv:=fnP 1 2 ZbV
noncomputable def Zdz:VE→Res:=(fun ρ=>Zi (Zaa (Zk1 (rdP ρ 0)) (Zi (ZQ ((Zo ((Zb (Zk (some (.int (0)))) (Zb (Zk (some (.int (0)))) (some []))).bind Zw)).map D.tup)) (fun ρ=>.next ρ)) (.next ρ)) (fun ρ=>Zi (Zaa (Zbe ((Zr F_is_whole (fun ρ=>Zb (rdA ρ 0) (some []))) ρ)) (Zi (ZQ ((Zo ((Zb (Zk (some (.int (1)))) (Zb (Zk (rdV ρ 0)) (some []))).bind Zw)).map D.tup)) (fun ρ=>.next ρ)) (.next ρ)) (fun ρ=>Zi (ZQ ((Zo ((Zb (Zk (some (.int (2)))) (Zb (Zk (rdV ρ 0)) (some []))).bind Zw)).map D.tup)) (fun ρ=>.next ρ))))
noncomputable def F_value_rank:List Sl→Option Rv:=fnP 1 1 Zdz
noncomputable def ZfG:VE→Option D:=(fun ρ=>(Zo ((Zb (Zk ((Zr F_line_at (fun ρ=>Zb (rdA ρ 0) (Zb (rdA ρ 1) (some [])))) ρ)) (Zb (Zk ((Zr F_line_at (fun ρ=>Zb (rdA ρ 0) (Zb (rdA ρ 2) (some [])))) ρ)) (some []))).bind Zw)).map D.tup)
noncomputable def Zf5:VE→Res:=(fun ρ=>Zi (ZlJ ((ZgP (fun ρ=>ZN ((ZM 1 [1,2] (fun ρ=>(rdQ ρ 0).bind ZJ) (Zm 0) (fun _=>some true) ZfG) ρ))) ρ)) (fun ρ=>.next ρ))
noncomputable def F_lifts:List Sl→Option Rv:=fnP 3 3 Zf5
noncomputable def ZbB:VE→Res:=(fun ρ=>ZL 3 ((Ze ZW (Ze Zbg (fun ρ=>rdP ρ 1) (fun _=>some (.int (4)))) (Ze ZiY (fun _=>some (.int (10))) (fun _=>some (.int (30))))) ρ) ρ)
noncomputable def Zbx:VE→Res:=(fun ρ=>Zaa (asB ((Ze eqO (fun ρ=>rdP ρ 0) (fun _=>some (.int (0)))) ρ)) (Zi (ZQ ((Ze Zx (fun ρ=>rdP ρ 3) (fun ρ=>rdP ρ 2)) ρ)) (fun ρ=>.next ρ)) (.next ρ))
noncomputable def Zca:VE→Res:=(fun ρ=>Zaa (asB ((Ze eqO (fun ρ=>rdP ρ 0) (fun _=>some (.int (1)))) ρ)) (Zi (ZQ ((Ze ZfX (Ze ZfX (fun _=>some (.int (0))) (fun ρ=>rdP ρ 3)) (fun ρ=>rdP ρ 2)) ρ)) (fun ρ=>.next ρ)) (.next ρ))
noncomputable def Zc6:VE→Res:=(fun ρ=>ZL 4 ((Zr F_law_word (fun ρ=>Zb (Zk ((Ze Zbg (fun ρ=>rdP ρ 1) (fun _=>some (.int (4)))) ρ)) (Zb (Zk ((Ze ZW (fun ρ=>rdP ρ 1) (fun _=>some (.int (8)))) ρ)) (some [])))) ρ) ρ)
noncomputable def Zc5:VE→Res:=(fun ρ=>Zaa (asB ((Ze eqO (fun ρ=>rdP ρ 0) (fun _=>some (.int (2)))) ρ)) (Zi (ZQ ((Ze Zx (fun ρ=>rdP ρ 4) (mtO ZfT (ZH Zg4 (fun ρ=>Zb (rdA ρ 2) (some []))) (fun ρ=>Zb (Zk ((Ze Zx (fun _=>some (.int (1))) (Ze ZW (Ze Zbg (fun ρ=>rdP ρ 1) (fun _=>some (.int (8)))) (fun _=>some (.int (4))))) ρ)) (some [])))) ρ)) (fun ρ=>.next ρ)) (.next ρ))
noncomputable def Zfh:VE→Res:=(fun ρ=>ZL 5 (some (.str "abcdefghijklmnopqrstuvwxyz")) ρ)
noncomputable def Zfm:VE→Res:=(fun ρ=>ZL 6 ((Ze ZW (Ze Zbg (fun ρ=>rdP ρ 1) (fun _=>some (.int (8)))) (Ze Zx (ZH Zba (fun ρ=>Zb (rdA ρ 4) (some []))) (fun _=>some (.int (1))))) ρ) ρ)
noncomputable def Zfj:VE→Res:=(fun ρ=>ZL 7 ((Ze Zx (Ze ixD (fun ρ=>rdP ρ 5) (Ze Zbg (fun ρ=>rdP ρ 2) (fun _=>some (.int (26))))) (Ze ixD (fun ρ=>rdP ρ 5) (Ze ZW (Ze Zx (fun ρ=>rdP ρ 2) (Ze Zbg (fun ρ=>rdP ρ 1) (fun _=>some (.int (8))))) (fun _=>some (.int (26)))))) ρ) ρ)
noncomputable def Zfi:VE→Res:=(fun ρ=>ZQ ((Ze Zx (Ze Zx (sl3 (fun ρ=>rdP ρ 4) (fun _=>some none) (fun ρ=>asI (rdP ρ 6)) slD) (fun ρ=>rdP ρ 7)) (sl3 (fun ρ=>rdP ρ 4) (fun ρ=>asI (rdP ρ 6)) (fun _=>some none) slD)) ρ))
noncomputable def Zh2:VE→Res:=fun ρ=>.next ρ
noncomputable def Zfk:VE→Res:=fun ρ=>Zi (Zfi ρ) Zh2
noncomputable def Zfq:VE→Res:=fun ρ=>Zi (Zfj ρ) Zfk
noncomputable def Zfn:VE→Res:=fun ρ=>Zi (Zfm ρ) Zfq
noncomputable def Zfl:VE→Res:=fun ρ=>Zi (Zfh ρ) Zfn
noncomputable def Zdc:VE→Res:=fun ρ=>Zi (Zc5 ρ) Zfl
noncomputable def Zc8:VE→Res:=fun ρ=>Zi (Zc6 ρ) Zdc
noncomputable def Zcc:VE→Res:=fun ρ=>Zi (Zca ρ) Zc8
noncomputable def ZbA:VE→Res:=fun ρ=>Zi (Zbx ρ) Zcc
noncomputable def Zbz:VE→Res:=fun ρ=>Zi (ZbB ρ) ZbA
noncomputable def ZbF:VE→Res:=Zbz
noncomputable def F_law_value:List Sl→Option Rv:=fnP 3 8 ZbF
noncomputable def Zea:VE→Option D:=(Ze ixD (Ze ixD (fun ρ=>rdP ρ 1) (Ze ZW (Ze ixD (fun ρ=>rdP ρ 2) (fun ρ=>rdP ρ 0)) (ZH Zba (fun ρ=>Zb (rdA ρ 1) (some []))))) (fun _=>some (.int (0))))
noncomputable def Zep:VE→Res:=(fun ρ=>ZL 3 ((Zr F_law_stream (fun ρ=>Zb (rdA ρ 0) (Zb (rdA ρ 1) (some [])))) ρ) ρ)
noncomputable def Zeb:VE→Res:=(fun ρ=>ZL 4 ((ZH Zbp (fun ρ=>Zb (Zk (ZN ((ZM 2 [3] (ZbI (fun ρ=>rdQ ρ 2)) (Z8 2 (Zu (Zm 0) (Zu (Zm 1) Z9))) (fun _=>some true) Zea) ρ))) (some []))) ρ) ρ)
noncomputable def Zed:VE→Res:=(fun ρ=>ZL 5 ((Ze ZcP (Ze ZW (fun ρ=>rdP ρ 0) (Ze ZiY (fun _=>some (.int (10))) (fun _=>some (.int (30))))) (Ze ZfX (fun _=>some (.int (1))) (Ze ZcP (fun _=>some (.int (2))) (Ze ZW (Ze ixD (fun ρ=>rdP ρ 3) (fun _=>some (.int (5)))) (fun _=>some (.int (2))))))) ρ) ρ)
noncomputable def Zee:VE→Res:=(fun ρ=>Zaa (asB ((Ze eqO (Ze ZW (Ze ixD (fun ρ=>rdP ρ 3) (fun _=>some (.int (6)))) (fun _=>some (.int (2)))) (fun _=>some (.int (1)))) ρ)) (Zi (ZL 5 ((Ze ZfX (Ze ZW (Ze ixD (fun ρ=>rdP ρ 3) (fun _=>some (.int (7)))) (fun _=>some (.int (7)))) (fun _=>some (.int (3)))) ρ) ρ) (fun ρ=>.next ρ)) (.next ρ))
noncomputable def Zef:VE→Res:=(fun ρ=>ZQ ((Zo ((Zb (Zk (rdV ρ 4)) (Zb (Zk (rdV ρ 5)) (some []))).bind Zw)).map D.tup))
noncomputable def Zj1:VE→Res:=fun ρ=>.next ρ
noncomputable def Zej:VE→Res:=fun ρ=>Zi (Zef ρ) Zj1
noncomputable def Zei:VE→Res:=fun ρ=>Zi (Zee ρ) Zej
noncomputable def Zeo:VE→Res:=fun ρ=>Zi (Zed ρ) Zei
noncomputable def Zek:VE→Res:=fun ρ=>Zi (Zeb ρ) Zeo
noncomputable def Zd9:VE→Res:=fun ρ=>Zi (Zep ρ) Zek
noncomputable def ZcZ:VE→Res:=Zd9
noncomputable def F_law_row:List Sl→Option Rv:=fnP 3 6 ZcZ
noncomputable def ZbT:VE→Option D:=(Zr F_law_up (fun ρ=>Zb (rdA ρ 0) (Zb (rdA ρ 1) (Zb (rdA ρ 2) (some [])))))
noncomputable def Zcy:VE→Res:=(fun ρ=>Zi (ZQ ((ZH Zbp (fun ρ=>Zb (Zk (ZN ((ZM 3 [] (Zh9 (fun ρ=>rdQ ρ 0) (fun ρ=>rdQ ρ 1) (fun ρ=>rdQ ρ 2)) (Z8 3 (Zu (Zm 0) (Zu (Zm 1) (Zu (Zm 2) Z9)))) (fun _=>some true) ZbT) ρ))) (some []))) ρ)) (fun ρ=>.next ρ))
noncomputable def F_law_key_at:List Sl→Option Rv:=fnP 3 3 Zcy
noncomputable def Zci:VE→Option D:=(Zr F_law_rank (fun ρ=>Zb (rdA ρ 0) (some [])))
noncomputable def Zb2:VE→Res:=(fun ρ=>Zi (ZaZ ((ZM 1 [] (fun ρ=>(rdQ ρ 0).bind ZJ) (Zm 0) (fun _=>some true) Zci) ρ)) (fun ρ=>.next ρ))
noncomputable def F_law_key_rank:List Sl→Option Rv:=fnP 1 1 Zb2
noncomputable def Zdv:VE→Option D:=(Zr F_value_rank (fun ρ=>Zb (rdA ρ 0) (some [])))
noncomputable def ZeS:VE→Res:=(fun ρ=>Zi (ZQ ((ZH Zbp (fun ρ=>Zb (Zk (ZN ((ZM 1 [] (fun ρ=>(rdQ ρ 0).bind ZJ) (Zm 0) (fun _=>some true) Zdv) ρ))) (some []))) ρ)) (fun ρ=>.next ρ))
noncomputable def F_key_rank:List Sl→Option Rv:=fnP 1 1 ZeS
noncomputable def ZkY:VE→Res:=(fun ρ=>Zi (ZQ ((Ze Za4 (Zr F_lifts (fun ρ=>Zb (rdA ρ 0) (Zb (Zk (some (.int (0)))) (Zb (rdA ρ 2) (some []))))) (fun ρ=>rdP ρ 1)) ρ)) (fun ρ=>.next ρ))
noncomputable def F_up:List Sl→Option Rv:=fnP 3 3 ZkY
noncomputable def Zeg:VE→Option D:=(Zr F_lifts (fun ρ=>Zb (rdA ρ 1) (Zb (Zk ((Ze ixD (fun ρ=>rdP ρ 2) (fun ρ=>rdP ρ 0)) ρ)) (Zb (Zk ((Ze ixD (fun ρ=>rdP ρ 3) (fun ρ=>rdP ρ 0)) ρ)) (some [])))))
noncomputable def Zd2:VE→Res:=(fun ρ=>Zi (ZaZ ((ZM 2 [1,2] (ZbI (fun ρ=>rdQ ρ 0)) (Z8 2 (Zu (Zm 0) (Zu (Zm 1) Z9))) (fun _=>some true) Zeg) ρ)) (fun ρ=>.next ρ))
noncomputable def F_ways_up:List Sl→Option Rv:=fnP 3 3 Zd2
noncomputable def Zar:VE→Res:=(fun ρ=>Zi (Zbd 4 ((Ze ixD (fun ρ=>ZN (Zo ((Zb (Zk ((Ze Zx (fun _=>some (.int (1))) (Ze ZW (Ze ixD (fun ρ=>rdP ρ 3) (fun ρ=>rdP ρ 5)) (fun _=>some (.int (6))))) ρ)) (Zb (Zk ((Ze Zx (fun _=>some (.int (2))) (Ze ZW (Ze ixD (fun ρ=>rdP ρ 3) (fun ρ=>rdP ρ 5)) (fun _=>some (.int (3))))) ρ)) (Zb (Zk (some (.int (47)))) (Zb (Zk (some (.int (3)))) (some []))))).bind Zw))) (Ze ZW (Ze Zbg (Ze ixD (fun ρ=>rdP ρ 3) (fun ρ=>rdP ρ 5)) (fun _=>some (.int (64)))) (fun _=>some (.int (4))))) ρ) ρ) (fun ρ=>.next ρ))
noncomputable def ZaP:VE→Res:=(fun ρ=>Zi (Zaa (asB ((Ze gtD (fun ρ=>rdP ρ 5) (fun _=>some (.int (0)))) ρ)) (Zi (ZL 8 ((Ze ZW (Ze Zx (Ze ZcP (fun ρ=>rdP ρ 8) (Ze Zx (fun _=>some (.int (1))) (Ze ZW (Ze ixD (fun ρ=>rdP ρ 3) (Ze Zx (fun _=>some (.int (4))) (fun ρ=>rdP ρ 5))) (fun _=>some (.int (5)))))) (Ze ixD (fun ρ=>rdP ρ 3) (Ze Zx (fun _=>some (.int (8))) (fun ρ=>rdP ρ 5)))) (Ze ixD (fun ρ=>rdP ρ 4) (fun ρ=>rdP ρ 5))) ρ) ρ) (fun ρ=>.next ρ)) (.next ρ)) (fun ρ=>Zi (ZL 10 ((Ze Zx (fun ρ=>rdP ρ 0) (Ze ZcP (Ze ZcP (fun ρ=>rdP ρ 5) (Ze ZW (Ze ixD (fun ρ=>rdP ρ 3) (fun _=>some (.int (16)))) (fun _=>some (.int (2))))) (fun _=>some (.int (1000003))))) ρ) ρ) (fun ρ=>Zi (Zbd 9 ((Zr F_law_value (fun ρ=>Zb (Zk ((Ze ZW (Ze ixD (fun ρ=>rdP ρ 3) (Ze Zx (fun _=>some (.int (12))) (fun ρ=>rdP ρ 5))) (fun _=>some (.int (4)))) ρ)) (Zb (rdA ρ 10) (Zb (rdA ρ 8) (some []))))) ρ) ρ) (fun ρ=>.next ρ))))
noncomputable def ZbS:VE→Res:=(fun ρ=>Zi (ZL 8 ((Ze ZW (Ze Zx (Ze ZcP (fun ρ=>rdP ρ 7) (Ze Zx (fun _=>some (.int (1))) (Ze ZW (Ze ixD (fun ρ=>rdP ρ 3) (fun _=>some (.int (0)))) (fun _=>some (.int (46)))))) (Ze ixD (fun ρ=>rdP ρ 3) (fun _=>some (.int (4))))) (fun _=>some (.int (47)))) ρ) ρ) (fun ρ=>Zi (ZaM 9 (Zo ((some []).bind Zw)) ρ) (fun ρ=>Zi ((Zaw (fun ρ=>((Zb (Zk (rdV ρ 2)) (some [])).bind Zw).bind ZcN) (Zm 5) ZaP) ρ) (fun ρ=>Zi (Zbd 6 ((ZH Zbp (fun ρ=>Zb (rdA ρ 9) (some []))) ρ) ρ) (fun ρ=>.next ρ)))))
noncomputable def ZeE:VE→Res:=(fun ρ=>ZL 3 ((Zr F_law_stream (fun ρ=>Zb (rdA ρ 0) (Zb (rdA ρ 2) (some [])))) ρ) ρ)
noncomputable def ZeJ:VE→Res:=(fun ρ=>ZaM 4 (Zo ((Zb (Zk (some (.int (47)))) (some [])).bind Zw)) ρ)
noncomputable def ZeM:VE→Res:=(Zaw (fun ρ=>((Zb (Zk (some (.int (1)))) (Zb (Zk (some (.int (4)))) (some []))).bind Zw).bind Zgq) (Zm 5) Zar)
noncomputable def Zex:VE→Res:=(fun ρ=>ZaM 6 (Zo ((some []).bind Zw)) ρ)
noncomputable def ZeD:VE→Res:=(Zaw (fun ρ=>((Zb (Zk (rdV ρ 1)) (some [])).bind Zw).bind ZcN) (Zm 7) ZbS)
noncomputable def Zew:VE→Res:=(fun ρ=>ZaZ (rdO ρ 6))
noncomputable def Zhf:VE→Res:=fun ρ=>.next ρ
noncomputable def ZeO:VE→Res:=fun ρ=>Zi (Zew ρ) Zhf
noncomputable def ZeA:VE→Res:=fun ρ=>Zi (ZeD ρ) ZeO
noncomputable def ZeH:VE→Res:=fun ρ=>Zi (Zex ρ) ZeA
noncomputable def ZeL:VE→Res:=fun ρ=>Zi (ZeM ρ) ZeH
noncomputable def Zeu:VE→Res:=fun ρ=>Zi (ZeJ ρ) ZeL
noncomputable def ZcT:VE→Res:=fun ρ=>Zi (ZeE ρ) Zeu
noncomputable def ZfK:VE→Res:=ZcT
noncomputable def F_law_ladder:List Sl→Option Rv:=fnP 3 11 ZfK
noncomputable def ZdG:VE→Option D:=(Ze Zx (Ze Zbg (fun ρ=>rdP ρ 1) (fun _=>some (.int (6)))) (Ze ZcP (fun _=>some (.int (7))) (fun ρ=>rdP ρ 0)))
noncomputable def ZcA:VE→Option D:=(Zr F_law_row (fun ρ=>Zb (rdA ρ 1) (Zb (rdA ρ 0) (Zb (rdA ρ 2) (some [])))))
noncomputable def Zdn:VE→Res:=(fun ρ=>Zi (ZL 2 ((Zr F_law_cell_at (fun ρ=>Zb (rdA ρ 0) (Zb (Zk (some (.int (5)))) (some [])))) ρ) ρ) (fun ρ=>Zi (ZL 3 ((Ze Zx (sl3 (fun ρ=>rdP ρ 0) (fun ρ=>asI (some (.int (6)))) (fun ρ=>asI (some (.int (66)))) slD) (fun ρ=>ZN ((ZM 1 [2] (fun ρ=>((Zb (Zk ((Ze ZW (fun ρ=>rdP ρ 2) (fun _=>some (.int (6)))) ρ)) (some [])).bind Zw).bind ZcN) (Zm 0) (fun _=>some true) ZdG) ρ))) ρ) ρ) (fun ρ=>Zi (ZaZ ((ZM 2 [1] (ZbI (fun ρ=>rdQ ρ 3)) (Z8 2 (Zu (Zm 0) (Zu (Zm 1) Z9))) (fun _=>some true) ZcA) ρ)) (fun ρ=>.next ρ))))
noncomputable def F_law_rows:List Sl→Option Rv:=fnP 2 4 Zdn
noncomputable def ZeT:VE→Option D:=(Zr F_up (fun ρ=>Zb (rdA ρ 1) (Zb (Zk ((Ze ixD (fun ρ=>rdP ρ 2) (fun ρ=>rdP ρ 0)) ρ)) (Zb (Zk ((Ze ixD (fun ρ=>rdP ρ 3) (fun ρ=>rdP ρ 0)) ρ)) (some [])))))
noncomputable def Ze2:VE→Res:=(fun ρ=>Zi (ZQ ((ZH Zbp (fun ρ=>Zb (Zk (ZN ((ZM 2 [1,2] (ZbI (fun ρ=>rdQ ρ 0)) (Z8 2 (Zu (Zm 0) (Zu (Zm 1) Z9))) (fun _=>some true) ZeT) ρ))) (some []))) ρ)) (fun ρ=>.next ρ))
noncomputable def F_key_at:List Sl→Option Rv:=fnP 3 3 Ze2
noncomputable def ZbH:VE→Res:=(fun ρ=>Zi (ZL 4 ((Zr F_law_stream (fun ρ=>Zb (Zk ((Zr F_law_cell_at (fun ρ=>Zb (rdA ρ 0) (Zb (Zk ((Ze Zx (fun _=>some (.int (1))) (fun ρ=>rdP ρ 3)) ρ)) (some [])))) ρ)) (Zb (rdA ρ 3) (some [])))) ρ) ρ) (fun ρ=>Zi (Zbd 2 ((Zr F_law_ladder (fun ρ=>Zb (Zk ((Zr F_law_cell_at (fun ρ=>Zb (rdA ρ 0) (Zb (Zk ((Ze Zx (fun _=>some (.int (1))) (fun ρ=>rdP ρ 3)) ρ)) (some [])))) ρ)) (Zb (Zk ((Ze Zx (fun _=>some (.int (1))) (Ze ZW (Ze ixD (fun ρ=>rdP ρ 4) (fun _=>some (.int (20)))) (fun _=>some (.int (8))))) ρ)) (Zb (Zk ((Ze Zx (fun _=>some (.int (1))) (Ze ZW (Ze ixD (fun ρ=>rdP ρ 4) (fun _=>some (.int (21)))) (fun _=>some (.int (4))))) ρ)) (some []))))) ρ) ρ) (fun ρ=>.next ρ)))
noncomputable def ZdV:VE→Res:=(fun ρ=>ZL 1 ((Zr F_law_cell_at (fun ρ=>Zb (rdA ρ 0) (Zb (Zk (some (.int (0)))) (some [])))) ρ) ρ)
noncomputable def Zd0:VE→Res:=(fun ρ=>ZaM 2 (Zo ((some []).bind Zw)) ρ)
noncomputable def Zd4:VE→Res:=(Zaw (fun ρ=>((Zb (Zk ((Ze Zx (Ze Zx (fun _=>some (.int (1))) (Ze ZW (fun ρ=>rdP ρ 1) (fun _=>some (.int (3))))) (ZH Zlk (fun ρ=>Zb (Zk ((Ze eqO (Ze ZW (fun ρ=>rdP ρ 1) (fun _=>some (.int (12)))) (fun _=>some (.int (5)))) ρ)) (some [])))) ρ)) (some [])).bind Zw).bind ZcN) (Zm 3) ZbH)
noncomputable def ZdZ:VE→Res:=(fun ρ=>ZaZ (rdO ρ 2))
noncomputable def ZgL:VE→Res:=fun ρ=>.next ρ
noncomputable def ZdU:VE→Res:=fun ρ=>Zi (ZdZ ρ) ZgL
noncomputable def Zd7:VE→Res:=fun ρ=>Zi (Zd4 ρ) ZdU
noncomputable def Zd1:VE→Res:=fun ρ=>Zi (Zd0 ρ) Zd7
noncomputable def Zd6:VE→Res:=fun ρ=>Zi (ZdV ρ) Zd1
noncomputable def Zb9:VE→Res:=Zd6
noncomputable def F_law_ladders:List Sl→Option Rv:=fnP 1 5 Zb9
noncomputable def Zby:VE→Res:=(fun ρ=>Zi (ZL 6 ((Zr F_law_key_at (fun ρ=>Zb (rdA ρ 0) (Zb (rdA ρ 4) (Zb (rdA ρ 2) (some []))))) ρ) ρ) (fun ρ=>Zi (Zfb 3 (rdP ρ 6) ((Ze Zx (dgF 3 (fun ρ=>rdP ρ 6) (fun ρ=>ZN (Zo ((some []).bind Zw)))) (fun ρ=>ZN (Zo ((Zb (Zk (rdV ρ 5)) (some [])).bind Zw)))) ρ) ρ) (fun ρ=>.next ρ)))
noncomputable def Zc9:VE→Option D:=(fun ρ=>(Zo ((Zb (Zk (rdV ρ 0)) (Zb (Zk ((Zr F_law_cell_of (fun ρ=>Zb (Zk ((Ze Za4 (fun ρ=>rdP ρ 1) (fun ρ=>rdP ρ 0)) ρ)) (some []))) ρ)) (some []))).bind Zw)).map D.tup)
noncomputable def ZcU:VE→Res:=(fun ρ=>Zi (Zdl 3 (some []) ρ) (fun ρ=>Zi ((Zaw (fun ρ=>(rdQ ρ 1).bind ZJ) (Z8 2 (Zu (Zm 4) (Zu (Zm 5) Z9))) Zby) ρ) (fun ρ=>Zi (ZaZ ((ZM 1 [3] (fun ρ=>(ZN ((ZeN F_law_key_rank (fun ρ=>rdP ρ 3)) ρ)).bind ZJ) (Zm 0) (fun _=>some true) Zc9) ρ)) (fun ρ=>.next ρ))))
noncomputable def F_law_table:List Sl→Option Rv:=fnP 3 7 ZcU
noncomputable def ZaC:VE→Res:=(fun ρ=>Zi (Zaa (orB (ZbG (Zbe (rdP ρ 1))) (asB ((Ze neO (Ze ixD (fun ρ=>rdP ρ 1) (fun ρ=>Zg1 (some (.int (1))))) (fun ρ=>rdP ρ 2)) ρ))) (Zi (Zbd 1 (rdV ρ 2) ρ) (fun ρ=>.next ρ)) (.next ρ)) (fun ρ=>.next ρ))
noncomputable def Zdg:VE→Res:=(fun ρ=>Zi (ZaM 1 (Zo ((some []).bind Zw)) ρ) (fun ρ=>Zi ((Zaw (fun ρ=>(ZN ((ZfW F_key_rank (fun ρ=>rdP ρ 0)) ρ)).bind ZJ) (Zm 2) ZaC) ρ) (fun ρ=>Zi (ZaZ (rdO ρ 1)) (fun ρ=>.next ρ))))
noncomputable def F_in_order:List Sl→Option Rv:=fnP 1 3 Zdg
noncomputable def ZaR:VE→Option D:=(Ze Za4 (fun ρ=>rdP ρ 0) (fun ρ=>rdP ρ 1))
noncomputable def ZaV:VE→Res:=(fun ρ=>Zi (Zaa (Zbe ((Zr F_goes_along (fun ρ=>Zb (rdA ρ 0) (Zb (rdA ρ 3) (some [])))) ρ)) (Zi (ZL 5 ((ZH Zbp (fun ρ=>Zb (Zk (ZN ((ZM 2 [] (ZfI (fun ρ=>rdQ ρ 0) (fun ρ=>rdQ ρ 3)) (Z8 2 (Zu (Zm 0) (Zu (Zm 1) Z9))) (fun _=>some true) ZaR) ρ))) (some []))) ρ) ρ) (fun ρ=>Zi (Zfb 2 (rdP ρ 5) (Zg0 (asB ((Ze (Zb8 false) (fun ρ=>rdP ρ 5) (fun ρ=>rdP ρ 2)) ρ)) ((Zr F_merged (fun ρ=>Zb (Zk ((Ze Za4 (fun ρ=>rdP ρ 2) (fun ρ=>rdP ρ 5)) ρ)) (Zb (rdA ρ 4) (some [])))) ρ) (rdV ρ 4)) ρ) (fun ρ=>.next ρ))) (.next ρ)) (fun ρ=>.next ρ))
noncomputable def Zcm:VE→Option D:=(fun ρ=>(Zo ((Zb (Zk (rdV ρ 0)) (Zb (Zk ((Ze Za4 (fun ρ=>rdP ρ 1) (fun ρ=>rdP ρ 0)) ρ)) (some []))).bind Zw)).map D.tup)
noncomputable def Zb0:VE→Res:=(fun ρ=>Zi (Zdl 2 (some []) ρ) (fun ρ=>Zi ((Zaw (fun ρ=>(rdQ ρ 1).bind ZJ) (Z8 2 (Zu (Zm 3) (Zu (Zm 4) Z9))) ZaV) ρ) (fun ρ=>Zi (ZaZ ((ZM 1 [2] (fun ρ=>((Zr F_in_order (fun ρ=>Zb (Zk (ZN ((Zc7 Zjb (fun ρ=>Zb (rdA ρ 2) (some []))) ρ))) (some []))) ρ).bind ZJ) (Zm 0) (fun _=>some true) Zcm) ρ)) (fun ρ=>.next ρ))))
noncomputable def F_merged_along:List Sl→Option Rv:=fnP 2 6 Zb0
noncomputable def ZdK:VE→Option D:=(fun ρ=>(Zo ((Zb (Zk (rdV ρ 0)) (Zb (Zk ((Zr F_cell_of (fun ρ=>Zb (Zk (ZN (Zo ((Zb (Zk (rdV ρ 1)) (some [])).bind Zw)))) (some []))) ρ)) (some []))).bind Zw)).map D.tup)
noncomputable def Zdk:VE→Res:=(fun ρ=>Zi (ZL 3 (ZN ((ZM 2 [] (fun ρ=>(rdQ ρ 1).bind ZJ) (Z8 2 (Zu (Zm 0) (Zu (Zm 1) Z9))) (fun _=>some true) ZdK) ρ)) ρ) (fun ρ=>Zi (ZaZ ((ZdQ F_merged_along (fun ρ=>Zb (Zk ((Zr F_ways_up (fun ρ=>Zb (rdA ρ 0) (Zb (Zk ((Zr F_finest (fun ρ=>Zb (rdA ρ 0) (some []))) ρ)) (Zb (rdA ρ 2) (some []))))) ρ)) (Zb (rdA ρ 3) (some [])))) ρ)) (fun ρ=>.next ρ)))
noncomputable def F_table_of:List Sl→Option Rv:=fnP 3 4 Zdk
noncomputable def Zkg:VE→Option D:=(fun ρ=>ZN ((Zc7 ZjG (fun ρ=>Zb (rdA ρ 0) (some []))) ρ))
noncomputable def Zf6:VE→Res:=(fun ρ=>Zi (ZL 9 ((Zr F_key_at (fun ρ=>Zb (Zk ((Ze ixD (fun ρ=>rdP ρ 5) (fun _=>some (.int (0)))) ρ)) (Zb (rdA ρ 7) (Zb (rdA ρ 3) (some []))))) ρ) ρ) (fun ρ=>Zi (Zaa (orB (ZbG (Zbe ((ZH isD (fun ρ=>Zb (rdA ρ 9) (Zb (Zk (some (.ty "tuple"))) (some [])))) ρ))) (asB ((Ze neO (fun ρ=>rdP ρ 9) (Zr F_law_key_at (fun ρ=>Zb (rdA ρ 1) (Zb (rdA ρ 7) (Zb (rdA ρ 3) (some [])))))) ρ))) (Zi (ZQ (some (.bl false))) (fun ρ=>.next ρ)) (.next ρ)) (fun ρ=>.next ρ)))
noncomputable def Zkb:VE→Res:=(fun ρ=>ZL 1 ((Zr F_law_ladders (fun ρ=>Zb (rdA ρ 0) (some []))) ρ) ρ)
noncomputable def Zkw:VE→Res:=(fun ρ=>ZL 2 ((Zr F_law_rows (fun ρ=>Zb (rdA ρ 0) (Zb (rdA ρ 1) (some [])))) ρ) ρ)
noncomputable def ZkR:VE→Res:=(fun ρ=>ZL 3 ((Zr F_law_grain (fun ρ=>Zb (Zk ((Zr F_law_cell_at (fun ρ=>Zb (rdA ρ 0) (Zb (Zk (some (.int (4)))) (some [])))) ρ)) (Zb (rdA ρ 1) (some [])))) ρ) ρ)
noncomputable def Zj2:VE→Res:=(fun ρ=>ZL 4 ((Zr F_law_table (fun ρ=>Zb (rdA ρ 1) (Zb (rdA ρ 2) (Zb (rdA ρ 3) (some []))))) ρ) ρ)
noncomputable def Zko:VE→Res:=(fun ρ=>ZL 5 (ZN (Zo ((Zb (Zk (ZN ((ZM 1 [] (fun ρ=>(rdQ ρ 1).bind ZJ) (Zm 0) (fun _=>some true) Zkg) ρ))) (Zb (Zk (ZN ((Zc7 ZjG (fun ρ=>Zb (rdA ρ 2) (some []))) ρ))) (some []))).bind Zw))) ρ)
noncomputable def ZkI:VE→Res:=(fun ρ=>ZaM 6 ((ZdQ F_table_of (fun ρ=>Zb (Zk ((Ze ixD (fun ρ=>rdP ρ 5) (fun _=>some (.int (0)))) ρ)) (Zb (Zk ((Ze ixD (fun ρ=>rdP ρ 5) (fun _=>some (.int (1)))) ρ)) (Zb (rdA ρ 3) (some []))))) ρ) ρ)
noncomputable def ZkQ:VE→Res:=(fun ρ=>Zaa (orB (ZbG (Zbe ((Zr F_law_is_table (fun ρ=>Zb (rdA ρ 6) (some []))) ρ))) (orB (asB ((Ze neO (fun ρ=>rdP ρ 6) (fun ρ=>rdP ρ 4)) ρ)) (asB ((Ze neO (fun ρ=>rdP ρ 5) (fun ρ=>ZN (Zo ((Zb (Zk (rdV ρ 1)) (Zb (Zk (rdV ρ 2)) (some []))).bind Zw)))) ρ)))) (Zi (ZQ (some (.bl false))) (fun ρ=>.next ρ)) (.next ρ))
noncomputable def ZkB:VE→Res:=(fun ρ=>Zbd 6 ((sl3 (fun ρ=>rdP ρ 6) (fun _=>some none) (fun ρ=>asI (some (.int (1)))) slD) ρ) ρ)
noncomputable def ZkK:VE→Res:=(Zaw (fun ρ=>(rdQ ρ 2).bind ZJ) (Z8 2 (Zu (Zm 7) (Zu (Zm 8) Z9))) Zf6)
noncomputable def ZkO:VE→Res:=(fun ρ=>ZQ (blO (ZiB (asB ((Ze eqO (Zr F_table_of (fun ρ=>Zb (Zk ((Ze ixD (fun ρ=>rdP ρ 5) (fun _=>some (.int (0)))) ρ)) (Zb (Zk ((Ze ixD (fun ρ=>rdP ρ 5) (fun _=>some (.int (1)))) ρ)) (Zb (rdA ρ 3) (some []))))) (fun ρ=>rdP ρ 4)) ρ)) (asB ((Ze eqO (Zr F_table_of (fun ρ=>Zb (Zk ((Ze ixD (fun ρ=>rdP ρ 5) (fun _=>some (.int (0)))) ρ)) (Zb (Zk (ZN (Zo ((some []).bind Zw)))) (Zb (rdA ρ 3) (some []))))) (fun ρ=>ZN (Zo ((some []).bind Zw)))) ρ)))))
noncomputable def Zoc:VE→Res:=fun ρ=>.next ρ
noncomputable def ZkT:VE→Res:=fun ρ=>Zi (ZkO ρ) Zoc
noncomputable def Zkd:VE→Res:=fun ρ=>Zi (ZkK ρ) ZkT
noncomputable def Zku:VE→Res:=fun ρ=>Zi (ZkB ρ) Zkd
noncomputable def Zkj:VE→Res:=fun ρ=>Zi (ZkQ ρ) Zku
noncomputable def Zki:VE→Res:=fun ρ=>Zi (ZkI ρ) Zkj
noncomputable def ZkF:VE→Res:=fun ρ=>Zi (Zko ρ) Zki
noncomputable def ZkJ:VE→Res:=fun ρ=>Zi (Zj2 ρ) ZkF
noncomputable def ZkH:VE→Res:=fun ρ=>Zi (ZkR ρ) ZkJ
noncomputable def Zkm:VE→Res:=fun ρ=>Zi (Zkw ρ) ZkH
noncomputable def Zka:VE→Res:=fun ρ=>Zi (Zkb ρ) Zkm
noncomputable def Zia:VE→Res:=Zka
noncomputable def F_law:List Sl→Option Rv:=fnP 1 10 Zia
def lnD (l:List At):D:=.tup (l.map aD)
theorem Zl7:∀ (a b:At),eqD (aD a) (aD b)=decide (a=b):=by
 intro a b
 cases a<;>cases b<;>simp [aD]
theorem Zkx:∀ (a b:List At),Zad (a.map aD) (b.map aD)=decide (a=b)
 | [],[]=>by simp
 | [],_::_=>by simp
 | _::_,[]=>by simp
 | x::a,y::b=>by
  have ih:=Zkx a b
  rw [Bool.eq_iff_iff]
  simp [Zl7,ih]
theorem ZmX (n:Nat) (a:At):okD n (aD a)=true:=by cases a<;>cases n<;>rfl
theorem Zdt (n:Nat) (l:List At):okD (n+1) (lnD l)=true:=by
 show (l.map aD).all (okD n)=true
 rw [List.all_map,List.all_eq_true]
 exact fun a _=>ZmX n a
theorem ZrP (a b:List At):neO (lnD a) (lnD b)=some (.bl (!decide (a=b))):=by
 have h1:=Zdt 11 a
 have h2:=Zdt 11 b
 have h3:eqD (lnD a) (lnD b)=decide (a=b):=by simp only [lnD,eqD,Zkx]
 simp only [neO,ZeK,h1,h2,h3,Bool.and_self,if_true]
theorem Zdi (s:Sl) (ns:List Int) (hs:s=.val (.lst (ns.map D.int))∨s=.lent (ns.map D.int)) (k:Int) (h0:0≤k):F_law_cell_at [s,.val (.int k)]=some (.val (.int (ns.getD k.toNat 0))):=by
 by_cases h:k<ns.length
 ·have hk:k.toNat<ns.length:=by omega
  rcases hs with rfl | rfl<;>simp [F_law_cell_at,fnP,Zcd,h,atI,ixN,h0,hk]
 ·have hk:ns.length≤k.toNat:=by omega
  rcases hs with rfl | rfl<;>simp [F_law_cell_at,fnP,Zcd,h,hk]
def letters:Str:="abcdefghijklmnopqrstuvwxyz"
def figures:Str:="0123456789"
def signs:Str:="abcdefghijklmnopqrstuvwxyz0123456789"
theorem ZhQ:signs.length=36:=by decide +kernel
theorem Zix:signs.cps.toList=letters.cps.toList++figures.cps.toList:=by decide +kernel
def Zi5:D→Bool
 | .int _=>true
 | _=>false
def okc (c:Nat):Bool:=decide (c∈letters.cps.toList)||decide (c∈figures.cps.toList)
def ZlN:List Nat→Bool
 | []=>false
 | c::r=>decide (c∈letters.cps.toList)&&(c::r).all okc&&decide ((c::r).length≤12)
def wordD:D→Bool
 | .str z=>ZlN z.cps.toList
 | _=>false
theorem Zl8 (c:Nat):okc c=decide (c∈signs.cps.toList):=by
 unfold okc
 rw [Zix,Bool.eq_iff_iff]
 simp [List.mem_append]
def Sm:D→Prop
 | .str z=>z.length≤100
 | .ty _=>False
 | .lst _ true=>False
 | _=>True
def Zqg (d:D):Bool:=Zi5 d||wordD d
theorem Zov (x:Str) (l u:Option Int):Txt.slice x l u=StrLaws.sliceText x l u:=rfl
theorem ZsA (x:Str) (j:Nat) (h:j≤x.cps.toList.length):(Txt.slice x none (some (j:Int))).cps.toList=x.cps.toList.take j:=by
 rw [Zov,StrLaws.sliceText_to ⟨by omega,by omega⟩]
 simp
theorem Zpn (x:Str) (j:Nat) (h:j≤x.cps.toList.length):(Txt.slice x (some (j:Int)) none).cps.toList=x.cps.toList.drop j:=by
 rw [Zov,StrLaws.sliceText_from ⟨by omega,by omega⟩]
 simp only [List.toList_toArray]
 rw [List.take_of_length_le]
 ·simp
 ·simp only [List.length_drop];omega
theorem ZcF (x y:Str):(x++y).cps.toList=x.cps.toList++y.cps.toList:=by
 show (x.cps++y.cps).toList=_
 simp
theorem Zf2 (c:Nat):(⟨#[c]⟩:Str).cps.toList=[c]:=rfl
theorem Zbl (x:Str):x.length=x.cps.toList.length:=by simp [Str.length]
def zt (n k:Nat):List Nat:=(Txt.zfill (Str.ofString (toString (k:Int))) (n:Int)).cps.toList
theorem Zs6:∀ n∈[1,2,3,4],∀ k∈List.range 47,(zt n k).all okc=true∧(zt n k).length≤4:=by decide +kernel
theorem ZsV:∀ n∈[1,2,3,4],((List.range 47).map (zt n)).Nodup:=by decide +kernel
theorem Znb {α:Type} {f:Nat→α} {m:Nat} (h:((List.range m).map f).Nodup) {j k:Nat} (hj:j<m) (hk:k<m) (e:f j=f k):j=k:=by
 rw [List.nodup_iff_pairwise_ne,List.pairwise_map] at h
 rcases Nat.lt_trichotomy j k with hl | hl | hl
 ·exact absurd e (List.pairwise_iff_getElem.mp h j k (by simpa) (by simpa) hl |> fun z=>by simpa using z)
 ·exact hl
 ·exact absurd e.symm (List.pairwise_iff_getElem.mp h k j (by simpa) (by simpa) hl |> fun z=>by simpa using z)
def ltr (i:Nat):Nat:=letters.cps.toList.getD i 0
theorem ZqW:∀ i∈List.range 26,ltr i∈letters.cps.toList:=by decide +kernel
theorem Zrw:((List.range 26).map ltr).Nodup:=by decide +kernel
theorem Zgc:letters.cps.toList.length=26:=by decide +kernel
theorem ZrS (i:Nat) (h:i<26):ixD (.str "abcdefghijklmnopqrstuvwxyz") (.int (i:Int))=some (.str ⟨#[ltr i]⟩):=by
 have hl:=Zgc
 have hz:letters.length≤sizeLine:=by rw [Zbl,hl];decide
 have e:atI letters.cps.toList (i:Int)=some (ltr i):=Za1 (by rw [List.getElem?_eq_getElem (by omega)];simp [ltr,List.getD,List.getElem?_eq_getElem (show i<letters.cps.toList.length by omega)])
 show (if letters.length≤sizeLine then (atI letters.cps.toList (i:Int)).map (fun c=>D.str ⟨#[c]⟩) else none)=_
 rw [if_pos hz,e];rfl
def GW (W:List Nat):Prop:=(∃ c r,W=c::r∧c∈letters.cps.toList)∧W.all okc=true
theorem GW.word {W:List Nat} (h:GW W) (hl:W.length≤12):ZlN W=true:=by
 obtain ⟨⟨c,r,rfl,hc⟩,ha⟩:=h
 simp only [ZlN,hc,decide_true,Bool.true_and,ha,hl]
theorem sgn (i:Int) (k:Int) (h0:0<k) (h1:k≤36):∃ c,ixD (.str "abcdefghijklmnopqrstuvwxyz0123456789") (.int (i%k))=some (.str ⟨#[c]⟩)∧okc c=true:=by
 have hl:=ZhQ
 obtain ⟨c,h,hm⟩:=ZpH (z:=signs) (i:=i%k) (by omega) (Int.emod_nonneg _ (by omega)) (by have:=Int.emod_lt_of_pos i h0;omega)
 exact ⟨c,h,by rw [Zl8];simpa using hm⟩
theorem Zsz (i:Int):∃ c,ixD (.str "abcdefghijklmnopqrstuvwxyz0123456789") (.int (i%26))=some (.str ⟨#[c]⟩)∧c∈letters.cps.toList:=by
 obtain ⟨j,hj,hjl⟩:∃ j:Nat,i%26=(j:Int)∧j<26:=⟨(i%26).toNat,by omega,by omega⟩
 have hl:=Zgc
 have hz:signs.length≤sizeLine:=by rw [ZhQ];decide
 have e:atI signs.cps.toList (j:Int)=some (letters.cps.toList[j]'(by omega)):=Za1 (by rw [Zix,List.getElem?_append_left (by omega),List.getElem?_eq_getElem (by omega)])
 refine ⟨letters.cps.toList[j]'(by omega),?_,List.getElem_mem _⟩
 rw [hj]
 show (if signs.length≤sizeLine then (atI signs.cps.toList (j:Int)).map (fun c=>D.str ⟨#[c]⟩) else none)=_
 rw [if_pos hz,e];rfl
abbrev SG:Sl:=.val (.str "abcdefghijklmnopqrstuvwxyz0123456789")
theorem ZjC (c:Int) (s1:Sl):∀ (ks:List Nat) (z:Str) (s4:Sl),(∀ k∈ks,k<1000)→z.length+ks.length≤1000→∃ z' s4' ext,ZY (Zm 4) ZdD (ks.map fun (k:Nat)=>D.int (k:Int)) [.val (.int c),s1,SG,.val (.str z),s4]=.next [.val (.int c),s1,SG,.val (.str z'),s4']∧z'.cps.toList=z.cps.toList++ext∧ext.length=ks.length∧ext.all okc=true
 | [],z,s4,_,_=>⟨z,s4,[],rfl,by simp,rfl,rfl⟩
 | k::ks,z,s4,hk,h=>by
  simp only [List.length_cons] at h
  have hk1:=hk k List.mem_cons_self
  obtain ⟨x,hx,hxo⟩:=sgn (c / ((k:Int)+3)) 36 (by decide) (by decide)
  have h1:(⟨#[x]⟩:Str).length=1:=by simp [Str.length]
  have ha:=ZdF z ⟨#[x]⟩ (by rw [h1];omega)
  have hl:(z++⟨#[x]⟩).length=z.length+1:=by rw [Zbl,ZcF,Zbl];simp
  obtain ⟨z',s4',ext,e,e1,e2,e3⟩:=ZjC c s1 ks (z++⟨#[x]⟩) (.val (.int (k:Int))) (fun j hj=>hk j (List.mem_cons_of_mem _ hj)) (by rw [hl];omega)
  have hd:Zbj c ((k:Int)+3):=⟨by omega,by omega⟩
  refine ⟨z',s4',x::ext,?_,by rw [e1,ZcF];simp,by simp [e2],by simp [hxo,e3]⟩
  have a1:Zx (.int (k:Int)) (.int 3)=some (.int ((k:Int)+3)):=rfl
  simp [ZY,ZdD,-ixD,-Zx,a1,hd,hx,ha,e]
theorem Zkf (c:Int) (m:Nat) (hm:m≤100):∃ z,F_law_word [.val (.int c),.val (.int (m:Int))]=some (.val (.str z))∧z.cps.toList.length=m+1∧GW z.cps.toList:=by
 obtain ⟨x,hx,hxl⟩:=Zsz c
 have hr:=ZcH m (by omega)
 obtain ⟨z',s4',ext,e,e1,e2,e3⟩:=ZjC c (.val (.int (m:Int))) (List.range m) ⟨#[x]⟩ .no (fun k hk=>by have:=List.mem_range.mp hk;omega) (by simp [Str.length];omega)
 have hxo:okc x=true:=by simp [okc,hxl]
 refine ⟨z',?_,by rw [e1,Zf2];simp [e2],⟨x,ext,by rw [e1];rfl,hxl⟩,by rw [e1,Zf2];simp [hxo,e3]⟩
 simp [F_law_word,fnP,ZeZ,ZfB,ZfY,ZfH,Zfz,ZfZ,ZfU,ZfS,ZfQ,-ixD,hx,hr,e]
structure VOk (f:Nat→At):Prop where
 val:∀ k,k<47→Zqg (aD (f k))=true
 sm:∀ k,k<47→Sm (aD (f k))
 inj:∀ j k,j<47→k<47→f j=f k→j=k
theorem Zfe {z:Str} (h:GW z.cps.toList) (hl:z.cps.toList.length≤12):Zqg (aD (.str z))=true∧Sm (aD (.str z)):=by
 refine ⟨?_,?_⟩
 ·show (Zi5 (.str z)||wordD (.str z))=true
  simp only [Zi5,wordD,h.word hl,Bool.or_true]
 ·show z.length≤100
  rw [Zbl];omega
theorem GW.app {W V:List Nat} (h:GW W) (hv:V.all okc=true):GW (W++V):=by
 obtain ⟨⟨c,r,rfl,hc⟩,ha⟩:=h
 exact ⟨⟨c,r++V,rfl,hc⟩,by rw [List.all_append,ha,hv];rfl⟩
theorem GW.mid {W V:List Nat} (h:GW W) (a:Nat) (hv:V.all okc=true) (hh:∃ c r,V=c::r∧c∈letters.cps.toList):GW (W.take a++V++W.drop a):=by
 obtain ⟨⟨c,r,rfl,hc⟩,ha⟩:=h
 have hall:(List.take a (c::r)++V++List.drop a (c::r)).all okc=true:=by
  rw [List.all_eq_true] at ha hv ⊢
  intro x hx
  simp only [List.mem_append] at hx
  rcases hx with (hx | hx) | hx
  ·exact ha x (List.mem_of_mem_take hx)
  ·exact hv x hx
  ·exact ha x (List.mem_of_mem_drop hx)
 refine ⟨?_,hall⟩
 cases a with
 | zero =>
  obtain ⟨c',r',rfl,hc'⟩:=hh
  exact ⟨c',r'++c::r,by simp,hc'⟩
 | succ a=>exact ⟨c,List.take a r++V++List.drop a r,by simp,hc⟩
theorem Zqx {W:List Nat} {a x y x' y':Nat} (h:W.take a++[x,y]++W.drop a=W.take a++[x',y']++W.drop a):x=x'∧y=y':=by
 rw [List.append_assoc,List.append_assoc] at h
 have h:=List.append_cancel_left h
 simp only [List.cons_append,List.nil_append,List.cons.injEq] at h
 exact ⟨h.1,h.2.1⟩
theorem Zq3 (way cell:Int) (w0:way=0):∃ f,VOk f∧∀ k:Nat,k<47→F_law_value [.val (.int way),.val (.int cell),.val (.int (k:Int))]=some (.val (aD (f k))):=by
 have d4:Zbj cell 4:=by constructor<;>decide
 have d8:Zbj cell 8:=by constructor<;>decide
 refine ⟨fun k=>.int (cell / 4%10^30+k),⟨fun k _=>rfl,fun k _=>trivial,fun j k _ _ e=>by injection e with e;omega⟩,fun k hk=>?_⟩
 simp [F_law_value,fnP,ZbF,Zbz,ZbB,ZbA,Zbx,d4,Ze9,w0,aD]
theorem ZrC (way cell:Int) (w1:way=1):∃ f,VOk f∧∀ k:Nat,k<47→F_law_value [.val (.int way),.val (.int cell),.val (.int (k:Int))]=some (.val (aD (f k))):=by
 have d4:Zbj cell 4:=by constructor<;>decide
 have d8:Zbj cell 8:=by constructor<;>decide
 refine ⟨fun k=>.int (0-cell / 4%10^30-k),⟨fun k _=>rfl,fun k _=>trivial,fun j k _ _ e=>by injection e with e;omega⟩,fun k hk=>?_⟩
 simp [F_law_value,fnP,ZbF,Zbz,ZbB,ZbA,Zbx,Zcc,Zca,d4,Ze9,w1,aD]
theorem Zrp (way cell:Int) (w2:way=2):∃ f,VOk f∧∀ k:Nat,k<47→F_law_value [.val (.int way),.val (.int cell),.val (.int (k:Int))]=some (.val (aD (f k))):=by
 have d4:Zbj cell 4:=by constructor<;>decide
 have d8:Zbj cell 8:=by constructor<;>decide
 obtain ⟨m,hm,hm7⟩:∃ m:Nat,cell%8=(m:Int)∧m≤7:=⟨(cell%8).toNat,by omega,by omega⟩
 obtain ⟨w,hw,hwl,hwg⟩:=Zkf (cell / 4) m (by omega)
 obtain ⟨n,hn,hn4⟩:∃ n:Nat,1+cell / 8%4=(n:Int)∧n∈[1,2,3,4]:=by
  refine ⟨(1+cell / 8%4).toNat,by omega,?_⟩
  have:(1+cell / 8%4).toNat=1∨(1+cell / 8%4).toNat=2∨(1+cell / 8%4).toNat=3∨(1+cell / 8%4).toNat=4:=by omega
  simpa using this
 have hnn:n≤4:=by simp at hn4;omega
 have hzo:∀ k,k<47→(zt n k).all okc=true∧(zt n k).length≤4:=fun k hk=>Zs6 n hn4 k (List.mem_range.mpr hk)
 have hcp:∀ k:Nat,(w++Txt.zfill (Str.ofString (toString (k:Int))) (n:Int)).cps.toList=w.cps.toList++zt n k:=fun k=>ZcF _ _
 have hok:∀ k:Nat,k<47→GW (w++Txt.zfill (Str.ofString (toString (k:Int))) (n:Int)).cps.toList∧(w++Txt.zfill (Str.ofString (toString (k:Int))) (n:Int)).cps.toList.length≤12:=fun k hk=>by
  rw [hcp]
  exact ⟨hwg.app (hzo k hk).1,by rw [List.length_append,hwl];have:=(hzo k hk).2;omega⟩
 refine ⟨fun k=>.str (w++Txt.zfill (Str.ofString (toString (k:Int))) (n:Int)),⟨fun k hk=>(Zfe (hok k hk).1 (hok k hk).2).1,fun k hk=>(Zfe (hok k hk).1 (hok k hk).2).2,fun j k hj hk e=>?_⟩,fun k hk=>?_⟩
 ·injection e with e
  have:=congrArg (fun s:Str=>s.cps.toList) e
  simp only [hcp] at this
  exact Znb (ZsV n hn4) hj hk (List.append_cancel_left this)
 ·have hlg:((k:Int).natAbs).log2<1920:=Nat.lt_of_le_of_lt (Nat.log2_le_self _) (by omega)
  have hz:=ZmC (Str.ofString (toString (k:Int))) (n:Int) (by omega) (by omega)
  have ha:=ZdF w (Txt.zfill (Str.ofString (toString (k:Int))) (n:Int)) (by rw [Zbl,Zbl,hwl];have:=(hzo k hk).2;unfold zt at this;omega)
  have a1:Zx (.int 1) (.int (cell / 8%4))=some (.int (n:Int)):=by rw [← hn];rfl
  have hsI:Zg4 [.int (k:Int)]=some (.str (Str.ofString (toString (k:Int)))):=by simp only [Zg4];rw [if_pos hlg]
  dsimp only
  generalize Str.ofString (toString (k:Int))=T at *
  simp [F_law_value,fnP,ZbF,Zbz,ZbB,ZbA,Zbx,Zcc,Zca,Zc8,Zc6,Zdc,Zc5,d4,d8,Ze9,w2,hm,hw,-Zg4,hsI,-Zx,a1,hz,ha,aD]
theorem Zsp (j k c8:Nat) (hj:j<47) (hk:k<47) (r1:j / 26=k / 26) (r2:(j+c8)%26=(k+c8)%26):j=k:=by omega
theorem ZlF {j:Nat} (h:j<47):j / 26<26:=by omega
theorem ZpB:∃ lt:Nat→Nat,(∀ i,i<26→lt i∈letters.cps.toList)∧(∀ i j,i<26→j<26→lt i=lt j→i=j)∧∀ i:Nat,i<26→ixD (.str "abcdefghijklmnopqrstuvwxyz") (.int (i:Int))=some (.str ⟨#[lt i]⟩) :=
 ⟨ltr,fun i hi=>ZqW i (List.mem_range.mpr hi),fun i j hi hj e=>Znb (f:=ltr) Zrw hi hj e,ZrS⟩
theorem Zsw (w:Str) (a x y:Nat) (h:a≤w.cps.toList.length):(Txt.slice w none (some (a:Int))++(⟨#[x]⟩++⟨#[y]⟩)++Txt.slice w (some (a:Int)) none).cps.toList=w.cps.toList.take a++[x,y]++w.cps.toList.drop a:=by
 rw [ZcF,ZcF,ZcF,Zf2,Zf2,ZsA w a h,Zpn w a h]
 rfl
theorem Zs2 (w:Str) (a x y:Nat) (h:w.length≤100):Zx (.str ⟨#[x]⟩) (.str ⟨#[y]⟩)=some (.str (⟨#[x]⟩++⟨#[y]⟩))∧Zx (.str (Txt.slice w none (some (a:Int)))) (.str (⟨#[x]⟩++⟨#[y]⟩))=some (.str (Txt.slice w none (some (a:Int))++(⟨#[x]⟩++⟨#[y]⟩))) ∧
  Zx (.str (Txt.slice w none (some (a:Int))++(⟨#[x]⟩++⟨#[y]⟩))) (.str (Txt.slice w (some (a:Int)) none))=some (.str (Txt.slice w none (some (a:Int))++(⟨#[x]⟩++⟨#[y]⟩)++Txt.slice w (some (a:Int)) none)):=by
 have hl1:∀ c:Nat,(⟨#[c]⟩:Str).length=1:=fun c=>by simp [Str.length]
 have hla:∀ x y:Str,(x++y).length=x.length+y.length:=fun x y=>by rw [Zbl,Zbl,Zbl,ZcF,List.length_append]
 have hsl1:=Txt.slice_le w none (some (a:Int))
 have hsl2:=Txt.slice_le w (some (a:Int)) none
 refine ⟨ZdF _ _ (by rw [hl1,hl1];omega),ZdF _ _ (by rw [hla,hl1,hl1];omega),ZdF _ _ (by rw [hla,hla,hl1,hl1];omega)⟩
theorem ZpS (cell:Int) (m a:Nat) (w:Str) (hwl:w.cps.toList.length=m+1) (hm7:m≤7) (hwg:GW w.cps.toList) (hal:a≤m+1) (c8:Nat) (lt:Nat→Nat) (hin:∀ i,i<26→lt i∈letters.cps.toList) (hinj:∀ i j,i<26→j<26→lt i=lt j→i=j) (g:Nat→Str) (hg:∀ k,(g k).cps.toList=w.cps.toList.take a++[lt (k / 26),lt ((k+c8)%26)]++w.cps.toList.drop a):VOk fun k=>.str (g k):=by
 have hoc:∀ c,c∈letters.cps.toList→okc c=true:=fun c hc=>by simp only [okc,hc,decide_true,Bool.true_or]
 have hok:∀ k:Nat,k<47→GW (g k).cps.toList∧(g k).cps.toList.length≤12:=fun k hk=>by
  have h1:=hin _ (ZlF hk)
  have h2:=hin ((k+c8)%26) (Nat.mod_lt _ (by decide))
  rw [hg]
  refine ⟨hwg.mid a (by simp only [List.all_cons,List.all_nil,hoc _ h1,hoc _ h2,Bool.and_self]) ⟨_,_,rfl,h1⟩,?_⟩
  simp only [List.length_append,List.length_take,List.length_drop,List.length_cons,List.length_nil,hwl]
  omega
 refine ⟨fun k hk=>(Zfe (hok k hk).1 (hok k hk).2).1,fun k hk=>(Zfe (hok k hk).1 (hok k hk).2).2,fun j k hj hk e=>?_⟩
 have e':g j=g k:=At.str.inj e
 have h2:w.cps.toList.take a++[lt (j / 26),lt ((j+c8)%26)]++w.cps.toList.drop a=w.cps.toList.take a++[lt (k / 26),lt ((k+c8)%26)]++w.cps.toList.drop a:=by rw [← hg j,← hg k,e']
 obtain ⟨q1,q2⟩:=Zqx h2
 exact Zsp j k c8 hj hk (hinj _ _ (ZlF hj) (ZlF hk) q1) (hinj _ _ (Nat.mod_lt _ (by decide)) (Nat.mod_lt _ (by decide)) q2)
theorem ZpK (way cell:Int) (w0:¬ way=0) (w1:¬ way=1) (w2:¬ way=2) (m q1 q2 k:Nat) (a:Int) (w A B S1 S2 S3 C:Str) (hm:cell%8=(m:Int)) (hw:F_law_word [.val (.int (cell / 4)),.val (.int (m:Int))]=some (.val (.str w))) (hlw:Zba [.str w]=some (.int ((m:Int)+1))) (hwz:w.length≤sizeLine)
  (hat:cell / 8%((m:Int)+1+1)=a) (hA:Txt.slice w none (some a)=A) (hB:Txt.slice w (some a) none=B) (e1:(k:Int) / 26=(q1:Int)) (e2:((k:Int)+cell / 8)%26=(q2:Int))
  (x1:ixD (.str "abcdefghijklmnopqrstuvwxyz") (.int (q1:Int))=some (.str S1)) (x2:ixD (.str "abcdefghijklmnopqrstuvwxyz") (.int (q2:Int))=some (.str S2)) (ad1:Zx (.str S1) (.str S2)=some (.str S3)) (ad2:Zx (.str A) (.str S3)=some (.str C)) (D':Str) (ad3:Zx (.str C) (.str B)=some (.str D')) :
  F_law_value [.val (.int way),.val (.int cell),.val (.int (k:Int))]=some (.val (.str D')):=by
 have d4:Zbj cell 4:=by constructor<;>decide
 have d8:Zbj cell 8:=by constructor<;>decide
 have d26:Zbj (k:Int) 26:=by constructor<;>decide
 have hp:(0:Int)<(m:Int)+1+1:=by omega
 have a1:∀ a b:Int,Zx (.int a) (.int b)=some (.int (a+b)):=fun _ _=>rfl
 simp [F_law_value,fnP,ZbF,Zbz,ZbB,ZbA,Zbx,Zcc,Zca,Zc8,Zc6,Zdc,Zc5,Zfl,Zfh,Zfn,Zfm,Zfq,Zfj,Zfk,Zfi,d4,d8,d26,Ze9,w0,w1,w2,hm,hw,-Zx,a1,-Zba,hlw,hp,hat,e1,e2,-ixD,x1,x2,ad1,hwz,hA,hB,ad2,ad3]
theorem Ztx (x:Int) (m:Nat):∃ a:Nat,x%((m:Int)+1+1)=(a:Int)∧a≤m+1:=by
 have h1:=Int.emod_nonneg x (show (m:Int)+1+1≠0 by omega)
 have h2:=Int.emod_lt_of_pos x (show (0:Int)<(m:Int)+1+1 by omega)
 exact ⟨(x%((m:Int)+1+1)).toNat,by omega,by omega⟩
theorem ZsT (x:Int):∃ c8:Nat,∀ k:Nat,((k:Int)+x)%26=(((k+c8)%26:Nat):Int):=⟨(x%26).toNat,fun k=>by omega⟩
theorem Zs8 (k:Nat):(k:Int) / 26=((k / 26:Nat):Int):=by omega
theorem Zqw (way cell:Int) (w0:¬ way=0) (w1:¬ way=1) (w2:¬ way=2):∃ f,VOk f∧∀ k:Nat,k<47→F_law_value [.val (.int way),.val (.int cell),.val (.int (k:Int))]=some (.val (aD (f k))):=by
 obtain ⟨m,hm,hm7⟩:∃ m:Nat,cell%8=(m:Int)∧m≤7:=⟨(cell%8).toNat,by omega,by omega⟩
 obtain ⟨w,hw,hwl,hwg⟩:=Zkf (cell / 4) m (by omega)
 obtain ⟨a,hat,hal⟩:=Ztx (cell / 8) m
 obtain ⟨c8,hi2⟩:=ZsT (cell / 8)
 have hi1:=Zs8
 obtain ⟨lt,hin,hinj,hix⟩:=ZpB
 have hwlen:w.length=m+1:=by rw [Zbl,hwl]
 have hwz:w.length≤sizeLine:=by rw [hwlen];exact Nat.le_trans (Nat.succ_le_succ hm7) (by decide)
 have hlw:Zba [.str w]=some (.int ((m:Int)+1)):=by simp only [Zba];rw [if_pos hwz,hwlen];rfl
 have hal':a≤w.cps.toList.length:=by rw [hwl];exact hal
 have hw100:w.length≤100:=by rw [hwlen];exact Nat.le_trans (Nat.succ_le_succ hm7) (by decide)
 refine ⟨_,ZpS cell m a w hwl hm7 hwg hal c8 lt hin hinj (fun k=>Txt.slice w none (some (a:Int))++(⟨#[lt (k / 26)]⟩++⟨#[lt ((k+c8)%26)]⟩)++Txt.slice w (some (a:Int)) none) (fun k=>Zsw w a (lt (k / 26)) (lt ((k+c8)%26)) hal'),fun k hk=>?_⟩
 obtain ⟨ad1,ad2,ad3⟩:=Zs2 w a (lt (k / 26)) (lt ((k+c8)%26)) hw100
 have h3:=ZpK way cell w0 w1 w2 m (k / 26) ((k+c8)%26) k (a:Int) w (Txt.slice w none (some (a:Int))) (Txt.slice w (some (a:Int)) none) ⟨#[lt (k / 26)]⟩ ⟨#[lt ((k+c8)%26)]⟩ (⟨#[lt (k / 26)]⟩++⟨#[lt ((k+c8)%26)]⟩) (Txt.slice w none (some (a:Int))++(⟨#[lt (k / 26)]⟩++⟨#[lt ((k+c8)%26)]⟩)) hm hw hlw hwz hat rfl rfl (hi1 k) (hi2 k) (hix _ (ZlF hk)) (hix _ (Nat.mod_lt _ (by decide))) ad1 ad2 (Txt.slice w none (some (a:Int))++(⟨#[lt (k / 26)]⟩++⟨#[lt ((k+c8)%26)]⟩)++Txt.slice w (some (a:Int)) none) ad3
 dsimp only [aD]
 exact h3
theorem ZnI (way cell:Int):∃ f,VOk f∧∀ k:Nat,k<47→F_law_value [.val (.int way),.val (.int cell),.val (.int (k:Int))]=some (.val (aD (f k))):=by
 by_cases w0:way=0
 ·exact Zq3 way cell w0
 ·by_cases w1:way=1
  ·exact ZrC way cell w1
  ·by_cases w2:way=2
   ·exact Zrp way cell w2
   ·exact Zqw way cell w0 w1 w2
def ZdP (x:Int) (k:Nat):Nat→List Int
 | 0=>[]
 | n+1=>((x * 48271+2 * (k:Int)+11)%2147483647 / 64)::ZdP ((x * 48271+2 * (k:Int)+11)%2147483647) (k+1) n
theorem ZiH:∀ (n k:Nat) (x:Int),(ZdP x k n).length=n
 | 0,_,_=>rfl
 | n+1,k,x=>by simp [ZdP,ZiH n]
theorem ZiU:∀ (n k:Nat) (x:Int),∀ y∈ZdP x k n,0≤y∧y<33554432
 | 0,_,_,y,h=>by cases h
 | n+1,k,x,y,h=>by
  simp only [ZdP,List.mem_cons] at h
  rcases h with rfl | h
  ·omega
  ·exact ZiU n _ _ y h
theorem Zih (s0 s1:Sl):∀ (n k:Nat) (x:Int) (acc:List Int) (s4:Sl),acc.length+n<100000→∃ x' s4',ZY (Zm 4) ZbW ((List.range' k n).map fun (k:Nat)=>D.int (k:Int)) [s0,s1,.val (.int x),.own (acc.map D.int),s4]=.next [s0,s1,.val (.int x'),.own ((acc++ZdP x k n).map D.int),s4']
 | 0,k,x,acc,s4,_=>⟨x,s4,by simp [ZY,ZdP]⟩
 | n+1,k,x,acc,s4,h=>by
  obtain ⟨x',s4',e⟩:=Zih s0 s1 n (k+1) ((x * 48271+2 * (k:Int)+11)%2147483647) (acc++[(x * 48271+2 * (k:Int)+11)%2147483647 / 64]) (.val (.int (k:Int))) (by simp;omega)
  have hz:acc.length<sizeLine:=Nat.lt_of_lt_of_le (show acc.length<100000 by omega) (by decide)
  have hm:CMul x 48271:=by right;decide
  have hm2:CMul 2 (k:Int):=by left;decide
  have hd:∀ y:Int,Zbj y 64:=fun y=>by constructor<;>decide
  refine ⟨x',s4',?_⟩
  rw [List.range'_succ,List.map_cons]
  simp only [ZY,Zm,List.set_cons_succ,List.set_cons_zero]
  rw [show ZbW [s0,s1,.val (.int x),.own (acc.map D.int),.val (.int (k:Int))]=.next [s0,s1,.val (.int ((x * 48271+2 * (k:Int)+11)%2147483647)),.own ((acc++[(x * 48271+2 * (k:Int)+11)%2147483647 / 64]).map D.int),.val (.int (k:Int))] by
   simp [ZbW,hz,hm,hm2,hd]]
  simp only [ZdP]
  rw [show acc++((x * 48271+2 * (k:Int)+11)%2147483647 / 64)::ZdP ((x * 48271+2 * (k:Int)+11)%2147483647) (k+1) n=acc++[(x * 48271+2 * (k:Int)+11)%2147483647 / 64]++ZdP ((x * 48271+2 * (k:Int)+11)%2147483647) (k+1) n by simp]
  exact e
theorem Zfy (c p:Int):∃ ws:List Int,F_law_stream [.val (.int c),.val (.int p)]=some (.val (.lst (ws.map D.int)))∧ws.length=24∧∀ y∈ws,0≤y∧y<33554432:=by
 have hr:ZcN [.int 25]=some ((List.range' 0 25).map fun (k:Nat)=>D.int (k:Int)):=by
  have:=ZcH 25 (by omega)
  rw [List.range_eq_range'] at this
  exact this
 obtain ⟨x',s4',e⟩:=Zih (.val (.int c)) (.val (.int p)) 25 0 ((c+7919 * p)%2147483629) [] .no (by simp)
 have hl:=ZiH 25 0 ((c+7919 * p)%2147483629)
 have hps:=ZiU 25 0 ((c+7919 * p)%2147483629)
 simp only [List.nil_append,List.map_nil] at e
 generalize ZdP ((c+7919 * p)%2147483629) 0 25=W at *
 have hc:ZbJ (W.map D.int) (some 1) none=(W.drop 1).map D.int:=by rw [ZiQ,ZnK _ _ (by omega)];rfl
 have m1:CMul 7919 p:=by left;decide
 generalize hR:((List.range' 0 25).map fun (k:Nat)=>D.int (k:Int))=R at *
 refine ⟨W.drop 1,?_,by simp [hl],fun y hy=>hps y (List.mem_of_mem_drop hy)⟩
 simp [F_law_stream,fnP,ZdL,Zey,Zet,ZeG,Zez,ZeI,ZeC,Zev,ZeF,hr,m1,e,hc]
theorem Zd3 {xs:List Int} {i:Int} (h0:0≤i) (h1:i<xs.length):atI (xs.map D.int) i=some (.int (xs.getD i.toNat 0)):=by
 rw [show i=((i.toNat:Nat):Int) by omega]
 have h:i.toNat<xs.length:=by omega
 exact Za1 (by rw [List.getElem?_map,Int.toNat_natCast,List.getElem?_eq_getElem h];simp [List.getD,h])
structure Way where
 sv:List Int
 wd:Nat→Int
 fs:Nat→Nat→At
def Way.stp (w:Way) (j x:Nat):Nat:=(((x:Int) * (1+w.sv.getD (4+j) 0%5)+w.sv.getD (8+j) 0)%w.wd j).toNat
def Way.chn (w:Way):Nat→Nat→Nat→List At
 | _,_,0=>[]
 | j,x,n+1=>w.fs j x::w.chn (j+1) (w.stp (j+1) x) n
def Way.a0 (w:Way) (k:Nat):Nat:=(((k:Int) * (1+w.sv.getD 0 0%46)+w.sv.getD 4 0)%47).toNat
structure Way.Ok (w:Way) (cell:Int):Prop where
 len:w.sv.length=24
 pos:∀ y∈w.sv,0≤y∧y<33554432
 w1:∀ j,1≤w.wd j
 w2:∀ j,w.wd j≤47
 vs:∀ j,VOk (w.fs j)
 val:∀ j k:Nat,k<47→F_law_value [.val (.int (w.sv.getD (12+j) 0%4)),.val (.int (cell+(j:Int) * (w.sv.getD 16 0%2) * 1000003)),.val (.int (k:Int))]=some (.val (aD (w.fs j k)))
theorem Way.stp_lt {w:Way} {cell:Int} (h:w.Ok cell) (j x:Nat):w.stp j x<47:=by
 have h1:=h.w1 j
 have h2:=h.w2 j
 unfold Way.stp
 generalize (x:Int) * (1+w.sv.getD (4+j) 0%5)+w.sv.getD (8+j) 0=y
 have h3:=Int.emod_nonneg y (show w.wd j≠0 by omega)
 have h4:=Int.emod_lt_of_pos y (show 0<w.wd j by omega)
 omega
theorem Way.stp_int {w:Way} {cell:Int} (h:w.Ok cell) (j x:Nat):((x:Int) * (1+w.sv.getD (4+j) 0%5)+w.sv.getD (8+j) 0)%w.wd j=(w.stp j x:Int):=by
 have h1:=h.w1 j
 unfold Way.stp
 generalize (x:Int) * (1+w.sv.getD (4+j) 0%5)+w.sv.getD (8+j) 0=y
 have h3:=Int.emod_nonneg y (show w.wd j≠0 by omega)
 omega
theorem Way.a0_lt (w:Way) (k:Nat):w.a0 k<47:=by
 unfold Way.a0
 generalize (k:Int) * (1+w.sv.getD 0 0%46)+w.sv.getD 4 0=y
 omega
theorem Way.a0_int (w:Way) (k:Nat):((k:Int) * (1+w.sv.getD 0 0%46)+w.sv.getD 4 0)%47=(w.a0 k:Int):=by
 unfold Way.a0
 generalize (k:Int) * (1+w.sv.getD 0 0%46)+w.sv.getD 4 0=y
 omega
theorem cm5 (x y:Int):CMul x (1+y%5):=.inr ⟨by omega,by omega⟩
theorem ZtA (x y:Int):CMul x (1+y%46):=.inr ⟨by omega,by omega⟩
theorem cm2 (x y:Int):CMul x (y%2):=.inr ⟨by omega,by omega⟩
theorem Zcv {x y:Int} (h:CMul x y):ZcP (.int x) (.int y)=some (.int (x * y)):=by show (if CMul x y then some (D.int (x * y)) else none)=_;rw [if_pos h]
abbrev WD (w:Way):Sl:=.own ([.int (w.wd 0),.int (w.wd 1),.int (w.wd 2),.int (w.wd 3)]:List D)
theorem Zta (w:Way) (j:Nat) (h:j<4):atI ([.int (w.wd 0),.int (w.wd 1),.int (w.wd 2),.int (w.wd 3)]:List D) (j:Int)=some (.int (w.wd j)):=by
 have:j=0∨j=1∨j=2∨j=3:=by omega
 rcases this with rfl | rfl | rfl | rfl<;>exact Za1 rfl
theorem ZiP (w:Way) (cell:Int) (h:w.Ok cell) (s1 s2 s6 s7 s10:Sl) (j x:Nat) (hj:j<4) (hx:x<47) (acc:List At) (ha:acc.length<100) :
  ZaP [.val (.int cell),s1,s2,.val (.lst (w.sv.map D.int)),WD w,.val (.int (j:Int)),s6,s7,.val (.int (x:Int)),.own (acc.map aD),s10] =
   .next [.val (.int cell),s1,s2,.val (.lst (w.sv.map D.int)),WD w,.val (.int (j:Int)),s6,s7,.val (.int ((if 0<j then w.stp j x else x:Nat):Int)),.own ((acc++[w.fs j (if 0<j then w.stp j x else x)]).map aD),.val (.int (cell+(j:Int) * (w.sv.getD 16 0%2) * 1000003))]:=by
 have hl:=h.len
 have i16:atI (w.sv.map D.int) 16=some (.int (w.sv.getD 16 0)):=Zd3 (by omega) (by omega)
 have i12:atI (w.sv.map D.int) (12+(j:Int))=some (.int (w.sv.getD (12+j) 0)):=by
  have:=Zd3 (xs:=w.sv) (i:=12+(j:Int)) (by omega) (by omega)
  rw [show (12+(j:Int)).toNat=12+j by omega] at this
  exact this
 have i4:atI (w.sv.map D.int) (4+(j:Int))=some (.int (w.sv.getD (4+j) 0)):=by
  have:=Zd3 (xs:=w.sv) (i:=4+(j:Int)) (by omega) (by omega)
  rw [show (4+(j:Int)).toNat=4+j by omega] at this
  exact this
 have i8:atI (w.sv.map D.int) (8+(j:Int))=some (.int (w.sv.getD (8+j) 0)):=by
  have:=Zd3 (xs:=w.sv) (i:=8+(j:Int)) (by omega) (by omega)
  rw [show (8+(j:Int)).toNat=8+j by omega] at this
  exact this
 have iw:=Zta w j hj
 have hw1:=h.w1 j
 have hwp:0<w.wd j:=by omega
 have hz:acc.length<sizeLine:=Nat.lt_of_lt_of_le (show acc.length<100000 by omega) (by decide)
 have hst:=Way.stp_int h j x
 have hv1:=h.val j (w.stp j x) (Way.stp_lt h j x)
 have hv2:=h.val j x hx
 have c1:=cm5 (x:Int) (w.sv.getD (4+j) 0)
 have c2:=cm2 (j:Int) (w.sv.getD 16 0)
 have c3:CMul ((j:Int) * (w.sv.getD 16 0%2)) 1000003:=.inr (by decide)
 generalize w.sv.getD 16 0=g16 at *
 generalize w.sv.getD (12+j) 0=g12 at *
 generalize w.sv.getD (4+j) 0=G4 at *
 generalize hg4:1+G4%5=g4 at *
 generalize w.sv.getD (8+j) 0=g8 at *
 generalize w.stp j x=sx at *
 generalize w.wd j=wj at *
 dsimp only [WD]
 generalize [D.int (w.wd 0),D.int (w.wd 1),D.int (w.wd 2),D.int (w.wd 3)]=WL at *
 have a1:∀ a b:Int,Zx (.int a) (.int b)=some (.int (a+b)):=fun _ _=>rfl
 by_cases hj0:0<j
 ·have hJ0:(0:Int)<(j:Int):=by omega
  rw [if_pos hj0]
  generalize w.fs j sx=va at *
  generalize (sx:Int)=SX at *
  generalize (j:Int)=J at *
  generalize (x:Int)=XX at *
  have u2:=Zcv c2
  have u3:=Zcv c3
  have n2:∀ y:Int,ZW (.int y) (.int 2)=some (.int (y%2)):=fun y=>rfl
  have n4:∀ y:Int,ZW (.int y) (.int 4)=some (.int (y%4)):=fun y=>rfl
  have x12:ixD (.lst (w.sv.map D.int)) (.int (12+J))=some (.int g12):=i12
  have x16:ixD (.lst (w.sv.map D.int)) (.int 16)=some (.int g16):=i16
  have u1:=Zcv c1
  have n5:∀ y:Int,ZW (.int y) (.int 5)=some (.int (y%5)):=fun y=>rfl
  have nw:∀ y:Int,ZW (.int y) (.int wj)=some (.int (y%wj)):=fun y=>by show (if 0<wj then some (D.int (y%wj)) else none)=_;rw [if_pos hwp]
  have x4:ixD (.lst (w.sv.map D.int)) (.int (4+J))=some (.int G4):=i4
  have x8:ixD (.lst (w.sv.map D.int)) (.int (8+J))=some (.int g8):=i8
  have xw:ixD (.lst WL) (.int J)=some (.int wj):=iw
  have gt:gtD (.int J) (.int 0)=some (.bl true):=by show some (D.bl (decide (0<J)))=_;rw [decide_eq_true hJ0]
  simp only [ZaP,Zi,Zaa,asB,Ze,rdP,rdV,rdA,rdO,List.getElem?_cons_succ,List.getElem?_cons_zero,Option.bind,Option.map,ZL,Zbd,List.set_cons_succ,List.set_cons_zero,Zb,Zk,Zr,a1,gt,x4,n5,hg4,u1,x8,xw,nw,hst,x16,n2,u2,u3,x12,n4,hv1,rvD,List.length_map,hz,if_true,List.map_append,List.map_cons,List.map_nil]
 ·have hJ0:¬ (0:Int)<(j:Int):=by omega
  rw [if_neg hj0]
  generalize w.fs j x=va at *
  generalize (j:Int)=J at *
  generalize (x:Int)=XX at *
  have u2:=Zcv c2
  have u3:=Zcv c3
  have n2:∀ y:Int,ZW (.int y) (.int 2)=some (.int (y%2)):=fun y=>rfl
  have n4:∀ y:Int,ZW (.int y) (.int 4)=some (.int (y%4)):=fun y=>rfl
  have x12:ixD (.lst (w.sv.map D.int)) (.int (12+J))=some (.int g12):=i12
  have x16:ixD (.lst (w.sv.map D.int)) (.int 16)=some (.int g16):=i16
  have gt:gtD (.int J) (.int 0)=some (.bl false):=by show some (D.bl (decide (0<J)))=_;rw [decide_eq_false hJ0]
  simp only [ZaP,Zi,Zaa,asB,Ze,rdP,rdV,rdA,rdO,List.getElem?_cons_succ,List.getElem?_cons_zero,Option.bind,Option.map,ZL,Zbd,List.set_cons_succ,List.set_cons_zero,Zb,Zk,Zr,a1,gt,  x16,n2,u2,u3,x12,n4,hv2,rvD,List.length_map,hz,if_true,List.map_append,List.map_cons,List.map_nil]
theorem Zi8 (w:Way) (cell:Int) (h:w.Ok cell) (s1 s2 s6 s7:Sl):∀ (n j x:Nat) (acc:List At) (s5 s10:Sl),0<j→j+n≤4→x<47→acc.length+n<100 →
  ∃ s5' s8' s10',ZY (Zm 5) ZaP ((List.range' j n).map fun (k:Nat)=>D.int (k:Int)) [.val (.int cell),s1,s2,.val (.lst (w.sv.map D.int)),WD w,s5,s6,s7,.val (.int (x:Int)),.own (acc.map aD),s10] =
   .next [.val (.int cell),s1,s2,.val (.lst (w.sv.map D.int)),WD w,s5',s6,s7,s8',.own ((acc++w.chn j (w.stp j x) n).map aD),s10']
 | 0,j,x,acc,s5,s10,_,_,_,_=>⟨s5,_,s10,by simp [ZY,Way.chn];rfl⟩
 | n+1,j,x,acc,s5,s10,h0,h4,hx,ha=>by
  have hp:=ZiP w cell h s1 s2 s6 s7 s10 j x (by omega) hx acc (by omega)
  rw [if_pos h0] at hp
  obtain ⟨a,b,c,e⟩:=Zi8 w cell h s1 s2 s6 s7 n (j+1) (w.stp j x) (acc++[w.fs j (w.stp j x)]) (.val (.int (j:Int))) (.val (.int (cell+(j:Int) * (w.sv.getD 16 0%2) * 1000003))) (by omega) (by omega) (Way.stp_lt h j x) (by simp;omega)
  refine ⟨a,b,c,?_⟩
  rw [List.range'_succ,List.map_cons]
  simp only [ZY,Zm,List.set_cons_succ,List.set_cons_zero]
  rw [hp]
  simp only [Way.chn]
  rw [show acc++w.fs j (w.stp j x)::w.chn (j+1) (w.stp (j+1) (w.stp j x)) n=acc++[w.fs j (w.stp j x)]++w.chn (j+1) (w.stp (j+1) (w.stp j x)) n by simp]
  exact e
theorem Zop (w:Way) (cell:Int) (h:w.Ok cell) (s1:Sl) (p:Nat) (hp0:0<p) (hp4:p≤4) (ls:List (List At)) (hls:ls.length<1000) (k:Nat) (s5 s8 s9 s10:Sl) :
  ∃ s5' s8' s9' s10',ZbS [.val (.int cell),s1,.val (.int (p:Int)),.val (.lst (w.sv.map D.int)),WD w,s5,.own (ls.map lnD),.val (.int (k:Int)),s8,s9,s10] =
   .next [.val (.int cell),s1,.val (.int (p:Int)),.val (.lst (w.sv.map D.int)),WD w,s5',.own ((ls++[w.chn 0 (w.a0 k) p]).map lnD),.val (.int (k:Int)),s8',s9',s10']:=by
 have hl:=h.len
 have i0:atI (w.sv.map D.int) 0=some (.int (w.sv.getD 0 0)):=Zd3 (by omega) (by omega)
 have i4:atI (w.sv.map D.int) 4=some (.int (w.sv.getD 4 0)):=Zd3 (by omega) (by omega)
 have hr:=ZcH p (by omega)
 have ha:=w.a0_int k
 have hpl:=ZiP w cell h s1 (.val (.int (p:Int))) (.own (ls.map lnD)) (.val (.int (k:Int))) s10 0 (w.a0 k) (by omega) (w.a0_lt k) [] (by simp)
 rw [if_neg (by omega)] at hpl
 obtain ⟨a,b,c,e⟩:=Zi8 w cell h s1 (.val (.int (p:Int))) (.own (ls.map lnD)) (.val (.int (k:Int))) (p-1) 1 (w.a0 k) [w.fs 0 (w.a0 k)] (.val (.int 0)) (.val (.int (cell+((0:Nat):Int) * (w.sv.getD 16 0%2) * 1000003))) (by omega) (by omega) (w.a0_lt k) (by simp;omega)
 have hch:w.chn 0 (w.a0 k) p=[w.fs 0 (w.a0 k)]++w.chn 1 (w.stp 1 (w.a0 k)) (p-1):=by
  rw [show p=(p-1)+1 by omega]
  simp [Way.chn]
 have hz:ls.length<sizeLine:=Nat.lt_of_lt_of_le (show ls.length<100000 by omega) (by decide)
 have c1:=ZtA (k:Int) (w.sv.getD 0 0)
 have hfor:ZY (Zm 5) ZaP ((List.range p).map fun (k:Nat)=>D.int (k:Int)) [.val (.int cell),s1,.val (.int (p:Int)),.val (.lst (w.sv.map D.int)),WD w,s5,.own (ls.map lnD),.val (.int (k:Int)),.val (.int (w.a0 k:Int)),.own [],s10] =
   .next [.val (.int cell),s1,.val (.int (p:Int)),.val (.lst (w.sv.map D.int)),WD w,a,.own (ls.map lnD),.val (.int (k:Int)),b,.own ((w.chn 0 (w.a0 k) p).map aD),c]:=by
  rw [List.range_eq_range',show p=(p-1)+1 by omega,List.range'_succ,List.map_cons]
  simp only [ZY,Zm,List.set_cons_succ,List.set_cons_zero]
  simp only [List.map_nil,List.nil_append] at hpl
  rw [show (p-1)+1=p by omega]
  rw [hpl,hch]
  exact e
 refine ⟨a,b,.own ((w.chn 0 (w.a0 k) p).map aD),c,?_⟩
 generalize w.chn 0 (w.a0 k) p=ch at *
 generalize (w.a0 k:Int)=A0 at *
 generalize w.sv.getD 0 0=G0 at *
 generalize hg:1+G0%46=g0 at *
 generalize w.sv.getD 4 0=g4 at *
 generalize hR:((List.range p).map fun (k:Nat)=>D.int (k:Int))=R at *
 generalize (k:Int)=KK at *
 have a1:∀ a b:Int,Zx (.int a) (.int b)=some (.int (a+b)):=fun _ _=>rfl
 have u1:=Zcv c1
 have n46:∀ y:Int,ZW (.int y) (.int 46)=some (.int (y%46)):=fun y=>rfl
 have n47:∀ y:Int,ZW (.int y) (.int 47)=some (.int (y%47)):=fun y=>rfl
 have x0:ixD (.lst (w.sv.map D.int)) (.int 0)=some (.int G0):=i0
 have x4:ixD (.lst (w.sv.map D.int)) (.int 4)=some (.int g4):=i4
 have hsh:Zo (some ([]:List D))=some []:=rfl
 have hv:Zw [Sl.val (.int (p:Int))]=some [.int (p:Int)]:=rfl
 have hv0:Zw []=some []:=rfl
 have ht:Zbp [.lst (ch.map aD)]=some (.tup (ch.map aD)):=rfl
 simp only [ZbS,Zi,Ze,rdP,rdV,rdA,rdO,List.getElem?_cons_succ,List.getElem?_cons_zero,Option.bind,Option.map,ZL,ZaM,Zbd,Zaw,List.set_cons_succ,List.set_cons_zero,Zb,Zk,a1,x0,n46,hg,u1,x4,n47,ha,hv,hv0,hsh,hr,hfor,ZH,pks,pk,ht,List.length_map,hz,if_true,List.map_append,List.map_cons,List.map_nil,lnD]
def Zaq (y:Int):Int:=if y / 64%4=0 then 1+y%6 else if y / 64%4=1 then 2+y%3 else if y / 64%4=2 then 47 else 3
theorem Zke (y:Int):1≤Zaq y∧Zaq y≤47:=by
 unfold Zaq
 split
 ·omega
 ·split
  ·omega
  ·split<;>omega
theorem ZpR (y:Int):atI [D.int (1+y%6),.int (2+y%3),.int 47,.int 3] (y / 64%4)=some (.int (Zaq y)):=by
 have h:y / 64%4=0∨y / 64%4=1∨y / 64%4=2∨y / 64%4=3:=by omega
 unfold Zaq
 generalize y / 64%4=q at *
 rcases h with rfl | rfl | rfl | rfl<;>exact Za1 rfl
theorem Zfd (s0 s1 s2:Sl) (sv:List Int) (hl:sv.length=24) (j:Nat) (hj:j<20) (ws:List D) (hw:ws.length<100) (s6 s7 s8 s9 s10:Sl) :
  Zar [s0,s1,s2,.val (.lst (sv.map D.int)),.own ws,.val (.int (j:Int)),s6,s7,s8,s9,s10]=.next [s0,s1,s2,.val (.lst (sv.map D.int)),.own (ws++[.int (Zaq (sv.getD j 0))]),.val (.int (j:Int)),s6,s7,s8,s9,s10]:=by
 have x1:ixD (.lst (sv.map D.int)) (.int (j:Int))=some (.int (sv.getD j 0)):=by
  have:=Zd3 (xs:=sv) (i:=(j:Int)) (by omega) (by omega)
  rw [Int.toNat_natCast] at this
  exact this
 have hs:=ZpR (sv.getD j 0)
 generalize sv.getD j 0=y at *
 generalize Zaq y=wy at *
 generalize (j:Int)=J at *
 have x2:ixD (.lst [D.int (1+y%6),.int (2+y%3),.int 47,.int 3]) (.int (y / 64%4))=some (.int wy):=hs
 have n6:ZW (.int y) (.int 6)=some (.int (y%6)):=rfl
 have n3:ZW (.int y) (.int 3)=some (.int (y%3)):=rfl
 have n4:ZW (.int (y / 64)) (.int 4)=some (.int (y / 64%4)):=rfl
 have d64:Zbg (.int y) (.int 64)=some (.int (y / 64)):=by
  show (if Zbj y 64 then some (D.int (y / 64)) else none)=_
  rw [if_pos (by constructor<;>decide)]
 have a1:∀ a b:Int,Zx (.int a) (.int b)=some (.int (a+b)):=fun _ _=>rfl
 have hz:ws.length<sizeLine:=Nat.lt_of_lt_of_le (show ws.length<100000 by omega) (by decide)
 have hsh:Zo (some [D.int (1+y%6),.int (2+y%3),.int 47,.int 3])=some [D.int (1+y%6),.int (2+y%3),.int 47,.int 3]:=ZK _ (by simp)
 simp only [Zar,Zi,Ze,rdP,rdV,rdA,rdO,List.getElem?_cons_succ,List.getElem?_cons_zero,Option.bind,Option.map,Zbd,List.set_cons_succ,List.set_cons_zero,Zb,Zk,Zw,ZN,x1,n6,n3,a1,d64,n4,hsh,x2,hz,if_true]
theorem Zhv (w:Way) (cell:Int) (h:w.Ok cell) (s1:Sl) (p:Nat) (hp0:0<p) (hp4:p≤4):∀ (n k:Nat) (ls:List (List At)) (s5 s7 s8 s9 s10:Sl),ls.length+n<1000 →
  ∃ s5' s7' s8' s9' s10',ZY (Zm 7) ZbS ((List.range' k n).map fun (k:Nat)=>D.int (k:Int)) [.val (.int cell),s1,.val (.int (p:Int)),.val (.lst (w.sv.map D.int)),WD w,s5,.own (ls.map lnD),s7,s8,s9,s10] =
   .next [.val (.int cell),s1,.val (.int (p:Int)),.val (.lst (w.sv.map D.int)),WD w,s5',.own ((ls++(List.range' k n).map fun k=>w.chn 0 (w.a0 k) p).map lnD),s7',s8',s9',s10']
 | 0,k,ls,s5,s7,s8,s9,s10,_=>⟨s5,s7,s8,s9,s10,by simp [ZY]⟩
 | n+1,k,ls,s5,s7,s8,s9,s10,hz=>by
  obtain ⟨a,b,c,d,e⟩:=Zop w cell h s1 p hp0 hp4 ls (by omega) k s5 s8 s9 s10
  obtain ⟨a2,b2,c2,d2,f2,e2⟩:=Zhv w cell h s1 p hp0 hp4 n (k+1) (ls++[w.chn 0 (w.a0 k) p]) a (.val (.int (k:Int))) b c d (by simp;omega)
  refine ⟨a2,b2,c2,d2,f2,?_⟩
  rw [List.range'_succ,List.map_cons,List.map_cons]
  simp only [ZY,Zm,List.set_cons_succ,List.set_cons_zero]
  rw [e]
  rw [show ls++w.chn 0 (w.a0 k) p::(List.range' (k+1) n).map (fun k=>w.chn 0 (w.a0 k) p)=ls++[w.chn 0 (w.a0 k) p]++(List.range' (k+1) n).map (fun k=>w.chn 0 (w.a0 k) p) by simp]
  exact e2
theorem ZmG (cell:Int) (many p:Nat) (hm:many<500) (hp0:0<p) (hp4:p≤4):∃ w:Way,w.Ok cell∧F_law_ladder [.val (.int cell),.val (.int (many:Int)),.val (.int (p:Int))]=some (.own (((List.range many).map fun k=>w.chn 0 (w.a0 k) p).map lnD)):=by
 obtain ⟨sv,hs,hl,hps⟩:=Zfy cell (p:Int)
 have hval:=fun j:Nat=>ZnI (sv.getD (12+j) 0%4) (cell+(j:Int) * (sv.getD 16 0%2) * 1000003)
 let w:Way:=⟨sv,fun j=>if j=0 then 47 else Zaq (sv.getD j 0),fun j=>(hval j).choose⟩
 have hw:w.Ok cell:=⟨hl,hps,fun j=>by show 1≤(if j=0 then (47:Int) else Zaq (sv.getD j 0));split;decide;exact (Zke _).1,fun j=>by show (if j=0 then (47:Int) else Zaq (sv.getD j 0))≤47;split;decide;exact (Zke _).2,fun j=>(hval j).choose_spec.1,fun j k hk=>(hval j).choose_spec.2 k hk⟩
 have hsv:w.sv=sv:=rfl
 have hWD:WD w=.own [.int 47,.int (Zaq (sv.getD 1 0)),.int (Zaq (sv.getD 2 0)),.int (Zaq (sv.getD 3 0))]:=rfl
 obtain ⟨a,b,c,d,e,e1⟩:=Zhv w cell hw (.val (.int (many:Int))) p hp0 hp4 many 0 [] (.val (.int 3)) .no .no .no .no (by simp;omega)
 refine ⟨w,hw,?_⟩
 have hr:=ZcH many (by omega)
 have hr2:Zgq [.int 1,.int 4]=some [.int 1,.int 2,.int 3]:=by
  rw [ZnW 1 4 (by omega) (by omega) (by omega) (by omega)];rfl
 rw [← List.range_eq_range',List.nil_append,hsv,hWD] at e1
 generalize ((List.range many).map fun k=>w.chn 0 (w.a0 k) p)=LS at *
 have t1:Zar [.val (.int cell),.val (.int (many:Int)),.val (.int (p:Int)),.val (.lst (sv.map D.int)),.own [.int 47],.val (.int 1),.no,.no,.no,.no,.no]=.next [.val (.int cell),.val (.int (many:Int)),.val (.int (p:Int)),.val (.lst (sv.map D.int)),.own [.int 47,.int (Zaq (sv.getD 1 0))],.val (.int 1),.no,.no,.no,.no,.no]:=Zfd (.val (.int cell)) (.val (.int (many:Int))) (.val (.int (p:Int))) sv hl 1 (by omega) [.int 47] (by simp) .no .no .no .no .no
 have t2:Zar [.val (.int cell),.val (.int (many:Int)),.val (.int (p:Int)),.val (.lst (sv.map D.int)),.own [.int 47,.int (Zaq (sv.getD 1 0))],.val (.int 2),.no,.no,.no,.no,.no]=.next [.val (.int cell),.val (.int (many:Int)),.val (.int (p:Int)),.val (.lst (sv.map D.int)),.own [.int 47,.int (Zaq (sv.getD 1 0)),.int (Zaq (sv.getD 2 0))],.val (.int 2),.no,.no,.no,.no,.no]:=Zfd (.val (.int cell)) (.val (.int (many:Int))) (.val (.int (p:Int))) sv hl 2 (by omega) [.int 47,.int (Zaq (sv.getD 1 0))] (by simp) .no .no .no .no .no
 have t3:Zar [.val (.int cell),.val (.int (many:Int)),.val (.int (p:Int)),.val (.lst (sv.map D.int)),.own [.int 47,.int (Zaq (sv.getD 1 0)),.int (Zaq (sv.getD 2 0))],.val (.int 3),.no,.no,.no,.no,.no]=.next [.val (.int cell),.val (.int (many:Int)),.val (.int (p:Int)),.val (.lst (sv.map D.int)),.own [.int 47,.int (Zaq (sv.getD 1 0)),.int (Zaq (sv.getD 2 0)),.int (Zaq (sv.getD 3 0))],.val (.int 3),.no,.no,.no,.no,.no]:=Zfd (.val (.int cell)) (.val (.int (many:Int))) (.val (.int (p:Int))) sv hl 3 (by omega) [.int 47,.int (Zaq (sv.getD 1 0)),.int (Zaq (sv.getD 2 0))] (by simp) .no .no .no .no .no
 have hfor:ZY (Zm 5) Zar [.int 1,.int 2,.int 3] [.val (.int cell),.val (.int (many:Int)),.val (.int (p:Int)),.val (.lst (sv.map D.int)),.own [.int 47],.no,.no,.no,.no,.no,.no] =
   .next [.val (.int cell),.val (.int (many:Int)),.val (.int (p:Int)),.val (.lst (sv.map D.int)),.own [.int 47,.int (Zaq (sv.getD 1 0)),.int (Zaq (sv.getD 2 0)),.int (Zaq (sv.getD 3 0))],.val (.int 3),.no,.no,.no,.no,.no]:=by
  simp only [ZY,Zm,List.set_cons_succ,List.set_cons_zero]
  simp only [t1,List.set_cons_succ,List.set_cons_zero,t2,t3]
 have hsh:Zo (some [D.int 47])=some [D.int 47]:=ZK _ (by decide)
 have hsh0:Zo (some ([]:List D))=some []:=rfl
 have hv:Zw [Sl.val (.int (many:Int))]=some [.int (many:Int)]:=rfl
 have hfn:F_law_ladder [.val (.int cell),.val (.int (many:Int)),.val (.int (p:Int))]=match ZcT [.val (.int cell),.val (.int (many:Int)),.val (.int (p:Int)),.no,.no,.no,.no,.no,.no,.no,.no] with
  | .ret r=>some r
  | .next _=>some (.val .non)
  | _=>none:=rfl
 rw [hfn]
 simp only [ZcT,ZeE,Zeu,ZeJ,ZeL,ZeM,ZeH,Zex,ZeA,ZeD,ZeO,Zew,Zi,rdP,rdV,rdA,rdO,List.getElem?_cons_succ,List.getElem?_cons_zero,Option.bind,Option.map,ZL,ZaM,Zaw,List.set_cons_succ,List.set_cons_zero,Zb,Zk,Zr,rvD,hs,Zw,hsh,hsh0,hr2,hfor,hr,List.map_nil] at e1 ⊢
 rw [e1]
 rfl
theorem ZsI:∀ m∈List.range 46,∃ n∈List.range 47,((m+1) * n)%47=1:=by decide +kernel
theorem Zpc {k j m c:Int} (hm0:0≤m) (hm:m<46) (hk:0≤k) (hk2:k<47) (hj:0≤j) (hj2:j<47) (e:(k * (1+m)+c)%47=(j * (1+m)+c)%47):k=j:=by
 obtain ⟨n,hn,he⟩:=ZsI m.toNat (List.mem_range.mpr (by omega))
 have he':((1+m) * (n:Int))%47=1:=by
  have:(((m.toNat+1) * n:Nat):Int)%47=1:=by exact_mod_cast congrArg (fun x:Nat=>(x:Int)) he
  rw [Int.natCast_mul,Int.natCast_add] at this
  have hmm:((m.toNat:Nat):Int)=m:=by omega
  rw [hmm] at this
  rw [Int.add_comm 1 m]
  exact this
 have h1:47 ∣ (k-j) * (1+m):=by
  have:(k * (1+m)+c)-(j * (1+m)+c)=(k-j) * (1+m):=by rw [Int.sub_mul];omega
  rw [← this]
  exact Int.dvd_of_emod_eq_zero (by omega)
 have h2:47 ∣ (k-j) * ((1+m) * (n:Int)):=by
  rw [← Int.mul_assoc]
  exact Int.dvd_mul_of_dvd_left h1
 obtain ⟨q,hq⟩:∃ q,(1+m) * (n:Int)=47 * q+1:=⟨(1+m) * (n:Int) / 47,by omega⟩
 rw [hq,Int.mul_add,Int.mul_one] at h2
 have h3:(47:Int) ∣ (k-j) * (47 * q):=⟨(k-j) * q,by rw [← Int.mul_assoc,← Int.mul_assoc,Int.mul_comm (k-j) 47]⟩
 have h4:(47:Int) ∣ k-j:=(Int.dvd_add_right h3).mp h2
 omega
theorem Way.a0_inj (w:Way) (hpos:0≤w.sv.getD 0 0) {j k:Nat} (hj:j<47) (hk:k<47) (e:w.a0 j=w.a0 k):j=k:=by
 have e1:=w.a0_int j
 have e2:=w.a0_int k
 rw [e] at e1
 have:=Zpc (k:=(j:Int)) (j:=(k:Int)) (m:=w.sv.getD 0 0%46) (c:=w.sv.getD 4 0) (by omega) (by omega) (by omega) (by omega) (by omega) (by omega) (e1.trans e2.symm)
 omega
structure TO {α:Type} (lt:α→α→Bool):Prop where
 asym:∀ a b,lt a b=true→lt b a=false
 neg:∀ a b c,lt a c=true→lt a b=true∨lt b c=true
 anti:∀ a b,lt a b=false→lt b a=false→a=b
theorem TO.trans {α:Type} {lt:α→α→Bool} (T:TO lt) {a b c:α} (h1:lt a b=true) (h2:lt b c=true):lt a c=true:=by
 rcases T.neg a c b h1 with h | h
 ·exact h
 ·rw [T.asym b c h2] at h;cases h
def ZgZ {α:Type} (lt:α→α→Bool) (x:α):List α→List α
 | []=>[x]
 | y::r=>if lt x y then x::y::r else y::ZgZ lt x r
def Zbc {α:Type} (lt:α→α→Bool):List α→List α
 | []=>[]
 | x::r=>ZgZ lt x (Zbc lt r)
theorem Zhy {α:Type} (lt:α→α→Bool) (x:α):∀ l,(ZgZ lt x l).Perm (x::l)
 | []=>.refl _
 | y::r=>by
  unfold ZgZ
  split
  ·exact .refl _
  ·exact ((Zhy lt x r).cons y).trans (.swap x y r)
theorem Za6 {α:Type} (lt:α→α→Bool):∀ l,(Zbc lt l).Perm l
 | []=>.refl _
 | x::r=>(Zhy lt x _).trans ((Za6 lt r).cons x)
theorem Zje {α:Type} (f:α→D) (lt:α→α→Bool) (lk:D→D→Bool) (x:α):∀ l:List α,(∀ y∈l,lk (f x) (f y)=lt x y)→Ze5 lk (f x) (l.map f)=(ZgZ lt x l).map f
 | [],_=>rfl
 | y::r,h=>by
  have h1:=h y List.mem_cons_self
  have ih:=Zje f lt lk x r fun z hz=>h z (List.mem_cons_of_mem _ hz)
  simp only [List.map_cons,Ze5,ZgZ,h1,ih]
  split<;>rfl
theorem Zgp {α:Type} (f:α→D) (lt:α→α→Bool) (lk:D→D→Bool):∀ l:List α,(∀ x∈l,∀ y∈l,lk (f x) (f y)=lt x y)→Zcw lk (l.map f)=(Zbc lt l).map f
 | [],_=>rfl
 | x::r,h=>by
  have ih:=Zgp f lt lk r fun y hy z hz=>h y (List.mem_cons_of_mem _ hy) z (List.mem_cons_of_mem _ hz)
  simp only [List.map_cons,Zcw,Zbc,ih]
  exact Zje f lt lk x _ fun y hy=>h x List.mem_cons_self y (List.mem_cons_of_mem _ ((Za6 lt r).subset hy))
theorem ZnU {α:Type} {F:List Sl→Option Rv} (f:α→D) {lt:α→α→Bool} (T:TO lt) (b:Bool) (xs:List α) (few:xs.length<64) (ky:α→D) (tells:∀ a∈xs,F [.val (f a)]=some (.val (ky a))) (mode:∀ a∈xs,KMode b (ky a)) (cmp:∀ a∈xs,∀ c∈xs,ltN 6 (ky a) (ky c)=some (lt a c)):Zd8 F (xs.map f)=some ((Zbc lt xs).map f):=by
 have hk:∀ a∈xs,ZaU F (f a)=ky a:=fun a ha=>by unfold ZaU;rw [tells a ha];rfl
 have hl:∀ a∈xs,∀ c∈xs,ltF F (f a) (f c)=lt a c:=fun a ha c hc=>Zgr (by rw [hk a ha,hk c hc];exact cmp a ha c hc)
 have ok:SortOk F (xs.map f):={
  few:=by simpa using few
  tells:=fun x hx=>by obtain ⟨a,ha,rfl⟩:=List.mem_map.mp hx;exact ⟨_,tells a ha⟩
  mode:=⟨b,fun x hx=>by obtain ⟨a,ha,rfl⟩:=List.mem_map.mp hx;rw [hk a ha];exact mode a ha⟩
  cmp:=fun x hx y hy=>by
   obtain ⟨a,ha,rfl⟩:=List.mem_map.mp hx
   obtain ⟨c,hc,rfl⟩:=List.mem_map.mp hy
   rw [hk a ha,hk c hc];exact ⟨_,cmp a ha c hc⟩
  asym:=fun x hx y hy h=>by
   obtain ⟨a,ha,rfl⟩:=List.mem_map.mp hx
   obtain ⟨c,hc,rfl⟩:=List.mem_map.mp hy
   rw [hl a ha c hc] at h;rw [hl c hc a ha];exact T.asym a c h
  neg:=fun x hx y hy z hz h=>by
   obtain ⟨a,ha,rfl⟩:=List.mem_map.mp hx
   obtain ⟨c,hc,rfl⟩:=List.mem_map.mp hy
   obtain ⟨e,he,rfl⟩:=List.mem_map.mp hz
   rw [hl a ha e he] at h;rw [hl a ha c hc,hl c hc e he];exact T.neg a c e h
  anti:=fun x hx y hy h1 h2=>by
   obtain ⟨a,ha,rfl⟩:=List.mem_map.mp hx
   obtain ⟨c,hc,rfl⟩:=List.mem_map.mp hy
   rw [hl a ha c hc] at h1;rw [hl c hc a ha] at h2;rw [T.anti a c h1 h2] }
 rw [Ziw ok,Zgp f lt _ xs hl]
def ded {α:Type} [DecidableEq α]:Option α→List α→List α
 | _,[]=>[]
 | p,a::r=>if p=some a then ded p r else a::ded (some a) r
theorem ZhM {α:Type} [DecidableEq α]:∀ (l:List α) (p:Option α),l.Nodup→(∀ a,p=some a→a∉l)→ded p l=l
 | [],_,_,_=>rfl
 | a::r,p,h,hp=>by
  obtain ⟨h1,h2⟩:=List.nodup_cons.mp h
  unfold ded
  rw [if_neg (fun e=>hp a e List.mem_cons_self),ZhM r (some a) h2 fun b hb=>by cases hb;exact h1]
def ltA:At→At→Bool
 | .non,.non=>false
 | .non,_=>true
 | .int i,.int j=>decide (i<j)
 | .int _,.str _=>true
 | .str x,.str y=>decide (x.cps.toList<y.cps.toList)
 | _,_=>false
theorem Ztw {x y:Str} (h:x.cps.toList=y.cps.toList):x=y:=by
 obtain ⟨⟨a⟩⟩:=x
 obtain ⟨⟨b⟩⟩:=y
 simp at h
 rw [h]
theorem TO_A:TO ltA:={
 asym:=fun a b h=>by
  cases a<;>cases b<;>simp only [ltA,decide_eq_true_eq,decide_eq_false_iff_not,Bool.false_eq_true] at h ⊢
  ·omega
  ·exact List.lt_asymm h
 neg:=fun a b c h=>by
  cases a<;>cases c<;>simp only [ltA,decide_eq_true_eq,Bool.false_eq_true] at h<;>cases b<;>simp only [ltA,decide_eq_true_eq,Bool.false_eq_true,true_or,or_true,false_or,or_false]
  ·omega
  ·next x y z =>
   by_cases h1:x.cps.toList<z.cps.toList
   ·exact .inl h1
   ·exact .inr (List.lt_of_le_of_lt (List.not_lt.mp h1) h)
 anti:=fun a b h1 h2=>by
  cases a<;>cases b<;>simp only [ltA,decide_eq_false_iff_not,Bool.true_eq_false] at h1 h2
  ·rfl
  ·rw [At.int.injEq];omega
  ·rw [At.str.injEq];exact Ztw (List.le_antisymm (List.not_lt.mp h2) (List.not_lt.mp h1)) }
def ltL:List At→List At→Bool
 | [],[]=>false
 | [],_::_=>true
 | _::_,[]=>false
 | a::r,b::s=>if a=b then ltL r s else ltA a b
theorem ZiN:∀ a b,ltL a b=true→ltL b a=false
 | [],[],_=>rfl
 | [],_::_,_=>rfl
 | _::_,[],h=>by cases h
 | a::r,b::s,h=>by
  unfold ltL at h ⊢
  by_cases e:a=b
  ·subst e;simp only [if_true] at h ⊢;exact ZiN r s h
  ·rw [if_neg e] at h;rw [if_neg (fun z=>e z.symm)];exact TO_A.asym a b h
theorem ZkV:∀ a b c,ltL a c=true→ltL a b=true∨ltL b c=true
 | [],[],c,h=>.inr h
 | [],_::_,_,_=>.inl rfl
 | _::_,_,[],h=>by cases h
 | _::_,[],_::_,_=>.inr rfl
 | a::r,b::s,c::t,h=>by
  unfold ltL at h ⊢
  by_cases e1:a=b
  ·subst e1
   by_cases e2:a=c
   ·simp only [e2,if_true] at h ⊢;exact ZkV r s t h
   ·rw [if_neg e2] at h;right;rw [if_neg e2];exact h
  ·rw [if_neg e1]
   by_cases e2:b=c
   ·subst e2;rw [if_neg e1] at h;exact .inl h
   ·rw [if_neg e2]
    by_cases e3:a=c
    ·subst e3
     cases hc:ltA a b with
     | true=>exact .inl rfl
     | false =>
      cases hd:ltA b a with
      | true=>exact .inr rfl
      | false=>exact absurd (TO_A.anti a b hc hd) e1
    ·rw [if_neg e3] at h;exact TO_A.neg a b c h
theorem Zjj:∀ a b,ltL a b=false→ltL b a=false→a=b
 | [],[],_,_=>rfl
 | [],_::_,h,_=>by cases h
 | _::_,[],_,h=>by cases h
 | a::r,b::s,h1,h2=>by
  unfold ltL at h1 h2
  by_cases e:a=b
  ·subst e;simp only [if_true] at h1 h2;rw [Zjj r s h1 h2]
  ·rw [if_neg e] at h1;rw [if_neg (fun z=>e z.symm)] at h2;exact absurd (TO_A.anti a b h1 h2) e
theorem Zq6:TO ltL:=⟨ZiN,ZkV,Zjj⟩
def rk2:At→D
 | .non=>.tup [.int 0,.int 0]
 | .int i=>.tup [.int 1,.int i]
 | .str x=>.tup [.int 2,.str x]
def rk3:At→D
 | .non=>.tup [.int 0,.int 0,.str ""]
 | .int i=>.tup [.int 1,.int i,.str ""]
 | .str x=>.tup [.int 2,.int 0,.str x]
theorem Zsc (n:Nat) (a b:At):ltN (n+2) (rk2 a) (rk2 b)=some (ltA a b):=by
 cases a<;>cases b<;>simp [rk2,ltA]
 ·intro e;omega
 ·intro e;subst e;simp
theorem Zp7 (a b:At):eqD (rk2 a) (rk2 b)=decide (a=b):=by
 cases a<;>cases b<;>simp [rk2]
theorem ZmY (n:Nat) (a:At):okD (n+1) (rk2 a)=true:=by cases a<;>cases n<;>rfl
theorem Zkq (n:Nat):∀ l m:List At,Zb5 (ltN (n+2)) (l.map rk2) (m.map rk2)=some (ltL l m)
 | [],[]=>rfl
 | [],_::_=>rfl
 | _::_,[]=>rfl
 | a::r,b::s=>by
  have ih:=Zkq n r s
  have h1:=ZmY 11 a
  have h2:=ZmY 11 b
  have h3:=Zp7 a b
  have h4:=Zsc n a b
  simp only [List.map_cons,Zb5,ZeK,h1,h2,h3,h4,ih,ltL,Bool.and_self,if_true,decide_eq_true_eq]
  split<;>rfl
theorem Zqn (n:Nat) (a b:At):ltN (n+2) (rk3 a) (rk3 b)=some (ltA a b):=by
 cases a<;>cases b<;>simp [rk3,ltA]
 ·intro e;omega
 ·intro e;subst e;simp
def mn (m y:Int):Int:=if y<m then y else m
def mx (m y:Int):Int:=if y > m then y else m
theorem ZoH (m y:Int):mn m y=min m y:=by unfold mn;split<;>omega
theorem ZoG (m y:Int):mx m y=max m y:=by unfold mx;split<;>omega
def cel (x:Int) (xs:List Int):D:=.tup [.int (xs.length+1:Nat),.int ((x::xs).sum),.int (xs.foldl mn x),.int (xs.foldl mx x)]
def Zqy (s:Sl) (ns:List Int):Prop:=s=.val (.lst (ns.map D.int))∨s=.lent (ns.map D.int)
theorem ZlK (s:Sl) (x:Int) (xs:List Int) (h:Zqy s (x::xs)):F_cell_of [s]=some (.val (cel x xs)):=by
 have h4:(4:Nat)≤sizeLine:=by decide
 rcases h with rfl | rfl<;>(simp [F_cell_of,fnP,Zf0,Zb7,ZfP,Zlu,Zk2,cel,h4];exact ⟨rfl,rfl⟩)
theorem four:(4:Nat)≤sizeLine:=by decide
theorem Zj5 (a:Int):∀ (ys:List Int) (b:Int),ys.foldl mn (mn a b)=mn a (ys.foldl mn b)
 | [],b=>rfl
 | y::ys,b=>by
  have e:mn (mn a b) y=mn a (mn b y):=by simp only [ZoH];omega
  simp only [List.foldl_cons,e,Zj5 a ys]
theorem Zkh (a:Int):∀ (ys:List Int) (b:Int),ys.foldl mx (mx a b)=mx a (ys.foldl mx b)
 | [],b=>rfl
 | y::ys,b=>by
  have e:mx (mx a b) y=mx a (mx b y):=by simp only [ZoG];omega
  simp only [List.foldl_cons,e,Zkh a ys]
theorem ZkC:∀ (a b:List Int),(a++b).sum=a.sum+b.sum
 | [],b=>by simp
 | x::a,b=>by simp [ZkC a b,Int.add_assoc]
theorem Zm6 (x y:Int) (xs ys:List Int):F_merged [.val (cel x xs),.val (cel y ys)]=some (.val (cel x (xs++y::ys))):=by
 have e1:(xs++y::ys).foldl mn x=mn (xs.foldl mn x) (ys.foldl mn y):=by rw [List.foldl_append,List.foldl_cons,Zj5]
 have e2:(xs++y::ys).foldl mx x=mx (xs.foldl mx x) (ys.foldl mx y):=by rw [List.foldl_append,List.foldl_cons,Zkh]
 simp [F_merged,fnP,Zgo,cel,atI,ixN,four,e1,e2,ZkC]
 refine ⟨by omega,by omega,rfl,rfl⟩
def mkD (acc:KDs) (ps:List (At×D)):KDs:=ps.foldl (fun kvs p=>Zav kvs (.at p.1) p.2) acc
theorem Zg8 (a:At):okK (aD a)=some (.at a):=Zir (.at a)
theorem Zkc {kvs:KDs} {a:At} {v:D} (h:∀ p∈kvs,ZdH p.1=true):∀ p∈Zav kvs (.at a) v,ZdH p.1=true:=fun p hp=>by
 rcases ZnE hp with hp | rfl
 ·exact h p hp
 ·rfl
theorem Zgx:∀ (ps:List (At×D)) (acc:KDs),(∀ p∈acc,ZdH p.1=true)→acc.length+ps.length≤100000→Zcp acc (ps.map fun p=>.tup [aD p.1,p.2])=some (mkD acc ps)
 | [],acc,_,_=>rfl
 | p::ps,acc,h,hz=>by
  simp only [List.length_cons] at hz
  have hl:acc.length<sizeLine:=Nat.lt_of_lt_of_le (show acc.length<100000 by omega) (by decide)
  have hp:=ZjB acc (.at p.1) p.2
  have ih:=Zgx ps (Zav acc (.at p.1) p.2) (Zkc h) (by omega)
  simp only [List.map_cons,Zcp,Zg8,Zg5 p.1 h,hl,decide_true,Bool.and_self,if_true,ih]
  rfl
theorem Zjy:∀ (ps:List (At×D)) (acc:KDs),(∀ p∈acc,ZdH p.1=true)→∀ p∈mkD acc ps,ZdH p.1=true
 | [],_,h=>h
 | p::ps,acc,h=>Zjy ps _ (Zkc h)
theorem ZoR:∀ (ps:List (At×D)) (acc:KDs),(mkD acc ps).length≤acc.length+ps.length
 | [],acc=>Nat.le_refl _
 | p::ps,acc=>by
  have ih:=ZoR ps (Zav acc (.at p.1) p.2)
  have hp:=ZjB acc (.at p.1) p.2
  simp only [mkD,List.foldl_cons,List.length_cons] at ih ⊢
  omega
theorem Ziy {a:At}:∀ (ps:List (At×D)) (acc:KDs),a∉ps.map (·.1)→ZO (mkD acc ps) (.at a)=ZO acc (.at a)
 | [],_,_=>rfl
 | p::ps,acc,h=>by
  rw [List.map_cons,List.mem_cons,not_or] at h
  have ih:=Ziy ps (Zav acc (.at p.1) p.2) h.2
  show ZO (mkD (Zav acc (.at p.1) p.2) ps) _=_
  rw [ih,Zgm,if_neg (fun e=>h.1 (KT.at.inj e).symm)]
theorem ZkP {a:At} {v:D}:∀ (ps:List (At×D)) (acc:KDs),(ps.map (·.1)).Nodup→(a,v)∈ps→ZO (mkD acc ps) (.at a)=some v
 | p::ps,acc,hn,h=>by
  rw [List.map_cons,List.nodup_cons] at hn
  show ZO (mkD (Zav acc (.at p.1) p.2) ps) _=_
  rcases List.mem_cons.mp h with rfl | h
  ·rw [Ziy ps _ hn.1,Zgm,if_pos rfl]
  ·exact ZkP ps _ hn.2 h
theorem ZmZ (a:At):∀ (ps:List (At×D)) (acc:KDs),(ZO (mkD acc ps) (.at a)).isSome=((ZO acc (.at a)).isSome||decide (a∈ps.map (·.1)))
 | [],acc=>by simp [mkD]
 | p::ps,acc=>by
  have ih:=ZmZ a ps (Zav acc (.at p.1) p.2)
  show (ZO (mkD (Zav acc (.at p.1) p.2) ps) _).isSome=_
  rw [ih,Zgm]
  by_cases e:p.1=a
  ·subst e;simp
  ·have e':¬ KT.at p.1=KT.at a:=fun z=>e (KT.at.inj z)
   have e2:¬ a=p.1:=fun z=>e z.symm
   rw [if_neg e',Bool.eq_iff_iff]
   simp [e2]
theorem Zn3 {ps:List (At×D)} {a:At} {v:D} (hn:(ps.map (·.1)).Nodup) (h:(a,v)∈ps):Za4 (.lst (ZI (mkD [] ps)) true) (aD a)=some v:=by
 have hh:=Zg5 (kvs:=mkD [] ps) a (Zjy ps [] fun _ h=>nomatch h)
 rw [ZgA,Zg8]
 simp only [Option.bind,hh,if_true,ZkP ps [] hn h]
theorem ZpM (neg:Bool) (ps:List (At×D)) (a:At):Zb8 neg (aD a) (.lst (ZI (mkD [] ps)) true)=some (.bl (neg != decide (a∈ps.map (·.1)))):=by
 have hh:=Zg5 (kvs:=mkD [] ps) a (Zjy ps [] fun _ h=>nomatch h)
 have hi:=ZmZ a ps []
 rw [ZhC,Zg8]
 simp only [Option.bind,hh,if_true,hi]
 simp [ZO]
theorem Zni {α:Type} (l:List α):Zim [.lst ((l.map fun _=>true).map D.bl)]=some (.bl true):=by
 simp only [Zim,Zhk,Option.map_some]
 congr 2
 rw [List.all_map]
 simp
theorem Zal {np n:Nat} {g:VE→Res} {ss:List Sl} {r:Rv} (h:ss.length=np) (e:g (ss++List.replicate (n-np) .no)=.ret r):fnP np n g ss=some r:=by
 unfold fnP
 rw [if_pos h,e]
theorem ZjD {α:Type} (x:α) (xs:List α):atI (x::xs) 0=some x:=by
 have:(0:Int)<(xs.length:Int)+1:=by omega
 simp [atI,ixN,this]
theorem ZiO {α:Type} (xs:List α) (x:α):atI (xs++[x]) (-1)=some x:=by
 have h1:(-1+((xs.length:Int)+1)).toNat=xs.length:=by omega
 have h2 : -((xs.length:Int)+1) ≤ -1:=by omega
 simp [atI,ixN,h1,h2]
theorem Zh3 (a:At):F_value_rank [.val (aD a)]=some (.val (rk2 a)):=by
 have h2:(2:Nat)≤sizeLine:=by decide
 cases a<;>simp [F_value_rank,fnP,Zdz,F_is_whole,Ze3,aD,rk2,h2]
theorem ZjK (l:List At) (h:l.length≤1000):F_key_rank [.val (lnD l)]=some (.val (.tup (l.map rk2))):=by
 have hz:l.length≤sizeLine:=Nat.le_trans h (by decide)
 have hc:=ZaA (b:=Zm 0) (e:=Zdv) (ρ:=[.no]) aD rk2 l fun a _=>⟨[.val (aD a)],rfl,by
  have:=Zh3 a
  simp only [Zdv,Zr,Zb,rdA,List.getElem?_cons_zero,Option.bind,this,Option.map,rvD]⟩
 simp [F_key_rank,fnP,ZeS,lnD,hz,ZU,hc,-List.map_map]
theorem ZcC (s0:Sl):∀ (ls acc:List (List At)) (s2:Sl),acc.length+ls.length<100000→∃ s2',ZY (Zm 2) ZaC (ls.map lnD) [s0,.own (acc.map lnD),s2]=.next [s0,.own ((acc++ded acc.getLast? ls).map lnD),s2']
 | [],acc,s2,_=>⟨s2,by simp [ZY,ded]⟩
 | l::ls,acc,s2,hz=>by
  simp only [List.length_cons] at hz
  have hzz:acc.length<sizeLine:=Nat.lt_of_lt_of_le (show acc.length<100000 by omega) (by decide)
  have hn:Zg1 (some (.int 1))=some (.int (-1)):=rfl
  simp only [List.map_cons,ZY,Zm,List.set_cons_succ,List.set_cons_zero]
  rcases List.eq_nil_or_concat acc with rfl | ⟨pre,x,rfl⟩
  ·obtain ⟨s2',e⟩:=ZcC s0 ls [l] (.val (lnD l)) (by simp;omega)
   refine ⟨s2',?_⟩
   have hb:ZaC [s0,.own ([].map lnD),.val (lnD l)]=.next [s0,.own ([l].map lnD),.val (lnD l)]:=by
    have h0:(0:Nat)<sizeLine:=by decide
    simp [ZaC,h0]
   have hd:ded ([]:List (List At)).getLast? (l::ls)=l::ded (some l) ls:=rfl
   rw [hb,hd]
   exact e
  ·rw [List.concat_eq_append] at hz hzz ⊢
   have hix:ixD (.lst ((pre++[x]).map lnD)) (.int (-1))=some (lnD x):=by
    show atI ((pre++[x]).map lnD) (-1)=_
    rw [List.map_append];exact ZiO _ _
   have htr:Zbe (some (.lst ((pre++[x]).map lnD)))=some true:=by simp
   have hne:=ZrP x l
   have hlast:(pre++[x]).getLast?=some x:=by simp
   by_cases hx:x=l
   ·subst hx
    obtain ⟨s2',e⟩:=ZcC s0 ls (pre++[x]) (.val (lnD x)) (by omega)
    refine ⟨s2',?_⟩
    have hb:ZaC [s0,.own ((pre++[x]).map lnD),.val (lnD x)]=.next [s0,.own ((pre++[x]).map lnD),.val (lnD x)]:=by
     simp only [ZaC,Zi,Zaa,orB,ZbG,asB,Ze,rdP,rdV,rdO,List.getElem?_cons_succ,List.getElem?_cons_zero,Option.bind,Option.map,htr,hn,hix,hne,decide_true,Bool.not_true]
    rw [hb,hlast,ded,if_pos rfl,← hlast]
    exact e
   ·obtain ⟨s2',e⟩:=ZcC s0 ls (pre++[x]++[l]) (.val (lnD l)) (by simp at hz ⊢;omega)
    refine ⟨s2',?_⟩
    have hl:(pre++[x]++[l]).getLast?=some l:=by simp
    have hb:ZaC [s0,.own ((pre++[x]).map lnD),.val (lnD l)]=.next [s0,.own ((pre++[x]++[l]).map lnD),.val (lnD l)]:=by
     rw [show ((pre++[x]++[l]).map lnD)=(pre++[x]).map lnD++[lnD l] by simp]
     simp only [ZaC,Zi,Zaa,orB,ZbG,asB,Ze,rdP,rdV,rdO,List.getElem?_cons_succ,List.getElem?_cons_zero,Option.bind,Option.map,htr,hn,hix,hne,hx,decide_false,Bool.not_false,Bool.not_true,Zbd,List.length_map,hzz,if_true,List.set_cons_succ,List.set_cons_zero]
    rw [hb,hlast,ded,if_neg (by simpa using hx)]
    rw [hl] at e
    rw [show pre++[x]++l::ded (some l) ls=pre++[x]++[l]++ded (some l) ls by simp]
    exact e
theorem ZjN (s:Sl) (ls:List (List At)) (hs:s=.val (.lst (ls.map lnD))∨s=.lent (ls.map lnD)) (hl:ls.length<64) (hn:∀ l∈ls,l≠[]∧l.length≤1000):F_in_order [s]=some (.own ((ded none (Zbc ltL ls)).map lnD)):=by
 have hs':=ZnU (F:=F_key_rank) lnD Zq6 false ls hl (fun l=>.tup (l.map rk2)) (fun l h=>ZjK l (hn l h).2) (fun l h=>by
  cases l with
  | nil=>exact absurd rfl (hn [] h).1
  | cons a r=>cases a<;>exact ⟨_,_,rfl⟩) (fun l _ m _=>Zkq 3 l m)
 have hp:=(Za6 ltL ls).length_eq
 obtain ⟨s2',e⟩:=ZcC s (Zbc ltL ls) [] .no (by rw [hp];simp;omega)
 have hz:(Zbc ltL ls).length≤sizeLine:=by rw [hp];exact Nat.le_trans (show ls.length≤1000 by omega) (by decide)
 simp only [List.map_nil,List.nil_append,List.getLast?_nil] at e
 refine Zal rfl ?_
 show Zdg [s,.no,.no]=_
 have hsh:Zo (some ([]:List D))=some []:=rfl
 rcases hs with rfl | rfl<;>simp only [Zdg,Zi,ZaM,Zaw,ZfW,ZN,ZJ,rdP,rdO,ZaZ,Zw,hsh,hs',e,List.getElem?_cons_succ,List.getElem?_cons_zero,Option.bind,Option.map,List.set_cons_succ,List.set_cons_zero]
theorem ZgB (l:List At) (j:Nat) (h:l.length≤1000):F_line_at [.val (lnD l),.val (.int (j:Int))]=some (.val (aD (l.getD j .non))):=by
 have hz:l.length≤sizeLine:=Nat.le_trans h (by decide)
 by_cases hj:j<l.length
 ·have hj':(j:Int)<(l.length:Int):=by omega
  have:ixD (lnD l) (.int (j:Int))=some (aD (l.getD j .non)):=by
   show atI (l.map aD) (j:Int)=_
   exact Za1 (by simp [List.getElem?_eq_getElem hj,List.getD])
  have hlen:Zba [lnD l]=some (.int (l.length:Int)):=by simp [lnD]
  simp [F_line_at,fnP,ZdW,-ixD,-Zba,hlen,this,hj']
 ·have hj':¬ (j:Int)<(l.length:Int):=by omega
  have hlen:Zba [lnD l]=some (.int (l.length:Int)):=by simp [lnD]
  have e:l.getD j .non=.non:=by simp [List.getD,List.getElem?_eq_none (show l.length≤j by omega)]
  rw [e]
  simp [F_line_at,fnP,ZdW,-ixD,-Zba,hlen,hj',aD]
def hd0 (l:List At):At:=l.getD 0 .non
theorem ZrF (a b:At):eqO (aD a) (aD b)=some (.bl (decide (a=b))):=by
 simp only [eqO,ZeK,ZmX,Zl7,Bool.and_self,if_true]
theorem ZoF (l:List At) (h:l≠[]):ixD (lnD l) (.int 0)=some (aD (hd0 l)):=by
 cases l with
 | nil=>exact absurd rfl h
 | cons a r=>show atI ((a::r).map aD) 0=_;exact ZjD _ _
theorem ZnN {C:VE→Option D} (hC:∀ a,C [.val (aD a)]=some (.bl false)) (l:List At):ZaF (Zm 0) (fun _=>some true) C [.no] (l.map aD)=some ((l.map fun _=>false).map D.bl):=by
 rw [ZaA aD (fun _=>D.bl false) l fun a _=>⟨[.val (aD a)],rfl,hC a⟩]
 simp
theorem Znk (l:List At):Zig [.lst ((l.map fun _=>false).map D.bl)]=some (.bl false):=by
 simp only [Zig,Zhk,Option.map_some]
 congr 2
 rw [List.any_map]
 simp
theorem ZaW (x n:Int) (h:0<n):ZW (.int x) (.int n)=some (.int (x%n)):=by
 show (if 0<n then some (D.int (x%n)) else none)=_
 rw [if_pos h]
theorem ZcE (x:Int) (n:Nat) (h:0<n):∃ a:Nat,x%(n:Int)=(a:Int)∧a<n:=by
 have h1:=Int.emod_nonneg x (show (n:Int)≠0 by omega)
 have h2:=Int.emod_lt_of_pos x (show (0:Int)<(n:Int) by omega)
 exact ⟨(x%(n:Int)).toNat,by omega,by omega⟩
theorem ZjH (a:At):F_law_rank [.val (aD a)]=some (.val (rk3 a)):=by
 have h2:(3:Nat)≤sizeLine:=by decide
 cases a<;>simp [F_law_rank,fnP,Ze8,aD,rk3,h2]
theorem Way.chn_len (w:Way):∀ (n j x:Nat),(w.chn j x n).length=n
 | 0,_,_=>rfl
 | n+1,j,x=>by simp [Way.chn,Way.chn_len w n]
structure Lad (ls:List (List At)):Prop where
 ne:0<ls.length
 few:ls.length≤8
 lw:∃ p,0<p∧p≤4∧∀ l∈ls,l.length=p
 nd:(ls.map hd0).Nodup
abbrev ldD (ls:List (List At)):D:=.lst (ls.map lnD)
theorem Lad.four {ls:List (List At)} (h:Lad ls):∀ l∈ls,l.length≤4:=fun l hl=>by
 obtain ⟨p,_,hp,e⟩:=h.lw
 rw [e l hl];exact hp
theorem Lad.some {ls:List (List At)} (h:Lad ls):∀ l∈ls,l≠[]:=fun l hl z=>by
 obtain ⟨p,hp,_,e⟩:=h.lw
 have:=e l hl
 rw [z] at this;simp at this;omega
theorem Zm0 (cell:Int) (many p:Nat) (h0:0<many) (hm:many≤8) (hp0:0<p) (hp4:p≤4):∃ ls,Lad ls∧F_law_ladder [.val (.int cell),.val (.int (many:Int)),.val (.int (p:Int))]=some (.own (ls.map lnD)):=by
 obtain ⟨w,h,e⟩:=ZmG cell many p (by omega) hp0 hp4
 have hpos:0≤w.sv.getD 0 0:=by
  have hl:=h.len
  have:w.sv.getD 0 0∈w.sv:=by
   have e:w.sv.getD 0 0=w.sv[0]'(by omega):=by simp [List.getD,List.getElem?_eq_getElem (show 0<w.sv.length by omega)]
   rw [e]
   exact List.getElem_mem _
  exact (h.pos _ this).1
 refine ⟨_,⟨by simpa using h0,by simpa using hm,⟨p,hp0,hp4,fun l hl=>?_⟩,?_⟩,e⟩
 ·obtain ⟨k,_,rfl⟩:=List.mem_map.mp hl
  exact Way.chn_len w _ _ _
 ·rw [List.map_map,List.nodup_iff_pairwise_ne,List.pairwise_map]
  refine List.Pairwise.imp_of_mem ?_ (List.pairwise_lt_range (n:=many))
  intro a b ha hb hlt e
  have ha:=List.mem_range.mp ha
  have hb:=List.mem_range.mp hb
  have hh:∀ k,hd0 (w.chn 0 (w.a0 k) p)=w.fs 0 (w.a0 k):=fun k=>by
   rw [show p=(p-1)+1 by omega];rfl
  simp only [Function.comp,hh] at e
  have:=Way.a0_inj w hpos (by omega) (by omega) ((h.vs 0).inj _ _ (w.a0_lt a) (w.a0_lt b) e)
  omega
def lfK (ls:List (List At)) (j:Nat):KDs:=mkD [] (ls.map fun l=>(hd0 l,aD (l.getD j .non)))
theorem ZiX {ls:List (List At)} (hL:Lad ls) (j:Nat):F_lifts [.val (ldD ls),.val (.int 0),.val (.int (j:Int))]=some (.own (ZI (lfK ls j)) true):=by
 have hl:=hL.few
 have hn:=hL.four
 have q1:Zo (some (ls.map lnD))=some (ls.map lnD):=ZK _ (by simp;omega)
 have hc:=ZaA (b:=Zm 0) (e:=ZfG) (ρ:=[.no,.val (.int 0),.val (.int (j:Int))]) lnD (fun l=>.tup [aD (hd0 l),aD (l.getD j .non)]) ls fun l hm=>⟨[.val (lnD l),.val (.int 0),.val (.int (j:Int))],rfl,by
  have h1:=ZgB l j (by have:=hn l hm;omega)
  have h0:F_line_at [.val (lnD l),.val (.int 0)]=some (.val (aD (hd0 l))):=ZgB l 0 (by have:=hn l hm;omega)
  have hsh:Zo (some [aD (hd0 l),aD (l.getD j .non)])=some [aD (hd0 l),aD (l.getD j .non)]:=ZK _ (by simp)
  simp only [ZfG,Zr,Zb,Zk,Zw,rdA,List.getElem?_cons_succ,List.getElem?_cons_zero,Option.bind,Option.map,h0,h1,Za7,hsh]⟩
 have hf:=Zgx (ls.map fun l=>(hd0 l,aD (l.getD j .non))) [] (fun _ h=>nomatch h) (by simp;omega)
 rw [List.map_map] at hf
 have e1:(ls.map fun l=>D.tup [aD (hd0 l),aD (l.getD j .non)])=ls.map ((fun p=>D.tup [aD p.1,p.2])∘fun l=>(hd0 l,aD (l.getD j .non))):=rfl
 rw [e1] at hc
 unfold ldD lfK
 generalize mkD [] (ls.map fun l=>(hd0 l,aD (l.getD j .non)))=KV at *
 generalize ls.map ((fun p=>D.tup [aD p.1,p.2])∘fun l=>(hd0 l,aD (l.getD j .non)))=PS at *
 generalize ls.map lnD=L at *
 refine Zal rfl ?_
 have hin:ZU 1 [1,2] [.val (.lst L),.val (.int 0),.val (.int (j:Int))]=[.no,.val (.int 0),.val (.int (j:Int))]:=rfl
 show Zf5 [.val (.lst L),.val (.int 0),.val (.int (j:Int))]=_
 simp only [Zf5,Zi,ZlJ,ZgP,ZN,ZM,hin,rdQ,ZJ,List.getElem?_cons_zero,Option.bind,Option.map,q1,hc,hf]
def upA:List (List At)→At→Nat→At
 | [],_,_=>.non
 | l::ls,a,j=>if hd0 l=a then l.getD j .non else upA ls a j
theorem ZlP:∀ {ls:List (List At)} {l:List At},(ls.map hd0).Nodup→l∈ls→∀ j,upA ls (hd0 l) j=l.getD j .non
 | m::ls,l,hnd,hm,j=>by
  unfold upA
  rcases List.mem_cons.mp hm with rfl | hm
  ·rw [if_pos rfl]
  ·rw [List.map_cons,List.nodup_cons] at hnd
   rw [if_neg (show ¬ hd0 m=hd0 l from fun e=>hnd.1 (by rw [e];exact List.mem_map_of_mem hm))]
   exact ZlP hnd.2 hm j
theorem Zm9 {ls:List (List At)} (hL:Lad ls) {a:At} (ha:a∈ls.map hd0) (j:Nat):Za4 (.lst (ZI (lfK ls j)) true) (aD a)=some (aD (upA ls a j)):=by
 obtain ⟨l,hm,rfl⟩:=List.mem_map.mp ha
 rw [ZlP hL.nd hm]
 exact Zn3 (by rw [List.map_map];exact hL.nd) (List.mem_map.mpr ⟨l,hm,rfl⟩)
theorem ZsJ {ls:List (List At)} {a:At} (ha:a∈ls.map hd0) (j:Nat):Zb8 false (aD a) (.lst (ZI (lfK ls j)) true)=some (.bl true):=by
 unfold lfK
 rw [ZpM,List.map_map,show (List.map ((fun x=>x.1)∘fun l=>(hd0 l,aD (l.getD j At.non))) ls)=ls.map hd0 from rfl,decide_eq_true ha];rfl
theorem Zsv {ls:List (List At)} (hL:Lad ls) {a:At} (ha:a∈ls.map hd0) (j:Nat):F_up [.val (ldD ls),.val (aD a),.val (.int (j:Int))]=some (.val (aD (upA ls a j))):=by
 have hlift:=ZiX hL j
 have hg:=Zm9 hL ha j
 unfold ldD at *
 generalize lfK ls j=KV at *
 generalize ls.map lnD=L at *
 refine Zal rfl ?_
 show ZkY [.val (.lst L),.val (aD a),.val (.int (j:Int))]=_
 simp only [ZkY,Zi,ZQ,Ze,Zr,Zb,Zk,rdA,rdP,List.getElem?_cons_succ,List.getElem?_cons_zero,Option.bind,Option.map,hlift,Zf8,hg]
theorem ZgE (s0:Sl) (a:At) (j:Nat):∀ (ls:List (List At)) (s3:Sl),a∈ls.map hd0→(∀ l∈ls,l≠[]∧l.length≤4∧j≤l.length)→ZY (Zm 3) Zb3 (ls.map lnD) [s0,.val (aD a),.val (.int (j:Int)),s3]=.ret (.val (aD (upA ls a j)))
 | [],_,h,_=>nomatch h
 | l::ls,s3,h,hn=>by
  obtain ⟨h1,h2,h3⟩:=hn l List.mem_cons_self
  have e1:=ZoF l h1
  have e2:=ZrF (hd0 l) a
  have hsh:Zo (some [D.non])=some [D.non]:=ZK _ (by simp)
  simp only [List.map_cons,ZY,Zm,List.set_cons_succ,List.set_cons_zero]
  by_cases hx:hd0 l=a
  ·have e3:Zx (lnD l) (.tup [.non])=some (lnD (l++[.non])):=by
    unfold lnD
    rw [Zi9 _ _ (by simp;omega)]
    simp [aD]
   have e4:ixD (lnD (l++[.non])) (.int (j:Int))=some (aD (l.getD j .non)):=by
    show atI ((l++[At.non]).map aD) (j:Int)=_
    refine Za1 ?_
    rw [List.getElem?_map]
    by_cases hj:j<l.length
    ·rw [List.getElem?_append_left hj,List.getElem?_eq_getElem hj]
     simp [List.getD,hj]
    ·have:j=l.length:=by omega
     subst this
     simp [List.getD]
   have hb:Zb3 [s0,.val (aD a),.val (.int (j:Int)),.val (lnD l)]=.ret (.val (aD (l.getD j .non))):=by
    rw [hx,decide_eq_true rfl] at e2
    simp only [Zb3,Zi,Zaa,asB,Ze,rdP,ZQ,Zb,Zk,Zw,List.getElem?_cons_succ,List.getElem?_cons_zero,Option.bind,Option.map,e1,hx,e2,hsh,e3,e4]
   rw [hb]
   unfold upA
   rw [if_pos hx]
  ·have hb:Zb3 [s0,.val (aD a),.val (.int (j:Int)),.val (lnD l)]=.next [s0,.val (aD a),.val (.int (j:Int)),.val (lnD l)]:=by
    rw [decide_eq_false hx] at e2
    simp only [Zb3,Zi,Zaa,asB,Ze,rdP,List.getElem?_cons_succ,List.getElem?_cons_zero,Option.bind,Option.map,e1,e2]
   rw [hb]
   unfold upA
   rw [if_neg hx]
   refine ZgE s0 a j ls _ ?_ fun m hm=>hn m (List.mem_cons_of_mem _ hm)
   rcases List.mem_cons.mp h with e | e
   ·exact absurd e.symm hx
   ·exact e
theorem Zmj {ls:List (List At)} (hL:Lad ls) {a:At} (ha:a∈ls.map hd0) (j:Nat) (hj:∀ l∈ls,j≤l.length):F_law_up [.val (ldD ls),.val (aD a),.val (.int (j:Int))]=some (.val (aD (upA ls a j))):=by
 have hr:=ZgE (.val (ldD ls)) a j ls .no ha fun l hl=>⟨hL.some l hl,hL.four l hl,hj l hl⟩
 refine Zal rfl ?_
 show ZeR [.val (ldD ls),.val (aD a),.val (.int (j:Int)),.no]=_
 unfold ldD at *
 generalize ls.map lnD=L at *
 simp only [ZeR,Zi,Zaw,rdQ,ZJ,List.getElem?_cons_zero,Option.bind,hr]
theorem Zdo {α:Type} {e:VE→Option D} (r:VE) (G:α→D):∀ (xs:List α) (k:Nat) (ys:List D),xs.length=ys.length→(∀ (i:Nat) (x:α) (y:D),xs[i]?=some x→ys[i]?=some y→e (.val (.int ((k+i:Nat):Int))::.val (G x)::r)=some y)→ZaF (Z8 2 (Zu (Zm 0) (Zu (Zm 1) Z9))) (fun _=>some true) e (.no::.no::r) (Zaj k (xs.map G))=some ys
 | [],_,[],_,_=>rfl
 | [],_,_::_,h,_=>by simp at h
 | _::_,_,[],h,_=>by simp at h
 | x::xs,k,y::ys,hl,h=>by
  have ih:=Zdo (e:=e) r G xs (k+1) ys (by simpa using hl) fun i a b ha hb=>by
   have:=h (i+1) a b (by simpa using ha) (by simpa using hb)
   rw [show k+(i+1)=k+1+i by omega] at this
   exact this
  have h0:=h 0 x y rfl rfl
  rw [Nat.add_zero] at h0
  simp only [List.map_cons,Zaj,ZaF,Z8,Zu,Zm,Z9,List.length_cons,List.length_nil,if_true,List.set_cons_succ,List.set_cons_zero,Option.bind,ih,h0,Zb]
inductive Axs:List (List (List At))→List Nat→Prop where
 | nil:Axs [] []
 | cons {ls Ls j g}:Lad ls→(∀ l∈ls,j≤l.length)→Axs Ls g→Axs (ls::Ls) (j::g)
inductive Spot:List (List (List At))→List At→Prop where
 | nil:Spot [] []
 | cons {ls Ls a as}:a∈ls.map hd0→Spot Ls as→Spot (ls::Ls) (a::as)
def ZaD:List (List (List At))→List At→List Nat→List At
 | ls::Ls,a::as,j::g=>upA ls a j::ZaD Ls as g
 | _,_,_=>[]
def wyL:List (List (List At))→List Nat→List D
 | ls::Ls,j::g=>.lst (ZI (lfK ls j)) true::wyL Ls g
 | _,_=>[]
def grD (g:List Nat):D:=.tup (g.map fun (j:Nat)=>D.int (j:Int))
theorem Axs.len {Ls:List (List (List At))} {g:List Nat} (h:Axs Ls g):g.length=Ls.length:=by
 induction h with
 | nil=>rfl
 | cons _ _ _ ih=>simp [ih]
theorem Spot.len {Ls:List (List (List At))} {s:List At} (h:Spot Ls s):s.length=Ls.length:=by
 induction h with
 | nil=>rfl
 | cons _ _ ih=>simp [ih]
theorem Zg9 {Ls:List (List (List At))} {g:List Nat} (h:Axs Ls g):(wyL Ls g).length=Ls.length:=by
 induction h with
 | nil=>rfl
 | cons _ _ _ ih=>simp [wyL,ih]
theorem Zgk {Ls:List (List (List At))} {g:List Nat} {s:List At} (h:Axs Ls g) (hs:Spot Ls s):(ZaD Ls s g).length=Ls.length:=by
 induction h generalizing s with
 | nil=>cases hs;rfl
 | cons _ _ _ ih =>
  cases hs with
  | cons _ t=>simp [ZaD,ih t]
theorem Zo6 {Ls:List (List (List At))} {g:List Nat} {s:List At} (h:Axs Ls g) (hs:Spot Ls s):∀ (i:Nat) (ls:List (List At)),Ls[i]?=some ls→∃ (a:At) (j:Nat),s[i]?=some a∧g[i]?=some j∧Lad ls∧a∈ls.map hd0∧(∀ l∈ls,j≤l.length)∧(ZaD Ls s g)[i]?=some (upA ls a j):=by
 induction h generalizing s with
 | nil=>intro i ls e;simp at e
 | @cons ls Ls j g h1 h2 h3 ih =>
  cases hs with
  | @cons _ _ a as t1 t2 =>
  intro i ls' e
  cases i with
  | zero =>
   simp at e;subst e
   exact ⟨a,j,rfl,rfl,h1,t1,h2,rfl⟩
  | succ i=>exact ih t2 i ls' (by simpa using e)
theorem ZpI {Ls:List (List (List At))} {g:List Nat} (h:Axs Ls g):∀ (i:Nat) (ls:List (List At)),Ls[i]?=some ls→∃ j:Nat,g[i]?=some j∧Lad ls∧(wyL Ls g)[i]?=some (D.lst (ZI (lfK ls j)) true):=by
 induction h with
 | nil=>intro i ls e;simp at e
 | @cons ls Ls j g h1 h2 h3 ih =>
  intro i ls' e
  cases i with
  | zero =>
   simp at e;subst e
   exact ⟨j,rfl,h1,rfl⟩
  | succ i=>exact ih i ls' (by simpa using e)
theorem Zot {g:List Nat} {i j:Nat} (h:g[i]?=some j):ixD (grD g) (.int (i:Int))=some (.int (j:Int)):=by
 show atI (g.map fun (j:Nat)=>D.int (j:Int)) (i:Int)=_
 exact Za1 (by simp [h])
theorem ZsU {s:List At} {i:Nat} {a:At} (h:s[i]?=some a):ixD (lnD s) (.int (i:Int))=some (aD a):=by
 show atI (s.map aD) (i:Int)=_
 exact Za1 (by simp [h])
theorem ZmS (Ls:List (List (List At))) (hz:Ls.length≤4):F_finest [.val (.lst (Ls.map ldD))]=some (.val (.tup (Ls.map fun _=>D.int 0))):=by
 have hc:=ZaA (b:=Zm 0) (e:=ZgN) (ρ:=[.no]) ldD (fun _=>D.int 0) Ls fun l _=>⟨[.val (ldD l)],rfl,rfl⟩
 have q1:Zo (some (Ls.map ldD))=some (Ls.map ldD):=ZK _ (by simp;omega)
 generalize Ls.map ldD=L at *
 refine Zal rfl ?_
 show Ze7 [.val (.lst L)]=_
 have hin:ZU 1 [] [.val (.lst L)]=[.no]:=rfl
 simp only [Ze7,Zi,ZQ,ZH,Zbp,pks,pk,Zb,Zk,ZN,ZM,hin,rdQ,ZJ,List.getElem?_cons_zero,Option.bind,Option.map,q1,hc]
theorem ZlM {Ls:List (List (List At))} {g:List Nat} (h:Axs Ls g) (hz:Ls.length≤4):F_ways_up [.val (.lst (Ls.map ldD)),.val (.tup (Ls.map fun _=>D.int 0)),.val (grD g)]=some (.own (wyL Ls g)):=by
 have hc:=Zdo (e:=Zeg) [.val (.tup (Ls.map fun _=>D.int 0)),.val (grD g)] ldD Ls 0 (wyL Ls g) (Zg9 h).symm fun i ls y e1 e2=>by
  obtain ⟨j,g1,hL,w1⟩:=ZpI h i ls e1
  rw [w1] at e2;cases e2
  have a1:=Zot g1
  have a2:ixD (.tup (Ls.map fun _=>D.int 0)) (.int (i:Int))=some (.int 0):=by
   show atI (Ls.map fun _=>D.int 0) (i:Int)=_
   exact Za1 (by simp [e1])
  have a3:=ZiX hL j
  rw [Nat.zero_add]
  simp only [Zeg,Zr,Ze,Zb,Zk,rdA,rdP,List.getElem?_cons_succ,List.getElem?_cons_zero,Option.bind,Option.map,a1,a2,a3,Zf8]
 have q1:Zo (some (Zaj 0 (Ls.map ldD)))=some (Zaj 0 (Ls.map ldD)):=ZK _ (by rw [Zcn];simp;omega)
 generalize Ls.map ldD=L at *
 generalize (Ls.map fun _=>D.int 0)=Z at *
 refine Zal rfl ?_
 show Zd2 [.val (.lst L),.val (.tup Z),.val (grD g)]=_
 have hin:ZU 2 [1,2] [.val (.lst L),.val (.tup Z),.val (grD g)]=[.no,.no,.val (.tup Z),.val (grD g)]:=rfl
 simp only [Zd2,Zi,ZaZ,ZM,ZbI,Zan,hin,rdQ,List.getElem?_cons_zero,Option.bind,Option.map,q1,hc]
theorem Zme {Ls:List (List (List At))} {g:List Nat} {s:List At} (h:Axs Ls g) (hs:Spot Ls s) (hz:Ls.length≤4):F_key_at [.val (.lst (Ls.map ldD)),.val (lnD s),.val (grD g)]=some (.val (lnD (ZaD Ls s g))):=by
 have hc:=Zdo (e:=ZeT) [.val (lnD s),.val (grD g)] ldD Ls 0 ((ZaD Ls s g).map aD) (by rw [List.length_map,Zgk h hs]) fun i ls y e1 e2=>by
  obtain ⟨a,j,b1,b2,hL,b3,b4,b5⟩:=Zo6 h hs i ls e1
  rw [List.getElem?_map,b5] at e2;cases e2
  have a1:=Zot b2
  have a2:=ZsU b1
  have a3:=Zsv hL b3 j
  rw [Nat.zero_add]
  simp only [ZeT,Zr,Ze,Zb,Zk,rdA,rdP,List.getElem?_cons_succ,List.getElem?_cons_zero,Option.bind,Option.map,a1,a2,a3,Za7]
 have q1:Zo (some (Zaj 0 (Ls.map ldD)))=some (Zaj 0 (Ls.map ldD)):=ZK _ (by rw [Zcn];simp;omega)
 generalize Ls.map ldD=L at *
 refine Zal rfl ?_
 show Ze2 [.val (.lst L),.val (lnD s),.val (grD g)]=_
 have hin:ZU 2 [1,2] [.val (.lst L),.val (lnD s),.val (grD g)]=[.no,.no,.val (lnD s),.val (grD g)]:=rfl
 simp only [Ze2,Zi,ZQ,ZH,Zbp,pks,pk,Zb,Zk,ZN,ZM,ZbI,Zan,hin,rdQ,List.getElem?_cons_zero,Option.bind,Option.map,q1,hc]
 rfl
theorem Zjx {Ls:List (List (List At))} {g:List Nat} {s:List At} (h:Axs Ls g) (hs:Spot Ls s):ZaF (Z8 3 (Zu (Zm 0) (Zu (Zm 1) (Zu (Zm 2) Z9)))) (fun _=>some true) ZbT [.no,.no,.no] (List.zipWith (fun x y=>D.tup [x,y.1,y.2]) (Ls.map ldD) ((s.map aD).zip (g.map fun (j:Nat)=>D.int (j:Int))))=some ((ZaD Ls s g).map aD):=by
 induction h generalizing s with
 | nil=>cases hs;rfl
 | @cons ls Ls j g h1 h2 h3 ih =>
  cases hs with
  | @cons _ _ a as t1 t2 =>
  have e1:ZbT [.val (ldD ls),.val (aD a),.val (.int (j:Int))]=some (aD (upA ls a j)):=by
   have:=Zmj h1 t1 j h2
   simp only [ZbT,Zr,Zb,rdA,List.getElem?_cons_succ,List.getElem?_cons_zero,Option.bind,Option.map,this,Za7]
  have ih:=ih t2
  simp only [List.map_cons,List.zip_cons_cons,List.zipWith_cons_cons,ZaF,Z8,Zu,Zm,Z9,List.length_cons,List.length_nil,if_true,List.set_cons_succ,List.set_cons_zero,Option.bind,e1,ih,ZaD,Zb]
theorem Zfp {Ls:List (List (List At))} {g:List Nat} {s:List At} (h:Axs Ls g) (hs:Spot Ls s) (hz:Ls.length≤4):F_law_key_at [.val (.lst (Ls.map ldD)),.val (lnD s),.val (grD g)]=some (.val (lnD (ZaD Ls s g))):=by
 have hc:=Zjx h hs
 have q1:=ZK (List.zipWith (fun x y=>D.tup [x,y.1,y.2]) (Ls.map ldD) ((s.map aD).zip (g.map fun (j:Nat)=>D.int (j:Int)))) (by simp;omega)
 refine Zal rfl ?_
 unfold grD lnD
 generalize Ls.map ldD=L at *
 generalize (g.map fun (j:Nat)=>D.int (j:Int))=G at *
 generalize s.map aD=S at *
 show Zcy [.val (.lst L),.val (.tup S),.val (.tup G)]=_
 have hin:ZU 3 [] [.val (.lst L),.val (.tup S),.val (.tup G)]=[.no,.no,.no]:=rfl
 simp only [Zcy,Zi,ZQ,ZH,Zbp,pks,pk,Zb,Zk,ZN,ZM,Zh9,Zan,hin,rdQ,List.getElem?_cons_succ,List.getElem?_cons_zero,Option.bind,Option.map,q1,hc]
theorem Zmu {Ls:List (List (List At))} {g:List Nat} {s:List At} (h:Axs Ls g) (hs:Spot Ls s):ZaF (Z8 2 (Zu (Zm 0) (Zu (Zm 1) Z9))) (fun _=>some true) ZbU [.no,.no] (List.zipWith (fun x y=>D.tup [x,y]) (wyL Ls g) (s.map aD))=some ((Ls.map fun _=>true).map D.bl):=by
 induction h generalizing s with
 | nil=>cases hs;rfl
 | @cons ls Ls j g h1 h2 h3 ih =>
  cases hs with
  | @cons _ _ a as t1 t2 =>
  have e1:ZbU [.val (.lst (ZI (lfK ls j)) true),.val (aD a)]=some (.bl true):=by
   have:=ZsJ t1 j
   simp only [ZbU,Ze,rdP,List.getElem?_cons_succ,List.getElem?_cons_zero,Option.bind,Option.map,this]
  have ih:=ih t2
  simp only [wyL,List.map_cons,List.zipWith_cons_cons,ZaF,Z8,Zu,Zm,Z9,List.length_cons,List.length_nil,if_true,List.set_cons_succ,List.set_cons_zero,Option.bind,e1,ih,Zb]
theorem Zk9 {Ls:List (List (List At))} {g:List Nat} {s:List At} (h:Axs Ls g) (hs:Spot Ls s):ZaF (Z8 2 (Zu (Zm 0) (Zu (Zm 1) Z9))) (fun _=>some true) ZaR [.no,.no] (List.zipWith (fun x y=>D.tup [x,y]) (wyL Ls g) (s.map aD))=some ((ZaD Ls s g).map aD):=by
 induction h generalizing s with
 | nil=>cases hs;rfl
 | @cons ls Ls j g h1 h2 h3 ih =>
  cases hs with
  | @cons _ _ a as t1 t2 =>
  have e1:ZaR [.val (.lst (ZI (lfK ls j)) true),.val (aD a)]=some (aD (upA ls a j)):=by
   have:=Zm9 h1 t1 j
   simp only [ZaR,Ze,rdP,List.getElem?_cons_succ,List.getElem?_cons_zero,Option.bind,Option.map,this]
  have ih:=ih t2
  simp only [wyL,ZaD,List.map_cons,List.zipWith_cons_cons,ZaF,Z8,Zu,Zm,Z9,List.length_cons,List.length_nil,if_true,List.set_cons_succ,List.set_cons_zero,Option.bind,e1,ih,Zb]
theorem Zh6 {Ls:List (List (List At))} {g:List Nat} {s:List At} (h:Axs Ls g) (hs:Spot Ls s) (hz:Ls.length≤4):F_goes_along [.val (.lst (wyL Ls g)),.val (lnD s)]=some (.val (.bl true)):=by
 have hc:=Zmu h hs
 have ha:=Zni Ls
 have q1:=ZK (List.zipWith (fun x y=>D.tup [x,y]) (wyL Ls g) (s.map aD)) (by simp [Zg9 h];omega)
 refine Zal rfl ?_
 unfold lnD
 generalize wyL Ls g=L at *
 generalize s.map aD=S at *
 generalize (Ls.map fun _=>true).map D.bl=B at *
 show Zcz [.val (.lst L),.val (.tup S)]=_
 have hin:ZU 2 [] [.val (.lst L),.val (.tup S)]=[.no,.no]:=rfl
 simp only [Zcz,Zi,ZQ,ZH,pks,pk,Zb,Zk,ZN,ZM,ZfI,Zan,hin,rdQ,List.getElem?_cons_succ,List.getElem?_cons_zero,Option.bind,Option.map,q1,hc,ha]
structure Ends (as:List Int) (m M:Int):Prop where
 m1:m∈as
 m2:∀ a∈as,m≤a
 M1:M∈as
 M2:∀ a∈as,a≤M
theorem Ends.uniq {as:List Int} {m M m' M':Int} (h:Ends as m M) (h':Ends as m' M'):m=m'∧M=M':=by
 have a1:=h.m2 _ h'.m1
 have a2:=h'.m2 _ h.m1
 have a3:=h.M2 _ h'.M1
 have a4:=h'.M2 _ h.M1
 omega
theorem Ends.ex (as:List Int) (h:as≠[]):∃ m M,(ZcB as)[0]?=some m∧(ZcB as)[as.length-1]?=some M∧Ends as m M:=by
 have hl:=Zgt as
 have hp:=ZdR as
 have hs:=Zhu as
 have h0:0<as.length:=List.length_pos_iff.mpr h
 refine ⟨(ZcB as)[0]'(by omega),(ZcB as)[as.length-1]'(by omega),by rw [List.getElem?_eq_getElem],by rw [List.getElem?_eq_getElem],?_,?_,?_,?_⟩
 ·exact hp.mem_iff.mp (List.getElem_mem _)
 ·intro a ha
  obtain ⟨i,hi,e⟩:=List.getElem_of_mem (hp.mem_iff.mpr ha)
  subst e
  rcases Nat.eq_zero_or_pos i with h | h
  ·subst h;omega
  ·exact List.pairwise_iff_getElem.mp hs 0 i (by omega) hi h
 ·exact hp.mem_iff.mp (List.getElem_mem _)
 ·intro a ha
  obtain ⟨i,hi,e⟩:=List.getElem_of_mem (hp.mem_iff.mpr ha)
  subst e
  by_cases h:i=as.length-1
  ·subst h;omega
  ·exact List.pairwise_iff_getElem.mp hs i (as.length-1) hi (by omega) (by omega)
abbrev Ent:=List At×Int×List Int
def ZF (acc:List Ent):List (List At):=acc.map (·.1)
def Z4:List Ent→List At→Option (Int×List Int)
 | [],_=>none
 | e::r,k=>if e.1=k then some e.2 else Z4 r k
def Zaf:List Ent→List At→Int→List Ent
 | [],k,x=>[(k,x,[])]
 | e::r,k,x=>if e.1=k then (e.1,e.2.1,e.2.2++[x])::r else e::Zaf r k x
def ZX (v:Int×List Int→D) (e:Ent):KT×D:=(.tup e.1,v e.2)
theorem lookA_none {k:List At}:∀ {acc:List Ent},Z4 acc k=none↔k∉ZF acc
 | []=>by simp [Z4,ZF]
 | e::r=>by
  have ih:=lookA_none (k:=k) (acc:=r)
  unfold Z4
  by_cases h:e.1=k
  ·rw [if_pos h];simp [ZF,h]
  ·rw [if_neg h,ih];simp [ZF,Ne.symm h]
theorem ZcM (v:Int×List Int→D) (k:List At):∀ acc:List Ent,ZO (acc.map (ZX v)) (.tup k)=(Z4 acc k).map v
 | []=>rfl
 | e::r=>by
  have ih:=ZcM v k r
  simp only [List.map_cons,ZO,Z4,ZX,KT.tup.injEq]
  by_cases h:e.1=k
  ·rw [if_pos h,if_pos h];rfl
  ·rw [if_neg h,if_neg h];exact ih
theorem Zjo {k:KT} {w:D}:∀ {kvs:KDs},ZO kvs k=none→Zb6 kvs k w=kvs
 | [],_=>rfl
 | p::r,h=>by
  unfold ZO at h
  by_cases e:p.1=k
  ·rw [if_pos e] at h;cases h
  ·rw [if_neg e] at h
   unfold Zb6
   rw [if_neg e,Zjo h]
theorem Zj6 (v:Int×List Int→D) {k:List At} {x:Int} {p:Int×List Int}:∀ {acc:List Ent},(ZF acc).Nodup→Z4 acc k=some p→Zb6 (acc.map (ZX v)) (.tup k) (v (p.1,p.2++[x]))=(Zaf acc k x).map (ZX v)
 | e::r,hn,h=>by
  simp only [ZF,List.map_cons,List.nodup_cons] at hn
  unfold Z4 at h
  by_cases c:e.1=k
  ·rw [if_pos c] at h;cases h
   have hr:ZO (r.map (ZX v)) (.tup k)=none:=by
    rw [ZcM,lookA_none.mpr (c ▸ hn.1)];rfl
   simp only [List.map_cons,Zb6,Zaf,ZX,c,if_true,Zjo hr,KT.tup.injEq]
  ·rw [if_neg c] at h
   have ih:=Zj6 v (x:=x) hn.2 h
   simp only [List.map_cons,Zb6,Zaf,ZX,c,if_false,KT.tup.injEq]
   rw [ih]
theorem Zkt {k:List At} {x:Int}:∀ {acc:List Ent},Z4 acc k=none→Zaf acc k x=acc++[(k,x,[])]
 | [],_=>rfl
 | e::r,h=>by
  unfold Z4 at h
  by_cases c:e.1=k
  ·rw [if_pos c] at h;cases h
  ·rw [if_neg c] at h
   unfold Zaf
   rw [if_neg c,Zkt h];rfl
theorem ZkD (v:Int×List Int→D) {k:List At} {x:Int} {p:Int×List Int} {acc:List Ent} (hn:(ZF acc).Nodup) (h:Z4 acc k=some p):Zav (acc.map (ZX v)) (.tup k) (v (p.1,p.2++[x]))=(Zaf acc k x).map (ZX v):=by
 unfold Zav
 rw [ZcM,h]
 exact Zj6 v hn h
theorem Zkk (v:Int×List Int→D) {k:List At} {x:Int} {acc:List Ent} (h:Z4 acc k=none):Zav (acc.map (ZX v)) (.tup k) (v (x,[]))=(Zaf acc k x).map (ZX v):=by
 unfold Zav
 rw [ZcM,h,Zkt h]
 simp [ZX]
theorem Zgi (k:List At) (x:Int):∀ acc:List Ent,ZF (Zaf acc k x)=if k∈ZF acc then ZF acc else ZF acc++[k]
 | []=>rfl
 | e::r=>by
  have ih:=Zgi k x r
  unfold Zaf
  by_cases c:e.1=k
  ·rw [if_pos c];simp [ZF,c]
  ·rw [if_neg c]
   have:ZF (e::Zaf r k x)=e.1::ZF (Zaf r k x):=rfl
   have hke:ZF (e::r)=e.1::ZF r:=rfl
   rw [this,ih,hke]
   by_cases m:k∈ZF r
   ·rw [if_pos m,if_pos (List.mem_cons_of_mem _ m)]
   ·rw [if_neg m,if_neg (by simp [ZF,Ne.symm c] at m ⊢;exact m)];rfl
theorem ZmD {k:List At} {x:Int} {acc:List Ent} (h:(ZF acc).Nodup):(ZF (Zaf acc k x)).Nodup:=by
 rw [Zgi]
 split
 ·exact h
 ·next m=>exact List.nodup_append.mpr ⟨h,by simp,fun a ha b hb=>by simp at hb;subst hb;exact fun e=>m (e ▸ ha)⟩
theorem Zj4 (k:List At) (x:Int):∀ acc:List Ent,(Zaf acc k x).length≤acc.length+1
 | []=>by simp [Zaf]
 | e::r=>by
  have:=Zj4 k x r
  unfold Zaf
  split<;>simp<;>omega
theorem Zpa {k k':List At} {x:Int} {acc:List Ent} (h:k'∈ZF (Zaf acc k x)):k'=k∨k'∈ZF acc:=by
 rw [Zgi] at h
 split at h
 ·exact .inr h
 ·rcases List.mem_append.mp h with h | h
  ·exact .inr h
  ·simp at h;exact .inl h
def szA:List Ent→Nat
 | []=>0
 | e::r=>e.2.2.length+1+szA r
theorem ZmU (k:List At) (x:Int):∀ acc:List Ent,szA (Zaf acc k x)=szA acc+1
 | []=>rfl
 | e::r=>by
  have:=ZmU k x r
  unfold Zaf
  split<;>simp [szA]<;>omega
theorem Zhl {k:List At} {p:Int×List Int}:∀ {acc:List Ent},Z4 acc k=some p→p.2.length+1≤szA acc
 | e::r,h=>by
  unfold Z4 at h
  simp only [szA]
  split at h
  ·cases h;omega
  ·have:=Zhl h;omega
theorem Zhd (v:Int×List Int→D) (k:List At) (acc:List Ent):Zbs (.tup k) (acc.map (ZX v))=true:=ZnY k fun p hp=>by
 obtain ⟨e,_,rfl⟩:=List.mem_map.mp hp
 rfl
theorem Zjp (l:List At):okK (lnD l)=some (.tup l):=Zir (.tup l)
abbrev vL (p:Int×List Int):D:=.lst ((p.1::p.2).map D.int)
abbrev vC (p:Int×List Int):D:=cel p.1 p.2
abbrev dcS (v:Int×List Int→D) (acc:List Ent):Sl:=.own (ZI (acc.map (ZX v))) true
def Zak (r:List At×Int):D:=.tup [lnD r.1,.int r.2]
def Zck (Ls:List (List (List At))) (g:List Nat) (rows:List (List At×Int)) (acc:List Ent):List Ent:=rows.foldl (fun acc r=>Zaf acc (ZaD Ls r.1 g) r.2) acc
structure AccOk (acc:List Ent) (n m:Nat):Prop where
 nd:(ZF acc).Nodup
 len:acc.length≤m
 sz:szA acc≤m
 kl:∀ k∈ZF acc,k.length=n
theorem AccOk.add {acc:List Ent} {n m:Nat} (h:AccOk acc n m) {k:List At} (hk:k.length=n) (x:Int):AccOk (Zaf acc k x) n (m+1) :=
 ⟨ZmD h.nd,by have:=Zj4 k x acc;have:=h.len;omega,by rw [ZmU];have:=h.sz;omega,fun k' hk'=>by
  rcases Zpa hk' with rfl | h'
  ·exact hk
  ·exact h.kl _ h'⟩
theorem Zif {Ls:List (List (List At))} {g:List Nat} {s:List At} (h:Axs Ls g) (hs:Spot Ls s) (hz:Ls.length≤4) (s1 s6:Sl) (x:Int) {acc:List Ent} {n m:Nat} (ha:AccOk acc n m) (hm:m<1000) :
  Zby [.val (.lst (Ls.map ldD)),s1,.val (grD g),dcS vL acc,.val (lnD s),.val (.int x),s6]=.next [.val (.lst (Ls.map ldD)),s1,.val (grD g),dcS vL (Zaf acc (ZaD Ls s g) x),.val (lnD s),.val (.int x),.val (lnD (ZaD Ls s g))]:=by
 have hk:=Zfp h hs hz
 generalize ZaD Ls s g=k at *
 have hok:=Zjp k
 have hom:=Zhd vL k acc
 have hval:=ZcM vL k acc
 have hlen:(acc.map (ZX vL)).length<sizeLine:=by rw [List.length_map];exact Nat.lt_of_le_of_lt ha.len (Nat.lt_of_lt_of_le hm (by decide))
 have hun:=ZeP (acc.map (ZX vL))
 have hsh:Zo (some [D.int x])=some [D.int x]:=ZK _ (by simp)
 have hsh0:Zo (some ([]:List D))=some []:=rfl
 have key:∀ d,Zx ((ZO (acc.map (ZX vL)) (.tup k)).getD (.lst [])) (.lst [.int x])=some d→Zav (acc.map (ZX vL)) (.tup k) d=(Zaf acc k x).map (ZX vL)→Zby [.val (.lst (Ls.map ldD)),s1,.val (grD g),dcS vL acc,.val (lnD s),.val (.int x),s6]=.next [.val (.lst (Ls.map ldD)),s1,.val (grD g),dcS vL (Zaf acc k x),.val (lnD s),.val (.int x),.val (lnD k)]:=by
  intro d e1 e2
  unfold dcS
  generalize acc.map (ZX vL)=KV at *
  generalize (Zaf acc k x).map (ZX vL)=KV' at *
  simp only [Zby,Zi,ZL,Zr,Zb,Zk,ZN,Zw,rdA,rdP,rdV,rdG,Ze,dgF,Zfb,List.getElem?_cons_succ,List.getElem?_cons_zero,Option.bind,Option.map,List.set_cons_succ,List.set_cons_zero,hk,Za7,hun,hok,hom,hsh,hsh0,if_true,e1,e2,Bool.true_and,decide_eq_true hlen]
 cases hl:Z4 acc k with
 | none =>
  refine key (vL (x,[])) ?_ (Zkk vL hl)
  rw [hval,hl]
  rfl
 | some p =>
  refine key (vL (p.1,p.2++[x])) ?_ (ZkD vL ha.nd hl)
  rw [hval,hl]
  have:=Zhl hl
  have:=ha.sz
  show Zx (.lst ((p.1::p.2).map D.int)) (.lst [.int x])=_
  rw [Zji _ _ (by simp;omega)]
  simp
theorem Zfo {Ls:List (List (List At))} {g:List Nat} (h:Axs Ls g) (hz:Ls.length≤4) (s1:Sl):∀ (rows:List (List At×Int)) (acc:List Ent) (m:Nat) (s4 s5 s6:Sl),(∀ r∈rows,Spot Ls r.1)→AccOk acc Ls.length m→m+rows.length<1000 →
  AccOk (Zck Ls g rows acc) Ls.length (m+rows.length)∧∃ s4' s5' s6',ZY (Z8 2 (Zu (Zm 4) (Zu (Zm 5) Z9))) Zby (rows.map Zak) [.val (.lst (Ls.map ldD)),s1,.val (grD g),dcS vL acc,s4,s5,s6]=.next [.val (.lst (Ls.map ldD)),s1,.val (grD g),dcS vL (Zck Ls g rows acc),s4',s5',s6']
 | [],acc,m,s4,s5,s6,_,ha,_=>⟨ha,s4,s5,s6,rfl⟩
 | r::rows,acc,m,s4,s5,s6,hr,ha,hm=>by
  simp only [List.length_cons] at hm
  have hs:=hr r List.mem_cons_self
  have e1:=Zif h hs hz s1 s6 r.2 ha (by omega)
  obtain ⟨ok,a,b,c,e2⟩:=Zfo h hz s1 rows (Zaf acc (ZaD Ls r.1 g) r.2) (m+1) (.val (lnD r.1)) (.val (.int r.2)) (.val (lnD (ZaD Ls r.1 g))) (fun q hq=>hr q (List.mem_cons_of_mem _ hq)) (ha.add (Zgk h hs) r.2) (by omega)
  refine ⟨by rw [List.length_cons,show m+(rows.length+1)=m+1+rows.length by omega];exact ok,a,b,c,?_⟩
  simp only [List.map_cons,Zak,ZY,Z8,Zu,Zm,Z9,List.length_cons,List.length_nil,if_true,List.set_cons_succ,List.set_cons_zero,Option.bind]
  rw [e1]
  exact e2
theorem Zmn (x:Int):∀ xs:List Int,Ends (x::xs) (xs.foldl mn x) (xs.foldl mx x):=by
 intro xs
 induction xs generalizing x with
 | nil=>exact ⟨by simp,by simp,by simp,by simp⟩
 | cons y ys ih =>
  have a:=ih (mn x y)
  have b:=ih (mx x y)
  have c1:=ZoH x y
  have c2:=ZoG x y
  simp only [List.foldl_cons]
  refine ⟨?_,fun z hz=>?_,?_,fun z hz=>?_⟩
  ·rcases List.mem_cons.mp a.m1 with e | e
   ·rw [e,c1]
    rcases Int.le_total x y with z | z
    ·rw [show min x y=x by omega];simp
    ·rw [show min x y=y by omega];simp
   ·exact List.mem_cons_of_mem _ (List.mem_cons_of_mem _ e)
  ·have h1:=a.m2 (mn x y) List.mem_cons_self
   rcases List.mem_cons.mp hz with rfl | hz
   ·omega
   ·rcases List.mem_cons.mp hz with rfl | hz
    ·omega
    ·exact a.m2 z (List.mem_cons_of_mem _ hz)
  ·rcases List.mem_cons.mp b.M1 with e | e
   ·rw [e,c2]
    rcases Int.le_total x y with z | z
    ·rw [show max x y=y by omega];simp
    ·rw [show max x y=x by omega];simp
   ·exact List.mem_cons_of_mem _ (List.mem_cons_of_mem _ e)
  ·have h1:=b.M2 (mx x y) List.mem_cons_self
   rcases List.mem_cons.mp hz with rfl | hz
   ·omega
   ·rcases List.mem_cons.mp hz with rfl | hz
    ·omega
    ·exact b.M2 z (List.mem_cons_of_mem _ hz)
theorem Zhc (x:Int) (xs:List Int) (h64:xs.length+1<64):F_law_cell_of [.val (vL (x,xs))]=some (.val (cel x xs)):=by
 obtain ⟨m',M',e1,e2,he'⟩:=Ends.ex (x::xs) (by simp)
 obtain ⟨hm,hM⟩:=(Zmn x xs).uniq he'
 have hl:=Zgt (x::xs)
 have hs:=Zom (ZdR (x::xs))
 have hsort:=ZnD (x::xs)
 rw [if_pos (by simpa using h64)] at hsort
 unfold vL cel
 rw [hm,hM]
 simp only [List.length_cons] at *
 generalize ZcB (x::xs)=W at *
 generalize (x::xs).sum=S at *
 generalize (x::xs).map D.int=V at *
 have k1:atI (W.map D.int) 0=some (.int m'):=by
  have:(W.map D.int)[0]?=some (D.int m'):=by rw [List.getElem?_map,e1];rfl
  exact Za1 this
 have k2:atI (W.map D.int) (-1)=some (.int M'):=by
  have e:ixN (W.map D.int).length (-1)=some xs.length:=by
   unfold ixN
   rw [List.length_map,hl,if_neg (by decide),if_pos (by omega)]
   congr 1;omega
  unfold atI
  rw [e]
  simpa using e2
 simp [F_law_cell_of,fnP,Zdd,hsort,hl,k1,k2,four,hs]
theorem ZmB {α:Type} {F:List Sl→Option Rv} (f:α→D) {lt:α→α→Bool} (T:TO lt) (b:Option Bool) (xs:List α) (few:xs.length<64) (ky:α→D) (tells:∀ a∈xs,∃ r,F [.val (f a)]=some r∧rvD r=ky a) (mode:∀ a∈xs,KMode b (ky a)) (cmp:∀ a∈xs,∀ c∈xs,ltN 6 (ky a) (ky c)=some (lt a c)):Zd8 F (xs.map f)=some ((Zbc lt xs).map f):=by
 have hk:∀ a∈xs,ZaU F (f a)=ky a:=fun a ha=>by
  obtain ⟨r,e1,e2⟩:=tells a ha
  unfold ZaU;rw [e1];exact e2
 have hl:∀ a∈xs,∀ c∈xs,ltF F (f a) (f c)=lt a c:=fun a ha c hc=>Zgr (by rw [hk a ha,hk c hc];exact cmp a ha c hc)
 have ok:SortOk F (xs.map f):={
  few:=by simpa using few
  tells:=fun x hx=>by obtain ⟨a,ha,rfl⟩:=List.mem_map.mp hx;obtain ⟨r,e1,_⟩:=tells a ha;exact ⟨_,e1⟩
  mode:=⟨b,fun x hx=>by obtain ⟨a,ha,rfl⟩:=List.mem_map.mp hx;rw [hk a ha];exact mode a ha⟩
  cmp:=fun x hx y hy=>by
   obtain ⟨a,ha,rfl⟩:=List.mem_map.mp hx
   obtain ⟨c,hc,rfl⟩:=List.mem_map.mp hy
   rw [hk a ha,hk c hc];exact ⟨_,cmp a ha c hc⟩
  asym:=fun x hx y hy h=>by
   obtain ⟨a,ha,rfl⟩:=List.mem_map.mp hx
   obtain ⟨c,hc,rfl⟩:=List.mem_map.mp hy
   rw [hl a ha c hc] at h;rw [hl c hc a ha];exact T.asym a c h
  neg:=fun x hx y hy z hz h=>by
   obtain ⟨a,ha,rfl⟩:=List.mem_map.mp hx
   obtain ⟨c,hc,rfl⟩:=List.mem_map.mp hy
   obtain ⟨e,he,rfl⟩:=List.mem_map.mp hz
   rw [hl a ha e he] at h;rw [hl a ha c hc,hl c hc e he];exact T.neg a c e h
  anti:=fun x hx y hy h1 h2=>by
   obtain ⟨a,ha,rfl⟩:=List.mem_map.mp hx
   obtain ⟨c,hc,rfl⟩:=List.mem_map.mp hy
   rw [hl a ha c hc] at h1;rw [hl c hc a ha] at h2;rw [T.anti a c h1 h2] }
 rw [Ziw ok,Zgp f lt _ xs hl]
theorem Zrs (a b:At):eqD (rk3 a) (rk3 b)=decide (a=b):=by
 cases a<;>cases b<;>simp [rk3]
theorem ZlT (n:Nat) (a:At):okD (n+1) (rk3 a)=true:=by cases a<;>cases n<;>rfl
theorem ZkM (n:Nat):∀ l m:List At,Zb5 (ltN (n+2)) (l.map rk3) (m.map rk3)=some (ltL l m)
 | [],[]=>rfl
 | [],_::_=>rfl
 | _::_,[]=>rfl
 | a::r,b::s=>by
  have ih:=ZkM n r s
  have h1:=ZlT 11 a
  have h2:=ZlT 11 b
  have h3:=Zrs a b
  have h4:=Zqn n a b
  simp only [List.map_cons,Zb5,ZeK,h1,h2,h3,h4,ih,ltL,Bool.and_self,if_true,decide_eq_true_eq]
  split<;>rfl
theorem ZgX (l:List At) (h:l.length≤1000):F_law_key_rank [.val (lnD l)]=some (.own (l.map rk3)):=by
 have hc:=ZaA (b:=Zm 0) (e:=Zci) (ρ:=[.no]) aD rk3 l fun a _=>⟨[.val (aD a)],rfl,by
  have:=ZjH a
  simp only [Zci,Zr,Zb,rdA,List.getElem?_cons_zero,Option.bind,this,Option.map,rvD]⟩
 have q1:=ZK (l.map aD) (by simp;omega)
 refine Zal rfl ?_
 unfold lnD
 generalize l.map aD=L at *
 show Zb2 [.val (.tup L)]=_
 have hin:ZU 1 [] [.val (.tup L)]=[.no]:=rfl
 simp only [Zb2,Zi,ZaZ,ZM,hin,rdQ,ZJ,List.getElem?_cons_zero,Option.bind,Option.map,q1,hc]
theorem ZhV (ls:List (List At)) (hl:ls.length<64) (hn:∀ l∈ls,l.length≤1000):Zd8 F_law_key_rank (ls.map lnD)=some ((Zbc ltL ls).map lnD) :=
 ZmB lnD Zq6 none ls hl (fun l=>.lst (l.map rk3)) (fun l h=>⟨_,ZgX l (hn l h),rfl⟩) (fun l _=>⟨_,rfl⟩) (fun l _ m _=>ZkM 3 l m)
def ZcD (acc:List Ent):List D:=(Zbc ltL (ZF acc)).map fun k=>.tup [lnD k,vC ((Z4 acc k).getD (0,[]))]
theorem ZiL {acc:List Ent} {k:List At} (h:k∈Zbc ltL (ZF acc)):∃ p,Z4 acc k=some p:=by
 have hm:=(Za6 ltL (ZF acc)).mem_iff.mp h
 cases hl:Z4 acc k with
 | some p=>exact ⟨p,rfl⟩
 | none=>exact absurd hm (lookA_none.mp hl)
theorem ZiJ (v:Int×List Int→D) (acc:List Ent):((acc.map (ZX v)).map fun p=>kD p.1)=(ZF acc).map lnD:=by
 unfold ZF
 rw [List.map_map,List.map_map];rfl
theorem Zhn (v:Int×List Int→D) {acc:List Ent} {k:List At} {p:Int×List Int} (h:Z4 acc k=some p):Za4 (.lst (ZI (acc.map (ZX v))) true) (lnD k)=some (v p):=by
 rw [ZgA,Zjp]
 show (if Zbs (.tup k) (acc.map (ZX v))=true then _ else _)=_
 rw [if_pos (Zhd v k acc),ZcM,h];rfl
theorem ZfM {Ls:List (List (List At))} {g:List Nat} (h:Axs Ls g) (hz:Ls.length≤4) (rows:List (List At×Int)) (hr:∀ r∈rows,Spot Ls r.1) (hl:rows.length<64):F_law_table [.val (.lst (Ls.map ldD)),.val (.lst (rows.map Zak)),.val (grD g)]=some (.own (ZcD (Zck Ls g rows [])))∧AccOk (Zck Ls g rows []) Ls.length rows.length:=by
 obtain ⟨ok,a,b,c,e⟩:=Zfo h hz (.val (.lst (rows.map Zak))) rows [] 0 .no .no .no hr ⟨by simp [ZF],by simp,by simp [szA],fun k hk=>nomatch hk⟩ (by omega)
 rw [Nat.zero_add] at ok
 refine ⟨?_,ok⟩
 generalize Zck Ls g rows []=acc at *
 have hkl:(ZF acc).length<64:=by unfold ZF;rw [List.length_map];have:=ok.len;omega
 have hs:=ZhV (ZF acc) hkl fun l hl=>by rw [ok.kl l hl];omega
 rw [← ZiJ vL] at hs
 have hc:=ZaA (b:=Zm 0) (e:=Zc9) (ρ:=[.no,.lent (ZI (acc.map (ZX vL))) true]) lnD (fun k=>.tup [lnD k,vC ((Z4 acc k).getD (0,[]))]) (Zbc ltL (ZF acc)) fun k hk=>⟨[.val (lnD k),.lent (ZI (acc.map (ZX vL))) true],rfl,by
  obtain ⟨p,hp⟩:=ZiL hk
  have e1:=Zhn vL hp
  have e2:=Zhc p.1 p.2 (by have:=Zhl hp;have:=ok.sz;omega)
  have q:Zo (some [lnD k,vC p])=some [lnD k,vC p]:=ZK _ (by simp)
  rw [hp]
  simp only [Zc9,Zr,Zb,Zk,Zw,Ze,rdP,rdV,List.getElem?_cons_succ,List.getElem?_cons_zero,Option.bind,Option.map,e1,e2,Za7,q,Option.getD]⟩
 have q1:=ZK ((Zbc ltL (ZF acc)).map lnD) (by rw [List.length_map,(Za6 _ _).length_eq];omega)
 have hun:=ZeP (acc.map (ZX vL))
 have h0:dcS vL []=.own [] true:=rfl
 rw [h0] at e
 unfold dcS at e
 unfold ZcD
 refine Zal rfl ?_
 generalize (Zbc ltL (ZF acc)).map (fun k=>D.tup [lnD k,vC ((Z4 acc k).getD (0,[]))])=T at *
 generalize (Zbc ltL (ZF acc)).map lnD=W at *
 generalize acc.map (ZX vL)=KV at *
 generalize rows.map Zak=R at *
 generalize Ls.map ldD=L at *
 show ZcU [.val (.lst L),.val (.lst R),.val (grD g),.no,.no,.no,.no]=_
 have hin:∀ x y z,ZU 1 [3] [.val (.lst L),.val (.lst R),.val (grD g),.own (ZI KV) true,x,y,z]=[.no,.lent (ZI KV) true]:=fun _ _ _=>rfl
 simp only [ZcU,Zi,Zdl,Zaw,rdQ,ZJ,ZaZ,ZM,hin,ZeN,rdP,ZN,List.getElem?_cons_succ,List.getElem?_cons_zero,List.set_cons_succ,List.set_cons_zero,Option.bind,Option.map,e,hun,hs,q1,hc]
def ZfO (r:List At×Int):D:=.tup [lnD r.1,cel r.2 []]
theorem Zlt {Ls:List (List (List At))} {g:List Nat} {s:List At} (h:Axs Ls g) (hs:Spot Ls s) (hz:Ls.length≤4) (s1 s5:Sl) (x:Int) {acc:List Ent} {n m:Nat} (ha:AccOk acc n m) (hm:m<1000) :
  ZaV [.val (.lst (wyL Ls g)),s1,dcS vC acc,.val (lnD s),.val (cel x []),s5]=.next [.val (.lst (wyL Ls g)),s1,dcS vC (Zaf acc (ZaD Ls s g) x),.val (lnD s),.val (cel x []),.val (lnD (ZaD Ls s g))]:=by
 have hgo:=Zh6 h hs hz
 have hc:=Zk9 h hs
 have q1:=ZK (List.zipWith (fun x y=>D.tup [x,y]) (wyL Ls g) (s.map aD)) (by simp [Zg9 h];omega)
 have hk:∀ x y z w,ZH Zbp (fun ρ=>Zb (Zk (ZN ((ZM 2 [] (ZfI (fun ρ=>rdQ ρ 0) (fun ρ=>rdQ ρ 3)) (Z8 2 (Zu (Zm 0) (Zu (Zm 1) Z9))) (fun _=>some true) ZaR) ρ))) (some [])) [.val (.lst (wyL Ls g)),x,y,.val (lnD s),z,w]=some (lnD (ZaD Ls s g)):=by
  intro x y z w
  unfold lnD
  generalize wyL Ls g=L at *
  generalize s.map aD=S at *
  have hin:ZU 2 [] [.val (.lst L),x,y,.val (.tup S),z,w]=[.no,.no]:=rfl
  simp only [ZH,Zbp,pks,pk,Zb,Zk,ZN,ZM,ZfI,Zan,hin,rdQ,List.getElem?_cons_succ,List.getElem?_cons_zero,Option.bind,Option.map,q1,hc]
 generalize wyL Ls g=L at *
 generalize ZaD Ls s g=k at *
 have hok:=Zjp k
 have hom:=Zhd vC k acc
 have hval:=ZcM vC k acc
 have hlen:(acc.map (ZX vC)).length<sizeLine:=by rw [List.length_map];exact Nat.lt_of_le_of_lt ha.len (Nat.lt_of_lt_of_le hm (by decide))
 have hun:=ZeP (acc.map (ZX vC))
 have hdin:Zb8 false (lnD k) (.lst (ZI (acc.map (ZX vC))) true)=some (.bl (Z4 acc k).isSome):=by
  rw [ZhC,hok]
  show (if Zbs (.tup k) (acc.map (ZX vC))=true then _ else _)=_
  rw [if_pos hom,hval,Option.isSome_map]
  cases (Z4 acc k).isSome<;>rfl
 have key:∀ d,Zg0 (some (Z4 acc k).isSome) ((Zr F_merged (fun ρ=>Zb (Zk ((Ze Za4 (fun ρ=>rdP ρ 2) (fun ρ=>rdP ρ 5)) ρ)) (Zb (rdA ρ 4) (some [])))) [.val (.lst L),s1,dcS vC acc,.val (lnD s),.val (cel x []),.val (lnD k)]) (some (cel x []))=some d→Zav (acc.map (ZX vC)) (.tup k) d=(Zaf acc k x).map (ZX vC)→ZaV [.val (.lst L),s1,dcS vC acc,.val (lnD s),.val (cel x []),s5]=.next [.val (.lst L),s1,dcS vC (Zaf acc k x),.val (lnD s),.val (cel x []),.val (lnD k)]:=by
  intro d e1 e2
  unfold dcS at *
  have hk':=hk s1 (.own (ZI (acc.map (ZX vC))) true) (.val (cel x [])) s5
  generalize acc.map (ZX vC)=KV at *
  generalize (Zaf acc k x).map (ZX vC)=KV' at *
  unfold ZaV
  have t1:Zbe ((Zr F_goes_along (fun ρ=>Zb (rdA ρ 0) (Zb (rdA ρ 3) (some [])))) [.val (.lst L),s1,.own (ZI KV) true,.val (lnD s),.val (cel x []),s5])=some true:=by
   simp only [Zr,Zb,rdA,List.getElem?_cons_succ,List.getElem?_cons_zero,Option.bind,Option.map,hgo,Za7,Zbe]
  simp only [t1,Zaa,Zi,hk',ZL,List.set_cons_succ,List.set_cons_zero]
  have t2:Ze (Zb8 false) (fun ρ=>rdP ρ 5) (fun ρ=>rdP ρ 2) [.val (.lst L),s1,.own (ZI KV) true,.val (lnD s),.val (cel x []),.val (lnD k)]=some (.bl (Z4 acc k).isSome):=by
   simp only [Ze,rdP,List.getElem?_cons_succ,List.getElem?_cons_zero,Option.bind,hdin]
  have t3:rdV [.val (.lst L),s1,.own (ZI KV) true,.val (lnD s),.val (cel x []),.val (lnD k)] 4=some (cel x []):=rfl
  rw [t2,t3]
  simp only [asB,Option.bind]
  rw [e1]
  simp only [Zfb,rdP,rdG,List.getElem?_cons_succ,List.getElem?_cons_zero,List.set_cons_succ,List.set_cons_zero,hun,hok,hom,e2,Bool.true_and,decide_eq_true hlen,if_true]
 cases hl:Z4 acc k with
 | none =>
  rw [hl] at key
  exact key (vC (x,[])) rfl (Zkk vC hl)
 | some p =>
  rw [hl] at key
  refine key (vC (p.1,p.2++[x])) ?_ (ZkD vC ha.nd hl)
  have e1:=Zhn vC hl
  have e2:=Zm6 p.1 x p.2 []
  unfold dcS
  generalize acc.map (ZX vC)=KV at *
  simp only [Zg0,Option.isSome,Zr,Ze,Zb,Zk,rdP,rdA,List.getElem?_cons_succ,List.getElem?_cons_zero,Option.bind,Option.map,e1,e2,Za7]
theorem ZhJ {Ls:List (List (List At))} {g:List Nat} (h:Axs Ls g) (hz:Ls.length≤4) (s1:Sl):∀ (rows:List (List At×Int)) (acc:List Ent) (m:Nat) (s3 s4 s5:Sl),(∀ r∈rows,Spot Ls r.1)→AccOk acc Ls.length m→m+rows.length<1000 →
  ∃ s3' s4' s5',ZY (Z8 2 (Zu (Zm 3) (Zu (Zm 4) Z9))) ZaV (rows.map ZfO) [.val (.lst (wyL Ls g)),s1,dcS vC acc,s3,s4,s5]=.next [.val (.lst (wyL Ls g)),s1,dcS vC (Zck Ls g rows acc),s3',s4',s5']
 | [],acc,m,s3,s4,s5,_,ha,_=>⟨s3,s4,s5,rfl⟩
 | r::rows,acc,m,s3,s4,s5,hr,ha,hm=>by
  simp only [List.length_cons] at hm
  have hs:=hr r List.mem_cons_self
  have e1:=Zlt h hs hz s1 s5 r.2 ha (by omega)
  obtain ⟨a,b,c,e2⟩:=ZhJ h hz s1 rows (Zaf acc (ZaD Ls r.1 g) r.2) (m+1) (.val (lnD r.1)) (.val (cel r.2 [])) (.val (lnD (ZaD Ls r.1 g))) (fun q hq=>hr q (List.mem_cons_of_mem _ hq)) (ha.add (Zgk h hs) r.2) (by omega)
  refine ⟨a,b,c,?_⟩
  simp only [List.map_cons,ZfO,ZY,Z8,Zu,Zm,Z9,List.length_cons,List.length_nil,if_true,List.set_cons_succ,List.set_cons_zero,Option.bind]
  rw [e1]
  exact e2
theorem Zgz {Ls:List (List (List At))} {g:List Nat} (h:Axs Ls g) (h0:0<Ls.length) (hz:Ls.length≤4) (rows:List (List At×Int)) (hr:∀ r∈rows,Spot Ls r.1) (hl:rows.length<64):F_merged_along [.val (.lst (wyL Ls g)),.val (.lst (rows.map ZfO))]=some (.own (ZcD (Zck Ls g rows []))):=by
 have ok:=(ZfM h hz rows hr hl).2
 obtain ⟨a,b,c,e⟩:=ZhJ h hz (.val (.lst (rows.map ZfO))) rows [] 0 .no .no .no hr ⟨by simp [ZF],by simp,by simp [szA],fun k hk=>nomatch hk⟩ (by omega)
 generalize Zck Ls g rows []=acc at *
 have hkl:(ZF acc).length<64:=by unfold ZF;rw [List.length_map];have:=ok.len;omega
 have hi:=ZjN (.val (.lst ((ZF acc).map lnD))) (ZF acc) (.inl rfl) hkl fun l hl=>by
  have:=ok.kl l hl
  exact ⟨fun z=>by rw [z] at this;simp at this;omega,by omega⟩
 rw [ZhM _ _ ((Za6 ltL _).nodup_iff.mpr ok.nd) (fun _ e=>by cases e),← ZiJ vC] at hi
 have hc:=ZaA (b:=Zm 0) (e:=Zcm) (ρ:=[.no,.lent (ZI (acc.map (ZX vC))) true]) lnD (fun k=>.tup [lnD k,vC ((Z4 acc k).getD (0,[]))]) (Zbc ltL (ZF acc)) fun k hk=>⟨[.val (lnD k),.lent (ZI (acc.map (ZX vC))) true],rfl,by
  obtain ⟨p,hp⟩:=ZiL hk
  have e1:=Zhn vC hp
  have q:Zo (some [lnD k,vC p])=some [lnD k,vC p]:=ZK _ (by simp)
  rw [hp]
  simp only [Zcm,Zb,Zk,Zw,Ze,rdP,rdV,List.getElem?_cons_succ,List.getElem?_cons_zero,Option.bind,Option.map,e1,q,Option.getD]⟩
 have q1:=ZK ((Zbc ltL (ZF acc)).map lnD) (by rw [List.length_map,(Za6 _ _).length_eq];omega)
 have hkls:=Zmx (acc.map (ZX vC))
 have h0:dcS vC []=.own [] true:=rfl
 rw [h0] at e
 unfold dcS at e
 unfold ZcD
 refine Zal rfl ?_
 generalize (Zbc ltL (ZF acc)).map (fun k=>D.tup [lnD k,vC ((Z4 acc k).getD (0,[]))])=T at *
 generalize (Zbc ltL (ZF acc)).map lnD=W at *
 generalize acc.map (ZX vC)=KV at *
 generalize rows.map ZfO=R at *
 generalize wyL Ls g=L at *
 show Zb0 [.val (.lst L),.val (.lst R),.no,.no,.no,.no]=_
 have hin:∀ x y z,ZU 1 [2] [.val (.lst L),.val (.lst R),.own (ZI KV) true,x,y,z]=[.no,.lent (ZI KV) true]:=fun _ _ _=>rfl
 simp only [Zb0,Zi,Zdl,Zaw,rdQ,ZJ,ZaZ,ZM,hin,rdA,Zc7,pks,pk,Zr,Zb,Zk,ZN,List.getElem?_cons_succ,List.getElem?_cons_zero,List.set_cons_succ,List.set_cons_zero,Option.bind,Option.map,e,hkls,hi,Zf8,q1,hc]
theorem Zgd {Ls:List (List (List At))} {g:List Nat} (h:Axs Ls g) (h0:0<Ls.length) (hz:Ls.length≤4) (rows:List (List At×Int)) (hr:∀ r∈rows,Spot Ls r.1) (hl:rows.length<64):F_table_of [.val (.lst (Ls.map ldD)),.val (.lst (rows.map Zak)),.val (grD g)]=some (.own (ZcD (Zck Ls g rows []))):=by
 have hm:=Zgz h h0 hz rows hr hl
 have hf:=ZmS Ls hz
 have hw:=ZlM h hz
 have hc:=ZaA (b:=Z8 2 (Zu (Zm 0) (Zu (Zm 1) Z9))) (e:=ZdK) (ρ:=[.no,.no]) Zak ZfO rows fun r _=>⟨[.val (lnD r.1),.val (.int r.2)],rfl,by
  have e1:=ZlK (.val (.lst [.int r.2])) r.2 [] (.inl rfl)
  have q:Zo (some [lnD r.1,cel r.2 []])=some [lnD r.1,cel r.2 []]:=ZK _ (by simp)
  have q2:Zo (some [D.int r.2])=some [D.int r.2]:=ZK _ (by simp)
  simp only [ZdK,Zr,Zb,Zk,Zw,ZN,rdV,List.getElem?_cons_succ,List.getElem?_cons_zero,Option.bind,Option.map,q2,e1,Za7,q,ZfO]⟩
 have q1:=ZK (rows.map Zak) (by rw [List.length_map];omega)
 generalize ZcD (Zck Ls g rows [])=T at *
 generalize rows.map Zak=R at *
 generalize rows.map ZfO=C at *
 generalize wyL Ls g=W at *
 generalize (Ls.map fun _=>D.int 0)=Z at *
 generalize Ls.map ldD=L at *
 refine Zal rfl ?_
 show Zdk [.val (.lst L),.val (.lst R),.val (grD g),.no]=_
 have hin:ZU 2 [] [.val (.lst L),.val (.lst R),.val (grD g),.no]=[.no,.no]:=rfl
 simp only [Zdk,Zi,ZL,ZaZ,ZM,hin,rdQ,ZJ,rdA,ZdQ,Zr,Zb,Zk,ZN,List.getElem?_cons_succ,List.getElem?_cons_zero,List.set_cons_succ,List.set_cons_zero,Option.bind,Option.map,q1,hc,hf,Za7,hw,Zf8,hm,rvF]
theorem Zf9 {ws:List Int} (hl:ws.length=24) (i:Nat) (hi:i<24):ixD (.lst (ws.map D.int)) (.int (i:Int))=some (.int (ws.getD i 0)):=by
 show atI (ws.map D.int) (i:Int)=_
 have:=Zd3 (xs:=ws) (i:=(i:Int)) (by omega) (by omega)
 simpa using this
theorem ZmP (ns:List Int) (s1 s4:Sl) (k:Nat) (Ls:List (List (List At))) (hk:k<10) (hz:Ls.length<100):∃ ls s4',Lad ls∧ZbH [.val (.lst (ns.map D.int)),s1,.own (Ls.map ldD),.val (.int (k:Int)),s4]=.next [.val (.lst (ns.map D.int)),s1,.own ((Ls++[ls]).map ldD),.val (.int (k:Int)),s4']:=by
 have h1:=Zdi (.val (.lst (ns.map D.int))) ns (.inl rfl) (1+(k:Int)) (by omega)
 generalize ns.getD (1+(k:Int)).toNat 0=c at *
 obtain ⟨ws,h2,hl,hp⟩:=Zfy c (k:Int)
 have i20:=Zf9 hl 20 (by omega)
 have i21:=Zf9 hl 21 (by omega)
 generalize ws.getD 20 0=y at *
 generalize ws.getD 21 0=z at *
 obtain ⟨a,ea,ha⟩:=ZcE y 8 (by omega)
 obtain ⟨b,eb,hb⟩:=ZcE z 4 (by omega)
 obtain ⟨ls,hL,h3⟩:=Zm0 c (1+a) (1+b) (by omega) (by omega) (by omega) (by omega)
 have e1:Zx (.int 1) (.int (k:Int))=some (.int (1+(k:Int))):=rfl
 have m1:=ZaW y 8 (by omega)
 have m2:=ZaW z 4 (by omega)
 have e2:Zx (.int 1) (.int (y%8))=some (.int ((1+a:Nat):Int)):=by
  show some (D.int (1+y%8))=_
  rw [show y%8=(a:Int) from ea];rfl
 have e3:Zx (.int 1) (.int (z%4))=some (.int ((1+b:Nat):Int)):=by
  show some (D.int (1+z%4))=_
  rw [show z%4=(b:Int) from eb];rfl
 have hlen:(Ls.map ldD).length<sizeLine:=by rw [List.length_map];exact Nat.lt_of_lt_of_le hz (by decide)
 refine ⟨ls,.val (.lst (ws.map D.int)),hL,?_⟩
 rw [List.map_append,List.map_singleton]
 unfold ldD at *
 generalize (Ls.map fun ls=>D.lst (ls.map lnD))=L at *
 generalize ls.map lnD=l at *
 generalize ns.map D.int=N at *
 generalize ws.map D.int=W at *
 have c20:ixD (.lst W) (.int 20)=some (.int y):=i20
 have c21:ixD (.lst W) (.int 21)=some (.int z):=i21
 simp only [ZbH,Zi,ZL,Zbd,Zr,Ze,Zb,Zk,rdA,rdP,rdO,List.getElem?_cons_succ,List.getElem?_cons_zero,List.set_cons_succ,List.set_cons_zero,Option.bind,Option.map,e1,h1,Za7,h2,c20,c21,m1,m2,e2,e3,h3,Zf8,hlen,if_true]
theorem Zja (ns:List Int) (s1:Sl):∀ (n k:Nat) (Ls:List (List (List At))) (s3 s4:Sl),(∀ ls∈Ls,Lad ls)→k+n≤10→Ls.length+n<100→∃ (Ls':List (List (List At))) (s3' s4':Sl),(∀ ls∈Ls',Lad ls)∧Ls'.length=Ls.length+n∧ZY (Zm 3) ZbH ((List.range' k n).map fun (k:Nat)=>D.int (k:Int)) [.val (.lst (ns.map D.int)),s1,.own (Ls.map ldD),s3,s4]=.next [.val (.lst (ns.map D.int)),s1,.own (Ls'.map ldD),s3',s4']
 | 0,k,Ls,s3,s4,h,_,_=>⟨Ls,s3,s4,h,rfl,rfl⟩
 | n+1,k,Ls,s3,s4,h,hk,hz=>by
  obtain ⟨ls,t4,hL,e1⟩:=ZmP ns s1 s4 k Ls (by omega) (by omega)
  obtain ⟨Ls',a,b,h',hl',e2⟩:=Zja ns s1 n (k+1) (Ls++[ls]) (.val (.int (k:Int))) t4 (fun m hm=>by
   rcases List.mem_append.mp hm with hm | hm
   ·exact h m hm
   ·simp at hm;subst hm;exact hL) (by omega) (by simp;omega)
  refine ⟨Ls',a,b,h',by rw [hl'];simp;omega,?_⟩
  simp only [List.range'_succ,List.map_cons,ZY,Zm,List.set_cons_succ,List.set_cons_zero,e1,e2]
theorem ZlH (ns:List Int):∃ Ls:List (List (List At)),(∀ ls∈Ls,Lad ls)∧0<Ls.length∧Ls.length≤4∧F_law_ladders [.val (.lst (ns.map D.int))]=some (.own (Ls.map ldD)):=by
 have h0:F_law_cell_at [.val (.lst (ns.map D.int)),.val (.int 0)]=some (.val (.int (ns.getD 0 0))):=Zdi (.val (.lst (ns.map D.int))) ns (.inl rfl) 0 (by omega)
 generalize ns.getD 0 0=c at *
 obtain ⟨n,hn,hn0,hn4⟩:∃ n:Nat,(1+c%3+(if c%12=5 then 1 else 0):Int)=(n:Int)∧0<n∧n≤4:=⟨(1+c%3+(if c%12=5 then 1 else 0):Int).toNat,by split<;>omega,by split<;>omega,by split<;>omega⟩
 obtain ⟨Ls,a,b,hL,hl,e⟩:=Zja ns (.val (.int c)) n 0 [] .no .no (fun _ h=>nomatch h) (by omega) (by simp;omega)
 refine ⟨Ls,hL,by rw [hl];simp;omega,by rw [hl];simp;omega,?_⟩
 have hr:=ZcH n (by omega)
 rw [← List.range_eq_range'] at e
 have m1:=ZaW c 3 (by omega)
 have m2:=ZaW c 12 (by omega)
 have e1:Zx (.int 1) (.int (c%3))=some (.int (1+c%3)):=rfl
 have e2:eqO (.int (c%12)) (.int 5)=some (.bl (decide (c%12=5))):=by simp
 have e3:Zlk [.bl (decide (c%12=5))]=some (.int (if c%12=5 then 1 else 0)):=by
  by_cases h:c%12=5<;>simp [h]
 have e4:Zx (.int (1+c%3)) (.int (if c%12=5 then 1 else 0))=some (.int (n:Int)):=by
  show some (D.int (1+c%3+(if c%12=5 then 1 else 0)))=_
  rw [hn]
 have hsh0:Zo (some ([]:List D))=some []:=rfl
 refine Zal rfl ?_
 generalize Ls.map ldD=L at *
 generalize ns.map D.int=N at *
 show Zb9 [.val (.lst N),.no,.no,.no,.no]=_
 rw [List.map_nil] at e
 simp only [Zb9,Zd6,ZdV,Zd1,Zd0,Zd7,Zd4,ZdU,ZdZ,Zi,ZL,ZaM,Zaw,Zr,ZH,pks,pk,Ze,Zb,Zk,Zw,rdA,rdP,rdO,ZaZ,List.getElem?_cons_succ,List.getElem?_cons_zero,List.set_cons_succ,List.set_cons_zero,Option.bind,Option.map,h0,Za7,hsh0,m1,m2,e1,e2,e3,e4,hr,e]
def Zdh (ws:List Int):Nat→List (List (List At))→List At
 | _,[]=>[]
 | k,ls::Ls=>hd0 (ls.getD (ws.getD k 0%(ls.length:Int)).toNat [])::Zdh ws (k+1) Ls
theorem Zjd (ws:List Int):∀ (k:Nat) (Ls:List (List (List At))),(∀ ls∈Ls,Lad ls)→Spot Ls (Zdh ws k Ls)
 | _,[],_=>.nil
 | k,ls::Ls,h=>by
  have hL:=h ls List.mem_cons_self
  obtain ⟨a,ea,ha⟩:=ZcE (ws.getD k 0) ls.length hL.ne
  refine .cons ?_ (Zjd ws (k+1) Ls fun m hm=>h m (List.mem_cons_of_mem _ hm))
  rw [ea,Int.toNat_natCast]
  refine List.mem_map_of_mem ?_
  have:ls.getD a []=ls[a]:=by simp [List.getD,ha]
  rw [this];exact List.getElem_mem _
theorem Zhz (ws:List Int):∀ (i k:Nat) (Ls:List (List (List At))) (ls:List (List At)),Ls[i]?=some ls→(Zdh ws k Ls)[i]?=some (hd0 (ls.getD (ws.getD (k+i) 0%(ls.length:Int)).toNat []))
 | _,_,[],_,h=>by simp at h
 | 0,k,m::Ls,ls,h=>by simp at h;subst h;rfl
 | i+1,k,m::Ls,ls,h=>by
  have:=Zhz ws i (k+1) Ls ls (by simpa using h)
  rw [show k+1+i=k+(i+1) by omega] at this
  simpa [Zdh] using this
theorem Zmc (a c:Int):CMul a (1-2 * (c%2)):=by
 have:c%2=0∨c%2=1:=by omega
 right
 rcases this with h | h<;>rw [h]<;>decide
theorem ZqG (cell:Int) (place:Nat) (Ls:List (List (List At))) (hL:∀ ls∈Ls,Lad ls) (hz:Ls.length≤4):∃ r:List At×Int,Spot Ls r.1∧F_law_row [.val (.int cell),.val (.int (place:Int)),.val (.lst (Ls.map ldD))]=some (.val (Zak r)):=by
 obtain ⟨ws,h2,hl,hp⟩:=Zfy cell (place:Int)
 have hsp:=Zjd ws 0 Ls hL
 have hc:=Zdo (e:=Zea) [.val (.lst (ws.map D.int))] ldD Ls 0 ((Zdh ws 0 Ls).map aD) (by rw [List.length_map,hsp.len]) fun i ls y e1 e2=>by
  rw [List.getElem?_map,Zhz ws i 0 Ls ls e1] at e2
  cases e2
  rw [Nat.zero_add]
  have hi:i<Ls.length:=(List.getElem?_eq_some_iff.mp e1).1
  have hLs:=hL ls (List.mem_of_getElem? e1)
  have a1:=Zf9 hl i (by omega)
  generalize ws.getD i 0=v at *
  obtain ⟨a,ea,ha⟩:=ZcE v ls.length hLs.ne
  have a2:=ZaW v (ls.length:Int) (by have:=hLs.ne;omega)
  rw [ea] at a2 ⊢
  rw [Int.toNat_natCast]
  have hg:ls.getD a []=ls[a]:=by simp [List.getD,ha]
  have a3:ixD (ldD ls) (.int (a:Int))=some (lnD ls[a]):=by
   show atI (ls.map lnD) (a:Int)=_
   exact Za1 (by simp [ha])
  have a4:=ZoF ls[a] (hLs.some _ (List.getElem_mem _))
  have a5:Zba [ldD ls]=some (.int (ls.length:Int)):=by simp
  rw [hg]
  generalize ls[a]=l at *
  generalize ws.map D.int=W at *
  generalize ldD ls=LD at *
  simp only [Zea,Ze,ZH,pks,pk,Zb,rdA,rdP,List.getElem?_cons_succ,List.getElem?_cons_zero,Option.bind,Option.map,a1,a2,a3,a4,a5]
 have q1:Zo (some (Zaj 0 (Ls.map ldD)))=some (Zaj 0 (Ls.map ldD)):=ZK _ (by rw [Zcn];simp;omega)
 have i5:=Zf9 hl 5 (by omega)
 have i6:=Zf9 hl 6 (by omega)
 have i7:=Zf9 hl 7 (by omega)
 have m5:=ZaW (ws.getD 5 0) 2 (by omega)
 have m6:=ZaW (ws.getD 6 0) 2 (by omega)
 have m7:=ZaW (ws.getD 7 0) 7 (by omega)
 have mm:=Zcv (Zmc (cell%10^30) (ws.getD 5 0))
 generalize ws.getD 5 0=y5 at *
 generalize ws.getD 6 0=y6 at *
 generalize ws.getD 7 0=y7 at *
 have c5:ixD (.lst (ws.map D.int)) (.int 5)=some (.int y5):=i5
 have c6:ixD (.lst (ws.map D.int)) (.int 6)=some (.int y6):=i6
 have c7:ixD (.lst (ws.map D.int)) (.int 7)=some (.int y7):=i7
 have pw:ZiY (.int 10) (.int 30)=some (.int (10^30)):=by simp [Ze9]
 have m0:=ZaW cell (10^30) (by decide)
 have k1:=Zcv (x:=2) (y:=y5%2) (.inl (by decide))
 have k2:ZfX (.int 1) (.int (2 * (y5%2)))=some (.int (1-2 * (y5%2))):=rfl
 have k3:ZfX (.int (y7%7)) (.int 3)=some (.int (y7%7-3)):=rfl
 have k4:eqO (.int (y6%2)) (.int 1)=some (.bl (decide (y6%2=1))):=by simp
 refine ⟨(Zdh ws 0 Ls,if y6%2=1 then y7%7-3 else cell%10^30 * (1-2 * (y5%2))),hsp,Zal rfl ?_⟩
 have q2:∀ d,Zo (some [lnD (Zdh ws 0 Ls),d])=some [lnD (Zdh ws 0 Ls),d]:=fun d=>ZK _ (by simp)
 unfold Zak lnD at *
 generalize (Zdh ws 0 Ls).map aD=S at *
 generalize ws.map D.int=W at *
 generalize Ls.map ldD=L at *
 generalize (10:Int)^30=T at *
 generalize cell%T=cT at *
 generalize cT * (1-2 * (y5%2))=am at *
 show ZcZ [.val (.int cell),.val (.int (place:Int)),.val (.lst L),.no,.no,.no]=_
 have hin:ZU 2 [3] [.val (.int cell),.val (.int (place:Int)),.val (.lst L),.val (.lst W),.no,.no]=[.no,.no,.val (.lst W)]:=rfl
 by_cases hy:y6%2=1
 ·rw [decide_eq_true hy] at k4
  rw [if_pos hy]
  simp only [ZcZ,Zd9,Zep,Zek,Zeb,Zeo,Zed,Zei,Zee,Zej,Zef,Zi,ZL,Zaa,asB,ZQ,Zr,ZH,Zbp,pks,pk,Ze,Zb,Zk,Zw,ZN,ZM,ZbI,Zan,hin,rdQ,rdA,rdP,rdV,List.getElem?_cons_succ,List.getElem?_cons_zero,List.set_cons_succ,List.set_cons_zero,Option.bind,Option.map,h2,Za7,q1,hc,pw,m0,c5,m5,k1,k2,mm,c6,m6,k4,c7,m7,k3,q2]
 ·rw [decide_eq_false hy] at k4
  rw [if_neg hy]
  simp only [ZcZ,Zd9,Zep,Zek,Zeb,Zeo,Zed,Zei,Zee,Zej,Zef,Zi,ZL,Zaa,asB,ZQ,Zr,ZH,Zbp,pks,pk,Ze,Zb,Zk,Zw,ZN,ZM,ZbI,Zan,hin,rdQ,rdA,rdP,rdV,List.getElem?_cons_succ,List.getElem?_cons_zero,List.set_cons_succ,List.set_cons_zero,Option.bind,Option.map,h2,Za7,q1,hc,pw,m0,c5,m5,k1,k2,mm,c6,m6,k4,q2]
theorem ZhP (Ls:List (List (List At))) (hL:∀ ls∈Ls,Lad ls) (hz:Ls.length≤4):∀ (cs:List Int) (k:Nat),∃ rows:List (List At×Int),rows.length=cs.length∧(∀ r∈rows,Spot Ls r.1)∧ZaF (Z8 2 (Zu (Zm 0) (Zu (Zm 1) Z9))) (fun _=>some true) ZcA [.no,.no,.val (.lst (Ls.map ldD))] (Zaj k (cs.map D.int))=some (rows.map Zak)
 | [],_=>⟨[],rfl,(fun _ h=>nomatch h),rfl⟩
 | c::cs,k=>by
  obtain ⟨rows,h1,h2,h3⟩:=ZhP Ls hL hz cs (k+1)
  obtain ⟨r,h4,h5⟩:=ZqG c k Ls hL hz
  refine ⟨r::rows,by simp [h1],fun q hq=>?_,?_⟩
  ·rcases List.mem_cons.mp hq with rfl | hq
   ·exact h4
   ·exact h2 q hq
  ·have e:ZcA [.val (.int (k:Int)),.val (.int c),.val (.lst (Ls.map ldD))]=some (Zak r):=by
    generalize Ls.map ldD=L at *
    simp only [ZcA,Zr,Zb,rdA,List.getElem?_cons_succ,List.getElem?_cons_zero,Option.bind,Option.map,h5,Za7]
   simp only [List.map_cons,Zaj,ZaF,Z8,Zu,Zm,Z9,List.length_cons,List.length_nil,if_true,List.set_cons_succ,List.set_cons_zero,Option.bind,e,h3,Zb]
theorem ZjO (ns:List Int) (hl:ns.length≤63) (Ls:List (List (List At))) (hL:∀ ls∈Ls,Lad ls) (hz:Ls.length≤4):∃ rows:List (List At×Int),rows.length<64∧(∀ r∈rows,Spot Ls r.1)∧F_law_rows [.val (.lst (ns.map D.int)),.val (.lst (Ls.map ldD))]=some (.own (rows.map Zak)):=by
 have h5:F_law_cell_at [.val (.lst (ns.map D.int)),.val (.int 5)]=some (.val (.int (ns.getD 5 0))):=Zdi (.val (.lst (ns.map D.int))) ns (.inl rfl) 5 (by omega)
 generalize ns.getD 5 0=c at *
 obtain ⟨n,en,hn⟩:=ZcE c 6 (by omega)
 have hcut:ZbJ (ns.map D.int) (some 6) (some 66)=((ns.drop 6).take 60).map D.int:=by rw [ZiQ,Zpi _ _ _ (by omega) (by omega)];rfl
 have hcl:((ns.drop 6).take 60).length≤57:=by simp;omega
 generalize (ns.drop 6).take 60=as at *
 have hr:=ZcH n (by omega)
 have hc1:=ZaA (b:=Zm 0) (e:=ZdG) (ρ:=[.no,.val (.int c)]) (fun (k:Nat)=>D.int (k:Int)) (fun (k:Nat)=>D.int (c / 6+7 * (k:Int))) (List.range n) fun k hk=>⟨[.val (.int (k:Int)),.val (.int c)],rfl,by
  have m1:=Zcv (x:=7) (y:=(k:Int)) (.inl (by decide))
  have d1:Zbg (.int c) (.int 6)=some (.int (c / 6)):=by
   show (if Zbj c 6 then some (D.int (c / 6)) else none)=_
   rw [if_pos ⟨by decide,by decide⟩]
  have a1:Zx (.int (c / 6)) (.int (7 * (k:Int)))=some (.int (c / 6+7 * (k:Int))):=rfl
  simp only [ZdG,Ze,rdP,List.getElem?_cons_succ,List.getElem?_cons_zero,Option.bind,m1,d1,a1]⟩
 have q0:=ZK ((List.range n).map fun (k:Nat)=>D.int (k:Int)) (by simp;omega)
 have hadd:=Zji (as.map D.int) ((List.range n).map fun (k:Nat)=>D.int (c / 6+7 * (k:Int))) (by simp;omega)
 have ecs:as.map D.int++(List.range n).map (fun (k:Nat)=>D.int (c / 6+7 * (k:Int)))=(as++(List.range n).map fun (k:Nat)=>c / 6+7 * (k:Int)).map D.int:=by
  rw [List.map_append,List.map_map];rfl
 rw [ecs] at hadd
 have hcl2:(as++(List.range n).map fun (k:Nat)=>c / 6+7 * (k:Int)).length≤62:=by simp;omega
 generalize (as++(List.range n).map fun (k:Nat)=>c / 6+7 * (k:Int))=cs at *
 obtain ⟨rows,h1,h2,h3⟩:=ZhP Ls hL hz cs 0
 refine ⟨rows,by omega,h2,Zal rfl ?_⟩
 have q1:Zo (some (Zaj 0 (cs.map D.int)))=some (Zaj 0 (cs.map D.int)):=ZK _ (by rw [Zcn];simp;omega)
 have m1:=ZaW c 6 (by omega)
 have en':c%6=(n:Int):=en
 rw [en'] at m1
 generalize rows.map Zak=R at *
 generalize cs.map D.int=C at *
 generalize ((List.range n).map fun (k:Nat)=>D.int (k:Int))=RG at *
 generalize ((List.range n).map fun (k:Nat)=>D.int (c / 6+7 * (k:Int)))=RH at *
 generalize as.map D.int=A at *
 generalize ns.map D.int=N at *
 generalize Ls.map ldD=L at *
 show Zdn [.val (.lst N),.val (.lst L),.no,.no]=_
 have hin1:ZU 1 [2] [.val (.lst N),.val (.lst L),.val (.int c),.no]=[.no,.val (.int c)]:=rfl
 have hin2:ZU 2 [1] [.val (.lst N),.val (.lst L),.val (.int c),.val (.lst C)]=[.no,.no,.val (.lst L)]:=rfl
 simp only [Zdn,Zi,ZL,ZaZ,Zr,ZM,ZbI,Zan,hin1,hin2,sl3,slD,asI,Ze,Zb,Zk,Zw,ZN,rdQ,rdA,rdP,List.getElem?_cons_succ,List.getElem?_cons_zero,List.set_cons_succ,List.set_cons_zero,Option.bind,Option.map,h5,Za7,m1,hr,q0,hc1,hcut,hadd,q1,h3]
def dv (k:Nat):Int:=[1,5,25,125].getD k 1
theorem Zs7 (k:Nat) (h:k<4):atI [D.int 1,.int 5,.int 25,.int 125] (k:Int)=some (.int (dv k))∧Zbj 0 (dv k):=by
 match k,h with
 | 0,_=>exact ⟨rfl,by decide,by decide⟩
 | 1,_=>exact ⟨rfl,by decide,by decide⟩
 | 2,_=>exact ⟨rfl,by decide,by decide⟩
 | 3,_=>exact ⟨rfl,by decide,by decide⟩
theorem Zlh (c:Int) (s1:Sl) (k:Nat) (hk:k<4) (ls:List (List At)) (hL:Lad ls) (g:List Nat) (hg:g.length<100):∃ j:Nat,(∀ l∈ls,j≤l.length)∧Zcb [.val (.int c),s1,.own (g.map fun (j:Nat)=>D.int (j:Int)),.val (.int (k:Int)),.val (ldD ls)]=.next [.val (.int c),s1,.own ((g++[j]).map fun (j:Nat)=>D.int (j:Int)),.val (.int (k:Int)),.val (ldD ls)]:=by
 obtain ⟨p,hp0,hp4,hp⟩:=hL.lw
 obtain ⟨l,ls',rfl⟩:∃ l ls',ls=l::ls':=by
  cases ls with
  | nil=>have:=hL.ne;simp at this
  | cons l ls'=>exact ⟨l,ls',rfl⟩
 have hpl:=hp l List.mem_cons_self
 obtain ⟨d1,d2⟩:=Zs7 k hk
 generalize dv k=dk at *
 obtain ⟨j,ej,hj⟩:=ZcE (c / dk) (p+1) (by omega)
 refine ⟨j,fun m hm=>by rw [hp m hm];omega,?_⟩
 have f1:Zbg (.int c) (.int dk)=some (.int (c / dk)):=by
  show (if Zbj c dk then some (D.int (c / dk)) else none)=_
  rw [if_pos (show Zbj c dk from d2)]
 have f2:ixD (ldD (l::ls')) (.int 0)=some (lnD l):=by
  show atI ((l::ls').map lnD) 0=_
  exact ZjD _ _
 have f3:Zba [lnD l]=some (.int (p:Int)):=by simp [lnD,hpl]
 have f4:Zx (.int (p:Int)) (.int 1)=some (.int ((p:Int)+1)):=rfl
 have f5:=ZaW (c / dk) ((p:Int)+1) (by omega)
 have ej':c / dk%((p:Int)+1)=(j:Int):=by
  have e:((p+1:Nat):Int)=(p:Int)+1:=by omega
  rw [e] at ej;exact ej
 rw [ej'] at f5
 have hlen:(g.map fun (j:Nat)=>D.int (j:Int)).length<sizeLine:=by rw [List.length_map];exact Nat.lt_of_lt_of_le hg (by decide)
 have q:Zo (some [D.int 1,.int 5,.int 25,.int 125])=some [D.int 1,.int 5,.int 25,.int 125]:=ZK _ (by simp)
 have f6:ixD (.lst [D.int 1,.int 5,.int 25,.int 125]) (.int (k:Int))=some (.int dk):=d1
 rw [List.map_append,List.map_singleton]
 generalize (g.map fun (j:Nat)=>D.int (j:Int))=G at *
 generalize ldD (l::ls')=LD at *
 simp only [Zcb,Zi,Zbd,ZH,pks,pk,Ze,Zb,Zk,Zw,ZN,rdA,rdP,rdO,List.getElem?_cons_succ,List.getElem?_cons_zero,List.set_cons_succ,List.set_cons_zero,Option.bind,Option.map,q,f6,f1,f2,f3,f4,f5,hlen,if_true]
theorem Zhs (c:Int) (s1:Sl):∀ (Ls:List (List (List At))) (k:Nat) (g:List Nat) (s3 s4:Sl),(∀ ls∈Ls,Lad ls)→k+Ls.length≤4→g.length+Ls.length<100→∃ (g':List Nat) (s3' s4':Sl),Axs Ls g'∧ZY (Z8 2 (Zu (Zm 3) (Zu (Zm 4) Z9))) Zcb (Zaj k (Ls.map ldD)) [.val (.int c),s1,.own (g.map fun (j:Nat)=>D.int (j:Int)),s3,s4]=.next [.val (.int c),s1,.own ((g++g').map fun (j:Nat)=>D.int (j:Int)),s3',s4']
 | [],_,g,s3,s4,_,_,_=>⟨[],s3,s4,.nil,by rw [List.append_nil];rfl⟩
 | ls::Ls,k,g,s3,s4,h,hk,hz=>by
  simp only [List.length_cons] at hk hz
  have hL:=h ls List.mem_cons_self
  obtain ⟨j,hj,e1⟩:=Zlh c s1 k (by omega) ls hL g (by omega)
  obtain ⟨g',a,b,hA,e2⟩:=Zhs c s1 Ls (k+1) (g++[j]) (.val (.int (k:Int))) (.val (ldD ls)) (fun m hm=>h m (List.mem_cons_of_mem _ hm)) (by omega) (by simp;omega)
  refine ⟨j::g',a,b,.cons hL hj hA,?_⟩
  simp only [List.map_cons,Zaj,ZY,Z8,Zu,Zm,Z9,List.length_cons,List.length_nil,if_true,List.set_cons_succ,List.set_cons_zero,Option.bind]
  rw [e1]
  simp only [e2,List.append_assoc,List.singleton_append]
theorem Zoj (c:Int) (Ls:List (List (List At))) (hL:∀ ls∈Ls,Lad ls) (hz:Ls.length≤4):∃ g,Axs Ls g∧F_law_grain [.val (.int c),.val (.lst (Ls.map ldD))]=some (.val (grD g)):=by
 obtain ⟨g,a,b,hA,e⟩:=Zhs c (.val (.lst (Ls.map ldD))) Ls 0 [] .no .no hL (by omega) (by simp;omega)
 refine ⟨g,hA,Zal rfl ?_⟩
 rw [List.nil_append,List.map_nil] at e
 have hsh0:Zo (some ([]:List D))=some []:=rfl
 unfold grD
 generalize (g.map fun (j:Nat)=>D.int (j:Int))=G at *
 generalize Ls.map ldD=L at *
 show ZcW [.val (.int c),.val (.lst L),.no,.no,.no]=_
 simp only [ZcW,Zi,ZaM,Zaw,ZQ,ZbI,Zan,ZH,Zbp,pks,pk,Zb,Zw,rdQ,rdA,List.getElem?_cons_succ,List.getElem?_cons_zero,List.set_cons_succ,List.set_cons_zero,Option.bind,Option.map,hsh0,e]
theorem Zna (x:Int) (xs:List Int):cel x xs=lnD [.int ((xs.length+1:Nat):Int),.int ((x::xs).sum),.int (xs.foldl mn x),.int (xs.foldl mx x)]:=rfl
theorem ZpU (s0:Sl) (k:List At) (hk:k.length≤1000) (x:Int) (xs:List Int):Zbw [s0,.val (.tup [lnD k,cel x xs])]=.next [s0,.val (.tup [lnD k,cel x xs])]:=by
 rw [Zna]
 generalize hcc:([.int ((xs.length+1:Nat):Int),.int ((x::xs).sum),.int (xs.foldl mn x),.int (xs.foldl mx x)]:List At)=cc
 have hcl:cc.length=4:=by rw [← hcc];rfl
 have a1:isD [.tup [lnD k,lnD cc],.ty "tuple"]=some (.bl true):=by simp
 have a2:Zba [.tup [lnD k,lnD cc]]=some (.int 2):=rfl
 have a3:neO (.int 2) (.int 2)=some (.bl false):=by simp
 have a4:ixD (.tup [lnD k,lnD cc]) (.int 0)=some (lnD k):=rfl
 have a5:ixD (.tup [lnD k,lnD cc]) (.int 1)=some (lnD cc):=rfl
 have a6:isD [lnD k,.ty "tuple"]=some (.bl true):=by simp [lnD]
 have a7:isD [lnD cc,.ty "tuple"]=some (.bl true):=by simp [lnD]
 have a8:Zx (lnD k) (lnD cc)=some (.tup ((k++cc).map aD)):=by
  unfold lnD
  rw [Zi9 _ _ (by simp;omega),List.map_append]
 have hc:=ZnN (C:=Zcl) (fun a=>by cases a<;>simp [Zcl,aD]) (k++cc)
 have han:=Znk (k++cc)
 have q:=ZK ((k++cc).map aD) (by simp;omega)
 generalize ((k++cc).map fun _=>false).map D.bl=B at *
 generalize (k++cc).map aD=A at *
 have hin:ZU 1 [] [s0,.val (.tup [lnD k,lnD cc])]=[.no]:=rfl
 simp only [Zbw,Zi,Zaa,orB,ZbG,Zbe,asB,ZH,pks,pk,Ze,Zb,Zk,ZN,ZM,hin,ZJ,rdA,rdP,List.getElem?_cons_succ,List.getElem?_cons_zero,Option.bind,Option.map,a1,a2,a3,a4,a5,a6,a7,a8,q,hc,han,Bool.not_true]
theorem Zj9 (s0:Sl):∀ (ts:List (List At×Int×List Int)) (s1:Sl),(∀ t∈ts,t.1.length≤1000)→∃ s1',ZY (Zm 1) Zbw (ts.map fun t=>.tup [lnD t.1,cel t.2.1 t.2.2]) [s0,s1]=.next [s0,s1']
 | [],s1,_=>⟨s1,rfl⟩
 | t::ts,s1,h=>by
  obtain ⟨s1',e⟩:=Zj9 s0 ts (.val (.tup [lnD t.1,cel t.2.1 t.2.2])) fun u hu=>h u (List.mem_cons_of_mem _ hu)
  refine ⟨s1',?_⟩
  have e1:=ZpU s0 t.1 (h t List.mem_cons_self) t.2.1 t.2.2
  simp only [List.map_cons,ZY,Zm,List.set_cons_succ,List.set_cons_zero,e1,e]
def tbE (acc:List Ent):List (List At×Int×List Int):=(Zbc ltL (ZF acc)).map fun k=>(k,(Z4 acc k).getD (0,[]))
theorem Zlg (acc:List Ent):ZcD acc=(tbE acc).map fun t=>.tup [lnD t.1,cel t.2.1 t.2.2]:=by
 unfold ZcD tbE
 rw [List.map_map];rfl
theorem Znc {acc:List Ent} {n m:Nat} (h:AccOk acc n m) (hn:n≤1000):(∀ t∈tbE acc,t.1.length≤1000)∧(tbE acc).length≤m:=by
 refine ⟨fun t ht=>?_,?_⟩
 ·obtain ⟨k,hk,rfl⟩:=List.mem_map.mp ht
  have:=h.kl k ((Za6 ltL _).mem_iff.mp hk)
  show k.length≤1000
  omega
 ·unfold tbE
  rw [List.length_map,(Za6 ltL _).length_eq]
  unfold ZF
  rw [List.length_map];exact h.len
theorem ZjV {acc:List Ent} {n m:Nat} (h:AccOk acc n m) (hn:n≤1000) (hm:m<1000):F_law_is_table [.lent (ZcD acc)]=some (.val (.bl true)):=by
 obtain ⟨h1,h2⟩:=Znc h hn
 rw [Zlg]
 obtain ⟨s',e⟩:=Zj9 (.lent ((tbE acc).map fun t=>D.tup [lnD t.1,cel t.2.1 t.2.2])) (tbE acc) .no h1
 generalize ((tbE acc).map fun t=>D.tup [lnD t.1,cel t.2.1 t.2.2])=T at *
 have a1:isD [.lst T,.ty "list"]=some (.bl true):=by simp
 refine Zal rfl ?_
 show ZbV [.lent T,.no]=_
 simp only [ZbV,Zi,Zaa,ZbG,Zbe,Zaw,ZQ,ZH,pks,pk,Zb,Zk,ZJ,rdA,rdQ,List.getElem?_cons_succ,List.getElem?_cons_zero,Option.bind,Option.map,a1,e,Bool.not_true]
theorem ZeY {d:D} (h:okD 12 d=true):eqO d d=some (.bl true)∧neO d d=some (.bl false):=by
 have h2:=Zjf 12 d h
 simp only [eqO,neO,ZeK,h,h2,Bool.and_self,if_true,Bool.not_true,and_self]
theorem Zpo (acc:List Ent):okD 12 (.lst (ZcD acc))=true:=by
 rw [Zlg]
 show ((tbE acc).map _).all (okD 11)=true
 rw [List.all_map,List.all_eq_true]
 intro t _
 show [lnD t.1,cel t.2.1 t.2.2].all (okD 10)=true
 rw [Zna]
 simp only [List.all_cons,List.all_nil,Zdt 9,Bool.and_self]
theorem Zob (Ls:List (List (List At))) (rows:List (List At×Int)):okD 12 (.lst [.lst (Ls.map ldD),.lst (rows.map Zak)])=true:=by
 have h1:okD 11 (.lst (Ls.map ldD))=true:=by
  show (Ls.map ldD).all (okD 10)=true
  rw [List.all_map,List.all_eq_true]
  intro ls _
  show (ls.map lnD).all (okD 9)=true
  rw [List.all_map,List.all_eq_true]
  exact fun l _=>Zdt 8 l
 have h2:okD 11 (.lst (rows.map Zak))=true:=by
  show (rows.map Zak).all (okD 10)=true
  rw [List.all_map,List.all_eq_true]
  intro r _
  show [lnD r.1,.int r.2].all (okD 9)=true
  simp only [List.all_cons,List.all_nil,Zdt 8,Bool.and_self,okD]
 show [D.lst (Ls.map ldD),.lst (rows.map Zak)].all (okD 11)=true
 simp only [List.all_cons,List.all_nil,h1,h2,Bool.and_self]
theorem ZkN {Ls:List (List (List At))} {g:List Nat} (h:Axs Ls g) (hz:Ls.length≤4) (s0 s2 s4 s6:Sl) (HD:D) (hh:ixD HD (.int 0)=some (.lst (Ls.map ldD))):∀ (rows:List (List At×Int)) (s7 s8 s9:Sl),(∀ r∈rows,Spot Ls r.1) →
  ∃ s7' s8' s9',ZY (Z8 2 (Zu (Zm 7) (Zu (Zm 8) Z9))) Zf6 (rows.map Zak) [s0,.val (.lst (Ls.map ldD)),s2,.val (grD g),s4,.val HD,s6,s7,s8,s9]=.next [s0,.val (.lst (Ls.map ldD)),s2,.val (grD g),s4,.val HD,s6,s7',s8',s9']
 | [],s7,s8,s9,_=>⟨s7,s8,s9,rfl⟩
 | r::rows,s7,s8,s9,hr=>by
  have hs:=hr r List.mem_cons_self
  obtain ⟨a,b,c,e2⟩:=ZkN h hz s0 s2 s4 s6 HD hh rows (.val (lnD r.1)) (.val (.int r.2)) (.val (lnD (ZaD Ls r.1 g))) fun q hq=>hr q (List.mem_cons_of_mem _ hq)
  refine ⟨a,b,c,?_⟩
  have k1:=Zme h hs hz
  have k2:=Zfp h hs hz
  have e1:Zf6 [s0,.val (.lst (Ls.map ldD)),s2,.val (grD g),s4,.val HD,s6,.val (lnD r.1),.val (.int r.2),s9]=.next [s0,.val (.lst (Ls.map ldD)),s2,.val (grD g),s4,.val HD,s6,.val (lnD r.1),.val (.int r.2),.val (lnD (ZaD Ls r.1 g))]:=by
   generalize ZaD Ls r.1 g=k at *
   generalize Ls.map ldD=L at *
   have a1:isD [lnD k,.ty "tuple"]=some (.bl true):=by simp [lnD]
   have a2:=(ZeY (Zdt 11 k)).2
   simp only [Zf6,Zi,ZL,Zaa,orB,ZbG,Zbe,asB,Zr,ZH,pks,pk,Ze,Zb,Zk,rdA,rdP,List.getElem?_cons_succ,List.getElem?_cons_zero,List.set_cons_succ,List.set_cons_zero,Option.bind,Option.map,hh,k1,k2,Za7,a1,a2,Bool.not_true]
  simp only [List.map_cons,Zak,ZY,Z8,Zu,Zm,Z9,List.length_cons,List.length_nil,if_true,List.set_cons_succ,List.set_cons_zero,Option.bind]
  rw [e1]
  exact e2
theorem Zno (ns:List Int) (hl:ns.length≤63):F_law [.val (.lst (ns.map D.int))]=some (.val (.bl true)):=by
 obtain ⟨Ls,hL,h0,hz,e1⟩:=ZlH ns
 obtain ⟨rows,hrl,hr,e2⟩:=ZjO ns hl Ls hL hz
 have c4:F_law_cell_at [.val (.lst (ns.map D.int)),.val (.int 4)]=some (.val (.int (ns.getD 4 0))):=Zdi (.val (.lst (ns.map D.int))) ns (.inl rfl) 4 (by omega)
 generalize ns.getD 4 0=c at *
 obtain ⟨g,hA,e3⟩:=Zoj c Ls hL hz
 obtain ⟨e4,ok⟩:=ZfM hA hz rows hr hrl
 have e5:=Zgd hA h0 hz rows hr hrl
 have e6:=Zgd hA h0 hz [] (fun _ h=>nomatch h) (by simp)
 have e6':ZcD (Zck Ls g [] [])=[]:=rfl
 rw [e6',List.map_nil] at e6
 have e7:=ZjV ok (by omega) (by omega)
 obtain ⟨q1,q2⟩:=ZeY (Zpo (Zck Ls g rows []))
 obtain ⟨q3,q4⟩:=ZeY (Zob Ls rows)
 have q5:eqO (.lst []) (.lst [])=some (.bl true):=(ZeY (d:=.lst []) rfl).1
 have hc:=ZaA (b:=Zm 0) (e:=Zkg) (ρ:=[.no]) ldD ldD Ls fun ls _=>⟨[.val (ldD ls)],rfl,rfl⟩
 have s1:=ZK (Ls.map ldD) (by simp;omega)
 have s2:Zo (some [D.lst (Ls.map ldD),.lst (rows.map Zak)])=some [D.lst (Ls.map ldD),.lst (rows.map Zak)]:=ZK _ (by simp)
 have i0:ixD (.lst [D.lst (Ls.map ldD),.lst (rows.map Zak)]) (.int 0)=some (.lst (Ls.map ldD)):=rfl
 have i1:ixD (.lst [D.lst (Ls.map ldD),.lst (rows.map Zak)]) (.int 1)=some (.lst (rows.map Zak)):=rfl
 have hlen:(ZcD (Zck Ls g rows [])).length<sizeLine:=by
  rw [Zlg,List.length_map]
  exact Nat.lt_of_le_of_lt (Znc ok (by omega)).2 (Nat.lt_of_lt_of_le (show rows.length<64 by omega) (by decide))
 have hrun:=fun s6=>ZkN hA hz (.val (.lst (ns.map D.int))) (.val (.lst (rows.map Zak))) (.val (.lst (ZcD (Zck Ls g rows [])))) s6 (.lst [D.lst (Ls.map ldD),.lst (rows.map Zak)]) i0 rows .no .no .no hr
 have s3:Zo (some ([]:List D))=some []:=rfl
 generalize ZcD (Zck Ls g rows [])=T at *
 obtain ⟨x7,x8,x9,hr1⟩:=hrun (.own (T++[.lst (ZbJ T none (some 1))]))
 generalize rows.map Zak=R at *
 generalize Ls.map ldD=L at *
 generalize ns.map D.int=N at *
 refine Zal rfl ?_
 show Zia [.val (.lst N),.no,.no,.no,.no,.no,.no,.no,.no,.no]=_
 have hin:∀ d e f,ZU 1 [] [.val (.lst N),.val (.lst L),.val (.lst R),.val d,.val e,f,.no,.no,.no,.no]=[.no]:=fun _ _ _=>rfl
 simp only [Zia,Zka,Zkb,Zkm,Zkw,ZkH,ZkR,ZkJ,Zj2,ZkF,Zko,Zki,ZkI,Zkj,ZkQ,Zku,ZkB,Zkd,ZkK,ZkT,ZkO,Zi,ZL,ZaM,Zaa,Zbd,Zaw,ZQ,blO,ZiB,orB,ZbG,Zbe,asB,Zr,ZdQ,ZH,Zc7,ZjG,pks,pk,Ze,Zb,Zk,Zw,ZN,ZM,hin,ZJ,sl3,slD,asI,rdQ,rdA,rdP,rdV,rdO,List.getElem?_cons_succ,List.getElem?_cons_zero,List.set_cons_succ,List.set_cons_zero,Option.bind,Option.map,e1,Zf8,e2,c4,Za7,e3,e4,s1,hc,s2,i0,i1,e5,rvF,e7,q2,q4,Bool.not_true,hlen,if_true,hr1,q1,s3,e6,q5]
def top (i:Nat):Stmt:=PySem.Challenge.pw_cubebook_k32_table_of_rows.main.body.getD i (.Pass ⟨0,0,0,0⟩)
abbrev Zct:Stmt:=top 1
abbrev ZcQ:Stmt:=top 2
abbrev Zb1:Stmt:=top 4
abbrev Zbm:Stmt:=top 6
abbrev Zbq:Stmt:=top 7
abbrev Zb4:Stmt:=top 8
abbrev Zcs:Stmt:=top 10
abbrev Zhg:Stmt:=top 11
abbrev ZcO:Stmt:=top 12
abbrev Zch:Stmt:=top 14
abbrev Zcf:Stmt:=top 16
abbrev ZbM:Stmt:=top 17
abbrev ZaS:Stmt:=top 18
abbrev Zah:Stmt:=top 19
abbrev Zbt:Stmt:=top 20
abbrev Za3:Stmt:=top 22
abbrev Zbn:Stmt:=top 23
abbrev ZbZ:Stmt:=top 24
abbrev ZbE:Stmt:=top 25
abbrev Zbi:Stmt:=top 26
abbrev Za2:Stmt:=top 27
abbrev ZbP:Stmt:=top 28
abbrev ZbX:Stmt:=top 29
abbrev ZcG:Stmt:=top 30
abbrev ZaX:Stmt:=top 31
abbrev Zau:Stmt:=top 32
abbrev Za0:Stmt:=top 33
abbrev Zbf:Stmt:=top 34
abbrev ZbC:Stmt:=top 35
abbrev Zas:Stmt:=top 36
abbrev Za5:Stmt:=top 37
abbrev Ze4:Stmt:=top 38
structure AD where
 a_cell_of:Addr
 d_cell_of:FuncData
 a_merged:Addr
 d_merged:FuncData
 a_is_whole:Addr
 d_is_whole:FuncData
 a_value_rank:Addr
 d_value_rank:FuncData
 a_key_rank:Addr
 d_key_rank:FuncData
 a_in_order:Addr
 d_in_order:FuncData
 a_line_at:Addr
 d_line_at:FuncData
 a_up:Addr
 d_up:FuncData
 a_lifts:Addr
 d_lifts:FuncData
 a_finest:Addr
 d_finest:FuncData
 a_key_at:Addr
 d_key_at:FuncData
 a_ways_up:Addr
 d_ways_up:FuncData
 a_goes_along:Addr
 d_goes_along:FuncData
 a_merged_along:Addr
 d_merged_along:FuncData
 a_table_of:Addr
 d_table_of:FuncData
 a_law_cell_at:Addr
 d_law_cell_at:FuncData
 a_law_stream:Addr
 d_law_stream:FuncData
 a_law_word:Addr
 d_law_word:FuncData
 a_law_value:Addr
 d_law_value:FuncData
 a_law_ladder:Addr
 d_law_ladder:FuncData
 a_law_ladders:Addr
 d_law_ladders:FuncData
 a_law_row:Addr
 d_law_row:FuncData
 a_law_rank:Addr
 d_law_rank:FuncData
 a_law_up:Addr
 d_law_up:FuncData
 a_law_key_at:Addr
 d_law_key_at:FuncData
 a_law_key_rank:Addr
 d_law_key_rank:FuncData
 a_law_cell_of:Addr
 d_law_cell_of:FuncData
 a_law_table:Addr
 d_law_table:FuncData
 a_law_grain:Addr
 d_law_grain:FuncData
 a_law_is_table:Addr
 d_law_is_table:FuncData
 a_law_rows:Addr
 d_law_rows:FuncData
 a_law:Addr
 d_law:FuncData
structure Tx (K:PySem.W.Frag) (mg:Str→Option Value) (d:AD):Prop where
 m_cell_of:mg "cell_of"=some (.ref d.a_cell_of)
 F_cell_of:Fun K "cell_of" "cell_of" Zct d.a_cell_of d.d_cell_of
 b_cell_of:Binds K d.d_cell_of ["amounts"] []
 m_merged:mg "merged"=some (.ref d.a_merged)
 F_merged:Fun K "merged" "merged" ZcQ d.a_merged d.d_merged
 b_merged:Binds K d.d_merged ["one","other"] []
 m_is_whole:mg "is_whole"=some (.ref d.a_is_whole)
 F_is_whole:Fun K "is_whole" "is_whole" Zb1 d.a_is_whole d.d_is_whole
 b_is_whole:Binds K d.d_is_whole ["thing"] []
 m_value_rank:mg "value_rank"=some (.ref d.a_value_rank)
 F_value_rank:Fun K "value_rank" "value_rank" Zbm d.a_value_rank d.d_value_rank
 b_value_rank:Binds K d.d_value_rank ["thing"] []
 m_key_rank:mg "key_rank"=some (.ref d.a_key_rank)
 F_key_rank:Fun K "key_rank" "key_rank" Zbq d.a_key_rank d.d_key_rank
 b_key_rank:Binds K d.d_key_rank ["key"] []
 m_in_order:mg "in_order"=some (.ref d.a_in_order)
 F_in_order:Fun K "in_order" "in_order" Zb4 d.a_in_order d.d_in_order
 b_in_order:Binds K d.d_in_order ["keys"] []
 m_line_at:mg "line_at"=some (.ref d.a_line_at)
 F_line_at:Fun K "line_at" "line_at" Zcs d.a_line_at d.d_line_at
 b_line_at:Binds K d.d_line_at ["line","level"] []
 m_up:mg "up"=some (.ref d.a_up)
 F_up:Fun K "up" "up" Zhg d.a_up d.d_up
 b_up:Binds K d.d_up ["ladder","value","level"] []
 m_lifts:mg "lifts"=some (.ref d.a_lifts)
 F_lifts:Fun K "lifts" "lifts" ZcO d.a_lifts d.d_lifts
 b_lifts:Binds K d.d_lifts ["ladder","level","other"] []
 m_finest:mg "finest"=some (.ref d.a_finest)
 F_finest:Fun K "finest" "finest" Zch d.a_finest d.d_finest
 b_finest:Binds K d.d_finest ["ladders"] []
 m_key_at:mg "key_at"=some (.ref d.a_key_at)
 F_key_at:Fun K "key_at" "key_at" Zcf d.a_key_at d.d_key_at
 b_key_at:Binds K d.d_key_at ["ladders","key","grain"] []
 m_ways_up:mg "ways_up"=some (.ref d.a_ways_up)
 F_ways_up:Fun K "ways_up" "ways_up" ZbM d.a_ways_up d.d_ways_up
 b_ways_up:Binds K d.d_ways_up ["ladders","grain","to"] []
 m_goes_along:mg "goes_along"=some (.ref d.a_goes_along)
 F_goes_along:Fun K "goes_along" "goes_along" ZaS d.a_goes_along d.d_goes_along
 b_goes_along:Binds K d.d_goes_along ["ways","key"] []
 m_merged_along:mg "merged_along"=some (.ref d.a_merged_along)
 F_merged_along:Fun K "merged_along" "merged_along" Zah d.a_merged_along d.d_merged_along
 b_merged_along:Binds K d.d_merged_along ["ways","table"] []
 m_table_of:mg "table_of"=some (.ref d.a_table_of)
 F_table_of:Fun K "table_of" "table_of" Zbt d.a_table_of d.d_table_of
 b_table_of:Binds K d.d_table_of ["ladders","rows","grain"] []
 m_law_cell_at:mg "_law_cell_at"=some (.ref d.a_law_cell_at)
 F_law_cell_at:Fun K "_law_cell_at" "_law_cell_at" Za3 d.a_law_cell_at d.d_law_cell_at
 b_law_cell_at:Binds K d.d_law_cell_at ["_law_script","_law_k"] []
 m_law_stream:mg "_law_stream"=some (.ref d.a_law_stream)
 F_law_stream:Fun K "_law_stream" "_law_stream" Zbn d.a_law_stream d.d_law_stream
 b_law_stream:Binds K d.d_law_stream ["_law_cell","_law_place"] []
 m_law_word:mg "_law_word"=some (.ref d.a_law_word)
 F_law_word:Fun K "_law_word" "_law_word" ZbZ d.a_law_word d.d_law_word
 b_law_word:Binds K d.d_law_word ["_law_cell","_law_many"] []
 m_law_value:mg "_law_value"=some (.ref d.a_law_value)
 F_law_value:Fun K "_law_value" "_law_value" ZbE d.a_law_value d.d_law_value
 b_law_value:Binds K d.d_law_value ["_law_way","_law_cell","_law_k"] []
 m_law_ladder:mg "_law_ladder"=some (.ref d.a_law_ladder)
 F_law_ladder:Fun K "_law_ladder" "_law_ladder" Zbi d.a_law_ladder d.d_law_ladder
 b_law_ladder:Binds K d.d_law_ladder ["_law_cell","_law_many","_law_places"] []
 m_law_ladders:mg "_law_ladders"=some (.ref d.a_law_ladders)
 F_law_ladders:Fun K "_law_ladders" "_law_ladders" Za2 d.a_law_ladders d.d_law_ladders
 b_law_ladders:Binds K d.d_law_ladders ["_law_script"] []
 m_law_row:mg "_law_row"=some (.ref d.a_law_row)
 F_law_row:Fun K "_law_row" "_law_row" ZbP d.a_law_row d.d_law_row
 b_law_row:Binds K d.d_law_row ["_law_cell","_law_place","_law_ladders_here"] []
 m_law_rank:mg "_law_rank"=some (.ref d.a_law_rank)
 F_law_rank:Fun K "_law_rank" "_law_rank" ZbX d.a_law_rank d.d_law_rank
 b_law_rank:Binds K d.d_law_rank ["_law_value_here"] []
 m_law_up:mg "_law_up"=some (.ref d.a_law_up)
 F_law_up:Fun K "_law_up" "_law_up" ZcG d.a_law_up d.d_law_up
 b_law_up:Binds K d.d_law_up ["_law_ladder_here","_law_value_here","_law_level"] []
 m_law_key_at:mg "_law_key_at"=some (.ref d.a_law_key_at)
 F_law_key_at:Fun K "_law_key_at" "_law_key_at" ZaX d.a_law_key_at d.d_law_key_at
 b_law_key_at:Binds K d.d_law_key_at ["_law_ladders_here","_law_spot","_law_grain_here"] []
 m_law_key_rank:mg "_law_key_rank"=some (.ref d.a_law_key_rank)
 F_law_key_rank:Fun K "_law_key_rank" "_law_key_rank" Zau d.a_law_key_rank d.d_law_key_rank
 b_law_key_rank:Binds K d.d_law_key_rank ["_law_spot"] []
 m_law_cell_of:mg "_law_cell_of"=some (.ref d.a_law_cell_of)
 F_law_cell_of:Fun K "_law_cell_of" "_law_cell_of" Za0 d.a_law_cell_of d.d_law_cell_of
 b_law_cell_of:Binds K d.d_law_cell_of ["_law_amounts"] []
 m_law_table:mg "_law_table"=some (.ref d.a_law_table)
 F_law_table:Fun K "_law_table" "_law_table" Zbf d.a_law_table d.d_law_table
 b_law_table:Binds K d.d_law_table ["_law_ladders_here","_law_rows_here","_law_grain_here"] []
 m_law_grain:mg "_law_grain"=some (.ref d.a_law_grain)
 F_law_grain:Fun K "_law_grain" "_law_grain" ZbC d.a_law_grain d.d_law_grain
 b_law_grain:Binds K d.d_law_grain ["_law_cell","_law_ladders_here"] []
 m_law_is_table:mg "_law_is_table"=some (.ref d.a_law_is_table)
 F_law_is_table:Fun K "_law_is_table" "_law_is_table" Zas d.a_law_is_table d.d_law_is_table
 b_law_is_table:Binds K d.d_law_is_table ["_law_found"] []
 m_law_rows:mg "_law_rows"=some (.ref d.a_law_rows)
 F_law_rows:Fun K "_law_rows" "_law_rows" Za5 d.a_law_rows d.d_law_rows
 b_law_rows:Binds K d.d_law_rows ["_law_script","_law_ladders_here"] []
 m_law:mg "law"=some (.ref d.a_law)
 F_law:Fun K "law" "law" Ze4 d.a_law d.d_law
 b_law:Binds K d.d_law ["_law_script"] []
 n_all:mg "all"=none
 n_any:mg "any"=none
 n_bool:mg "bool"=none
 n_dict:mg "dict"=none
 n_enumerate:mg "enumerate"=none
 n_int:mg "int"=none
 n_isinstance:mg "isinstance"=none
 n_len:mg "len"=none
 n_list:mg "list"=none
 n_max:mg "max"=none
 n_min:mg "min"=none
 n_range:mg "range"=none
 n_sorted:mg "sorted"=none
 n_str:mg "str"=none
 n_sum:mg "sum"=none
 n_tuple:mg "tuple"=none
 n_zip:mg "zip"=none
section
variable {P:Program} {w:World} {K:PySem.W.Frag} {mg:Str→Option Value} {base:Heap} {d:AD}
theorem ZlB:ZA ["amounts"] ["amounts"] (Zg Zct):=⟨rfl,rfl,rfl,by decide +kernel,rfl,by decide +kernel,by decide +kernel⟩
theorem ZlA (T:Tx K mg d):FnOk P w K mg base CX0 1 d.a_cell_of d.d_cell_of ["amounts"] (spD K F_cell_of) :=
 by
 refine ZS (N:=["amounts"]) (ps:=["amounts"]) T.F_cell_of ZlB (by decide) (g:=Zf0) (fun cdv A outer s H E M H0 hr=>?_)
 refine ZR (Zc (Zy (Zag (Za (Zh (ZC ZbK ZcY (by rfl) T.n_len (by rfl) (Za (Zt 0) Zf))) (Za (Zh (ZC (Zht rfl) ZlY (by rfl) T.n_sum (by rfl) (Za (Zt 0) Zf))) (Za (Zh (ZC (Zmf rfl) ZpF (by rfl) T.n_min (by rfl) (Za (Zt 0) Zf))) (Za (Zh (ZC (Zl9 rfl) Zp3 (by rfl) T.n_max (by rfl) (Za (Zt 0) Zf))) Zf))))))
   Zj) ?_
 rfl
theorem Zmt:ZA ["one","other"] ["one","other"] (Zg ZcQ):=⟨rfl,rfl,rfl,by decide +kernel,rfl,by decide +kernel,by decide +kernel⟩
theorem Zmh (T:Tx K mg d):FnOk P w K mg base CX0 1 d.a_merged d.d_merged ["one","other"] (spD K F_merged) :=
 by
 refine ZS (N:=["one","other"]) (ps:=["one","other"]) T.F_merged Zmt (by decide) (g:=Zgo) (fun cdv A outer s H E M H0 hr=>?_)
 refine ZR (Zc (Zy (Zag (Za (Zh (Zv (j_p (Zn (Zl 0) (j_p Zd) (fun _ _=>rfl))) (j_p (Zn (Zl 1) (j_p Zd) (fun _ _=>rfl))))) (Za (Zh (Zv (j_p (Zn (Zl 0) (j_p Zd) (fun _ _=>rfl))) (j_p (Zn (Zl 1) (j_p Zd) (fun _ _=>rfl))))) (Za (Zh (ZC (ZlW rfl) ZoX (by rfl) T.n_min (by rfl) (Za (Zh (Zn (Zl 0) (j_p Zd) (fun _ _=>rfl))) (Za (Zh (Zn (Zl 1) (j_p Zd) (fun _ _=>rfl))) Zf)))) (Za (Zh (ZC (Zml rfl) Zo9 (by rfl) T.n_max (by rfl) (Za (Zh (Zn (Zl 0) (j_p Zd) (fun _ _=>rfl))) (Za (Zh (Zn (Zl 1) (j_p Zd) (fun _ _=>rfl))) Zf)))) Zf))))))
   Zj) ?_
 rfl
theorem ZjL:ZA ["thing"] ["thing"] (Zg Zb1):=⟨rfl,rfl,rfl,by decide +kernel,rfl,by decide +kernel,by decide +kernel⟩
theorem ZjU (T:Tx K mg d):FnOk P w K mg base CX0 1 d.a_is_whole d.d_is_whole ["thing"] (spD K F_is_whole) :=
 by
 refine ZS (N:=["thing"]) (ps:=["thing"]) T.F_is_whole ZjL (by decide) (g:=Ze3) (fun cdv A outer s H E M H0 hr=>?_)
 refine ZR (Zc (Zy (ZjE (ZC Zbu Zdm (by rfl) T.n_isinstance (by rfl) (Za (Zt 0) (Za (Zh (Zbv (n:="int") (by rfl) T.n_int (by rfl))) Zf))) (ZiZ (Zoa (ZC Zbu Zdm (by rfl) T.n_isinstance (by rfl) (Za (Zt 0) (Za (Zh (Zbv (n:="bool") (by rfl) T.n_bool (by rfl))) Zf)))))))
   Zj) ?_
 rfl
theorem ZlL:ZA ["line","level"] ["line","level"] (Zg Zcs):=⟨rfl,rfl,rfl,by decide +kernel,rfl,by decide +kernel,by decide +kernel⟩
theorem ZgH (T:Tx K mg d):FnOk P w K mg base CX0 1 d.a_line_at d.d_line_at ["line","level"] (spD K F_line_at) :=
 by
 refine ZS (N:=["line","level"]) (ps:=["line","level"]) T.F_line_at ZlL (by decide) (g:=ZdW) (fun cdv A outer s H E M H0 hr=>?_)
 refine ZR (Zc (Zy (ZgM (Ziz hr.units (Zl 1) (j_p (ZC ZbK ZcY (by rfl) T.n_len (by rfl) (Za (Zt 0) Zf)))) (Zn (Zl 0) (Zl 1) (fun _ _=>rfl)) Zgf))
   Zj) ?_
 rfl
theorem Zl6:ZA ["ladders"] ["ladders"] (Zg Zch):=⟨rfl,rfl,rfl,by decide +kernel,rfl,by decide +kernel,by decide +kernel⟩
theorem Zm1 (T:Tx K mg d):FnOk P w K mg base CX0 1 d.a_finest d.d_finest ["ladders"] (spD K F_finest) :=
 by
 refine ZS (N:=["ladders"]) (ps:=["ladders"]) T.F_finest Zl6 (by decide) (g:=Ze7) (fun cdv A outer s H E M H0 hr=>?_)
 refine ZR (Zc (Zy (Zai Zao ZbQ (by rfl) T.n_tuple (by rfl) (Za (Zh (Zay (Z0 ["ladder"] [] [] (show Z2 ["ladder"] [] _ (Zg Zch) from ⟨rfl,by decide +kernel,by decide +kernel,by decide +kernel,by decide +kernel,by decide +kernel⟩) rfl rfl  (Zae (ZaT 0)) (fun _ _ _ _ _ _ _=>(Zp (i:=0) (show ((["ladder"]:List Str)++([]:List Str)).Nodup by decide +kernel) rfl (Or.inl rfl))) (fun _ _ _ _ _ _ _=>Z7) (fun _ _ _ _ _ _ _=>Zd) (by decide)))) Zf)))
   Zj) ?_
 rfl
theorem ZhZ:ZA ["ways","key"] ["ways","key"] (Zg ZaS):=⟨rfl,rfl,rfl,by decide +kernel,rfl,by decide +kernel,by decide +kernel⟩
theorem ZhY (T:Tx K mg d):FnOk P w K mg base CX0 1 d.a_goes_along d.d_goes_along ["ways","key"] (spD K F_goes_along) :=
 by
 refine ZS (N:=["ways","key"]) (ps:=["ways","key"]) T.F_goes_along ZhZ (by decide) (g:=Zcz) (fun cdv A outer s H E M H0 hr=>?_)
 refine ZR (Zc (Zy (ZC (ZnX rfl) Zqh (by rfl) T.n_all (by rfl) (Za (Zh (Zay (Z0 ["way","value"] [] [] (show Z2 ["way","value"] [] _ (Zg ZaS) from ⟨rfl,by decide +kernel,by decide +kernel,by decide +kernel,by decide +kernel,by decide +kernel⟩) rfl rfl  (ZiS (by rfl) T.n_zip (ZaT 0) (ZaT 1)) (fun _ _ _ _ _ _ _=>(ZaG (n:=2) rfl (ZB (Zp (i:=0) (show ((["way","value"]:List Str)++([]:List Str)).Nodup by decide +kernel) rfl (Or.inl rfl)) (ZB (Zp (i:=1) (show ((["way","value"]:List Str)++([]:List Str)).Nodup by decide +kernel) rfl (Or.inl rfl)) Zap)))) (fun _ _ _ _ _ _ _=>Z7) (fun _ _ _ _ _ _ _=>(Znj hr.units (Zl 1) (Zl 0))) (by decide)))) Zf)))
   Zj) ?_
 rfl
theorem Zg6:ZA ["_law_script","_law_k"] ["_law_script","_law_k"] (Zg Za3):=⟨rfl,rfl,rfl,by decide +kernel,rfl,by decide +kernel,by decide +kernel⟩
theorem Zbh (T:Tx K mg d):FnOk P w K mg base CX0 1 d.a_law_cell_at d.d_law_cell_at ["_law_script","_law_k"] (spD K F_law_cell_at) :=
 by
 refine ZS (N:=["_law_script","_law_k"]) (ps:=["_law_script","_law_k"]) T.F_law_cell_at Zg6 (by decide) (g:=Zcd) (fun cdv A outer s H E M H0 hr=>?_)
 refine ZR (Zc (Zac (Ziz hr.units (Zl 1) (j_p (ZC ZbK ZcY (by rfl) T.n_len (by rfl) (Za (Zt 0) Zf))))
   (Zc (Zy (Zn (Zl 0) (Zl 1) (fun _ _=>rfl)))
   Zj)
   Zj)
   (Zc (Zy Zd)
   Zj)) ?_
 rfl
theorem sc_law_stream:ZA ["_law_cell","_law_place","_law_number","_law_some","_law_k"] ["_law_cell","_law_place"] (Zg Zbn):=⟨rfl,rfl,rfl,by decide +kernel,rfl,by decide +kernel,by decide +kernel⟩
theorem Zdb (T:Tx K mg d):FnOk P w K mg base CX0 1 d.a_law_stream d.d_law_stream ["_law_cell","_law_place"] (spD K F_law_stream) :=
 by
 refine ZS (N:=["_law_cell","_law_place","_law_number","_law_some","_law_k"]) (ps:=["_law_cell","_law_place"]) T.F_law_stream sc_law_stream (by decide) (g:=ZdL) (fun cdv A outer s H E M H0 hr=>?_)
 refine ZR (Zc (ZE (i:=2) sc_law_stream.nd rfl (Or.inl rfl) (ZG (j_p (Zv (Zl 0) (j_p (Zbb (j_p Zd) (Zl 1))))) (j_p Zd)))
   (Zc (Zbo (i:=3) sc_law_stream.nd rfl (Or.inl rfl) (Zab Zf))
   (Zc (Zat PassesOwn.never rfl (ZbD (by rfl) T.n_range (Za (Zh Zd) Zf)) (Zp (i:=4) sc_law_stream.nd rfl (Or.inl rfl))
   (Zc (ZE (i:=2) sc_law_stream.nd rfl (Or.inl rfl) (ZG (j_p (Zv (j_p (Zv (j_p (Zbb (Zl 2) (j_p Zd))) (j_p (Zbb (j_p Zd) (Zl 4))))) (j_p Zd))) (j_p Zd)))
   (Zc (ZaN (i:=3) rfl (by first | exact Or.inl rfl | exact Or.inr (Or.inl rfl)) (ZaB (Zl 2) (j_p Zd)))
   Zj)))
   (Zc (Zy (Zcx (Zl 3) (Zco (j_p Zd)) ZdY))
   Zj)))) ?_
 rfl
theorem sc_law_word:ZA ["_law_cell","_law_many","_law_signs","_law_word_here","_law_k"] ["_law_cell","_law_many"] (Zg ZbZ):=⟨rfl,rfl,rfl,by decide +kernel,rfl,by decide +kernel,by decide +kernel⟩
theorem ZjX (T:Tx K mg d):FnOk P w K mg base CX0 1 d.a_law_word d.d_law_word ["_law_cell","_law_many"] (spD K F_law_word) :=
 by
 refine ZS (N:=["_law_cell","_law_many","_law_signs","_law_word_here","_law_k"]) (ps:=["_law_cell","_law_many"]) T.F_law_word sc_law_word (by decide) (g:=ZeZ) (fun cdv A outer s H E M H0 hr=>?_)
 refine ZR (Zc (ZE (i:=2) sc_law_word.nd rfl (Or.inl rfl) Zfc)
   (Zc (ZE (i:=3) sc_law_word.nd rfl (Or.inl rfl) (Zn (Zl 2) (j_p (ZG (Zl 0) (j_p Zd))) (fun _ _=>rfl)))
   (Zc (Zat PassesOwn.never rfl (ZbD (by rfl) T.n_range (Za (Zh (Zbr 1)) Zf)) (Zp (i:=4) sc_law_word.nd rfl (Or.inl rfl))
   (Zc (ZE (i:=3) sc_law_word.nd rfl (Or.inl rfl) (Zv (Zl 3) (j_p (Zn (Zl 2) (j_p (ZG (j_p (ZaB (Zl 0) (j_p (Zv (Zl 4) (j_p Zd))))) (j_p Zd))) (fun _ _=>rfl)))))
   Zj))
   (Zc (Zy (Zbr 3))
   Zj)))) ?_
 rfl
theorem ZjS:ZA ["_law_value_here"] ["_law_value_here"] (Zg ZbX):=⟨rfl,rfl,rfl,by decide +kernel,rfl,by decide +kernel,by decide +kernel⟩
theorem ZjP (T:Tx K mg d):FnOk P w K mg base CX0 1 d.a_law_rank d.d_law_rank ["_law_value_here"] (spD K F_law_rank) :=
 by
 refine ZS (N:=["_law_value_here"]) (ps:=["_law_value_here"]) T.F_law_rank ZjS (by decide) (g:=Ze8) (fun cdv A outer s H E M H0 hr=>?_)
 refine ZR (Zc (Zac (ZiI (Zl 0))
   (Zc (Zy (Zag (Za (Zh Zd) (Za (Zh Zd) (Za (Zh Zfc) Zf)))))
   Zj)
   Zj)
   (Zc (Zac (ZaQ (j_p (ZC Zbu Zdm (by rfl) T.n_isinstance (by rfl) (Za (Zt 0) (Za (Zh (Zbv (n:="int") (by rfl) T.n_int (by rfl))) Zf)))))
   (Zc (Zy (Zag (Za (Zh Zd) (Za (Zh (Zbr 0)) (Za (Zh Zfc) Zf)))))
   Zj)
   Zj)
   (Zc (Zy (Zag (Za (Zh Zd) (Za (Zh Zd) (Za (Zh (Zbr 0)) Zf)))))
   Zj))) ?_
 rfl
theorem sc_law_up:ZA ["_law_ladder_here","_law_value_here","_law_level","_law_line"] ["_law_ladder_here","_law_value_here","_law_level"] (Zg ZcG):=⟨rfl,rfl,rfl,by decide +kernel,rfl,by decide +kernel,by decide +kernel⟩
theorem Znd (T:Tx K mg d):FnOk P w K mg base CX0 1 d.a_law_up d.d_law_up ["_law_ladder_here","_law_value_here","_law_level"] (spD K F_law_up) :=
 by
 refine ZS (N:=["_law_ladder_here","_law_value_here","_law_level","_law_line"]) (ps:=["_law_ladder_here","_law_value_here","_law_level"]) T.F_law_up sc_law_up (by decide) (g:=ZeR) (fun cdv A outer s H E M H0 hr=>?_)
 refine ZR (Zc (Zat PassesOwn.never rfl (Zae (ZaT 0)) (Zp (i:=3) sc_law_up.nd rfl (Or.inl rfl))
   (Zc (Zac (ZdN hr.units (j_p (Zn (Zl 3) (j_p Zd) (fun _ _=>rfl))) (Zl 1))
   (Zc (Zy (Zn (j_p (Zv (Zl 3) (j_p (Zag (Za (Zh Zgf) Zf))))) (Zl 2) (fun _ _=>rfl)))
   Zj)
   Zj)
   Zj))
   (Zc (Zy Zgf)
   Zj)) ?_
 rfl
theorem sc_law_cell_of:ZA ["_law_amounts","_law_some"] ["_law_amounts"] (Zg Za0):=⟨rfl,rfl,rfl,by decide +kernel,rfl,by decide +kernel,by decide +kernel⟩
theorem Zhi (T:Tx K mg d):FnOk P w K mg base CX0 1 d.a_law_cell_of d.d_law_cell_of ["_law_amounts"] (spD K F_law_cell_of) :=
 by
 refine ZS (N:=["_law_amounts","_law_some"]) (ps:=["_law_amounts"]) T.F_law_cell_of sc_law_cell_of (by decide) (g:=Zdd) (fun cdv A outer s H E M H0 hr=>?_)
 refine ZR (Zc (ZE (i:=1) sc_law_cell_of.nd rfl (Or.inl rfl) (Zay (Zk8 Zk5 Znr (by rfl) T.n_sorted (by rfl) (Za (Zt 0) Zf))))
   (Zc (Zy (Zag (Za (Zh (ZC ZbK ZcY (by rfl) T.n_len (by rfl) (Za (Zt 1) Zf))) (Za (Zh (ZC (Zht rfl) ZlY (by rfl) T.n_sum (by rfl) (Za (Zt 1) Zf))) (Za (Zh (Zn (Zl 1) (j_p Zd) (fun _ _=>rfl))) (Za (Zh (Zn (Zl 1) (j_p (Zit (j_p Zd))) (fun _ _=>rfl))) Zf))))))
   Zj)) ?_
 rfl
theorem sc_law_grain:ZA ["_law_cell","_law_ladders_here","_law_levels","_law_k","_law_ladder_here"] ["_law_cell","_law_ladders_here"] (Zg ZbC):=⟨rfl,rfl,rfl,by decide +kernel,rfl,by decide +kernel,by decide +kernel⟩
theorem Zi7 (T:Tx K mg d):FnOk P w K mg base CX0 1 d.a_law_grain d.d_law_grain ["_law_cell","_law_ladders_here"] (spD K F_law_grain) :=
 by
 refine ZS (N:=["_law_cell","_law_ladders_here","_law_levels","_law_k","_law_ladder_here"]) (ps:=["_law_cell","_law_ladders_here"]) T.F_law_grain sc_law_grain (by decide) (g:=ZcW) (fun cdv A outer s H E M H0 hr=>?_)
 refine ZR (Zc (Zbo (i:=2) sc_law_grain.nd rfl (Or.inl rfl) (Zab Zf))
   (Zc (Zat PassesOwn.never rfl (Zc3 (by rfl) T.n_enumerate (ZaT 1)) (ZaG (n:=2) rfl (ZB (Zp (i:=3) sc_law_grain.nd rfl (Or.inl rfl)) (ZB (Zp (i:=4) sc_law_grain.nd rfl (Or.inl rfl)) Zap)))
   (Zc (ZaN (i:=2) rfl (by first | exact Or.inl rfl | exact Or.inr (Or.inl rfl)) (ZG (j_p (ZaB (Zl 0) (j_p (Zn (j_p (Zay (Zab (Za (Zh Zd) (Za (Zh Zd) (Za (Zh Zd) (Za (Zh Zd) Zf))))))) (Zl 3) (fun _ _=>rfl))))) (j_p (Zv (j_p (ZC ZbK ZcY (by rfl) T.n_len (by rfl) (Za (Zh (Zn (Zl 4) (j_p Zd) (fun _ _=>rfl))) Zf))) (j_p Zd)))))
   Zj))
   (Zc (Zy (Zai Zao ZbQ (by rfl) T.n_tuple (by rfl) (Za (Zt 2) Zf)))
   Zj))) ?_
 rfl
theorem sc_law_is_table:ZA ["_law_found","_law_one"] ["_law_found"] (Zg Zas):=⟨rfl,rfl,rfl,by decide +kernel,rfl,by decide +kernel,by decide +kernel⟩
theorem ZgV (T:Tx K mg d):FnOk P w K mg base CX0 1 d.a_law_is_table d.d_law_is_table ["_law_found"] (spD K F_law_is_table) :=
 by
 refine ZS (N:=["_law_found","_law_one"]) (ps:=["_law_found"]) T.F_law_is_table sc_law_is_table (by decide) (g:=ZbV) (fun cdv A outer s H E M H0 hr=>?_)
 refine ZR (Zc (Zac (Zcj (ZaQ (j_p (ZC Zbu Zdm (by rfl) T.n_isinstance (by rfl) (Za (Zt 0) (Za (Zh (Zbv (n:="list") (by rfl) T.n_list (by rfl))) Zf))))))
   (Zc (Zy Zdu)
   Zj)
   Zj)
   (Zc (Zat PassesOwn.never rfl (Zae (ZaT 0)) (Zp (i:=1) sc_law_is_table.nd rfl (Or.inl rfl))
   (Zc (Zac (Zik (ZcK (Zcj (ZaQ (j_p (ZC Zbu Zdm (by rfl) T.n_isinstance (by rfl) (Za (Zt 1) (Za (Zh (Zbv (n:="tuple") (by rfl) T.n_tuple (by rfl))) Zf)))))) (ZcK (Zdx hr.units (j_p (ZC ZbK ZcY (by rfl) T.n_len (by rfl) (Za (Zt 1) Zf))) (j_p Zd)) (ZdO (Zcj (ZaQ (j_p (ZC Zbu Zdm (by rfl) T.n_isinstance (by rfl) (Za (Zh (Zn (Zl 1) (j_p Zd) (fun _ _=>rfl))) (Za (Zh (Zbv (n:="tuple") (by rfl) T.n_tuple (by rfl))) Zf))))))))))
   (Zc (Zy Zdu)
   Zj)
   Zj)
   (Zc (Zac (Zik (ZcK (Zcj (ZaQ (j_p (ZC Zbu Zdm (by rfl) T.n_isinstance (by rfl) (Za (Zh (Zn (Zl 1) (j_p Zd) (fun _ _=>rfl))) (Za (Zh (Zbv (n:="tuple") (by rfl) T.n_tuple (by rfl))) Zf)))))) (ZdO (ZaQ (j_p (ZC (ZnT rfl) Zrk (by rfl) T.n_any (by rfl) (Za (Zh (Zay (Z0 ["_law_part"] [] [] (show Z2 ["_law_part"] [] _ (Zg Zas) from ⟨rfl,by decide +kernel,by decide +kernel,by decide +kernel,by decide +kernel,by decide +kernel⟩) rfl rfl  (Zae (j_q (Zv (j_p (Zn (Zl 1) (j_p Zd) (fun _ _=>rfl))) (j_p (Zn (Zl 1) (j_p Zd) (fun _ _=>rfl)))))) (fun _ _ _ _ _ _ _=>(Zp (i:=0) (show ((["_law_part"]:List Str)++([]:List Str)).Nodup by decide +kernel) rfl (Or.inl rfl))) (fun _ _ _ _ _ _ _=>Z7) (fun _ _ _ _ _ _ _=>(ZC Zbu Zdm (by rfl) T.n_isinstance (by rfl) (Za (Zt 0) (Za (Zh (Zbv (n:="bool") (by rfl) T.n_bool (by rfl))) Zf)))) (by decide)))) Zf)))))))
   (Zc (Zy Zdu)
   Zj)
   Zj)
   Zj)))
   (Zc (Zy Zdu)
   Zj))) ?_
 rfl
theorem Zh5:ZA ["thing"] ["thing"] (Zg Zbm):=⟨rfl,rfl,rfl,by decide +kernel,rfl,by decide +kernel,by decide +kernel⟩
theorem Zh0 (T:Tx K mg d):FnOk P w K mg base CX0 2 d.a_value_rank d.d_value_rank ["thing"] (spD K F_value_rank) :=
 by
 refine ZS (N:=["thing"]) (ps:=["thing"]) T.F_value_rank Zh5 (by decide) (g:=Zdz) (fun cdv A outer s H E M H0 hr=>?_)
 refine ZR (Zc (Zac (ZiI (Zl 0))
   (Zc (Zy (Zag (Za (Zh Zd) (Za (Zh Zd) Zf))))
   Zj)
   Zj)
   (Zc (Zac (ZaQ (j_p (Zq (ZjU T) (hr.mono (by decide)) (by rfl) T.m_is_whole T.F_is_whole.kp T.b_is_whole (E:=E0) ZP (Za (Zt 0) Zf))))
   (Zc (Zy (Zag (Za (Zh Zd) (Za (Zh (Zbr 0)) Zf))))
   Zj)
   Zj)
   (Zc (Zy (Zag (Za (Zh Zd) (Za (Zh (Zbr 0)) Zf))))
   Zj))) ?_
 rfl
theorem ZnP:ZA ["ladder","level","other"] ["ladder","level","other"] (Zg ZcO):=⟨rfl,rfl,rfl,by decide +kernel,rfl,by decide +kernel,by decide +kernel⟩
theorem Zjh (T:Tx K mg d):FnOk P w K mg base CX0 2 d.a_lifts d.d_lifts ["ladder","level","other"] (spD K F_lifts) :=
 by
 refine ZS (N:=["ladder","level","other"]) (ps:=["ladder","level","other"]) T.F_lifts ZnP (by decide) (g:=Zf5) (fun cdv A outer s H E M H0 hr=>?_)
 refine ZR (Zc (Zl0 (Zpt rfl hr.units (by rfl) T.n_dict (j_p (Zay (Z0 ["line"] ["level","other"] [1,2] (show Z2 ["line"] ["level","other"] _ (Zg ZcO) from ⟨rfl,by decide +kernel,by decide +kernel,by decide +kernel,by decide +kernel,by decide +kernel⟩) rfl rfl  (Zae (ZaT 0)) (fun _ _ _ _ _ _ _=>(Zp (i:=0) (show ((["line"]:List Str)++(["level","other"]:List Str)).Nodup by decide +kernel) rfl (Or.inl rfl))) (fun _ _ _ _ _ _ _=>Z7) (fun _ _ _ _ _ _ _=>(Zag (Za (Zh (Zq (ZgH T) (hr.mono (by decide)) (by rfl) T.m_line_at T.F_line_at.kp T.b_line_at (E:=E0) ZP (Za (Zt 0) (Za (Zt 1) Zf)))) (Za (Zh (Zq (ZgH T) (hr.mono (by decide)) (by rfl) T.m_line_at T.F_line_at.kp T.b_line_at (E:=E0) ZP (Za (Zt 0) (Za (Zt 2) Zf)))) Zf)))) (by decide))))))
   Zj) ?_
 rfl
theorem sc_law_value:ZA ["_law_way","_law_cell","_law_k","_law_number","_law_word_here","_law_letters","_law_at","_law_two"] ["_law_way","_law_cell","_law_k"] (Zg ZbE):=⟨rfl,rfl,rfl,by decide +kernel,rfl,by decide +kernel,by decide +kernel⟩
theorem Zjk (T:Tx K mg d):FnOk P w K mg base CX0 2 d.a_law_value d.d_law_value ["_law_way","_law_cell","_law_k"] (spD K F_law_value) :=
 by
 refine ZS (N:=["_law_way","_law_cell","_law_k","_law_number","_law_word_here","_law_letters","_law_at","_law_two"]) (ps:=["_law_way","_law_cell","_law_k"]) T.F_law_value sc_law_value (by decide) (g:=ZbF) (fun cdv A outer s H E M H0 hr=>?_)
 refine ZR (Zc (ZE (i:=3) sc_law_value.nd rfl (Or.inl rfl) (ZG (j_p (ZaB (Zl 1) (j_p Zd))) (j_p (Zjz (j_p Zd) (j_p Zd)))))
   (Zc (Zac (ZdN hr.units (Zl 0) (j_p Zd))
   (Zc (Zy (Zv (Zl 3) (Zl 2)))
   Zj)
   Zj)
   (Zc (Zac (ZdN hr.units (Zl 0) (j_p Zd))
   (Zc (Zy (ZeU (j_p (ZeU (j_p Zd) (Zl 3))) (Zl 2)))
   Zj)
   Zj)
   (Zc (ZE (i:=4) sc_law_value.nd rfl (Or.inl rfl) (Zq (ZjX T) (hr.mono (by decide)) (by rfl) T.m_law_word T.F_law_word.kp T.b_law_word (E:=E0) ZP (Za (Zh (ZaB (Zl 1) (j_p Zd))) (Za (Zh (ZG (Zl 1) (j_p Zd))) Zf))))
   (Zc (Zac (ZdN hr.units (Zl 0) (j_p Zd))
   (Zc (Zy (Zv (Zl 4) (j_p (ZoW PySem.F.plainAttrs_str PySem.F.slot_str_zfill PySem.F.type_str_zfill Znn Zoi (j_p (Zai Zjc Zpr (by rfl) T.n_str (by rfl) (Za (Zt 2) Zf))) (Za (Zh (Zv (j_p Zd) (j_p (ZG (j_p (ZaB (Zl 1) (j_p Zd))) (j_p Zd))))) Zf)))))
   Zj)
   Zj)
   (Zc (ZE (i:=5) sc_law_value.nd rfl (Or.inl rfl) Zfc)
   (Zc (ZE (i:=6) sc_law_value.nd rfl (Or.inl rfl) (ZG (j_p (ZaB (Zl 1) (j_p Zd))) (j_p (Zv (j_p (ZC ZbK ZcY (by rfl) T.n_len (by rfl) (Za (Zt 4) Zf))) (j_p Zd)))))
   (Zc (ZE (i:=7) sc_law_value.nd rfl (Or.inl rfl) (Zv (j_p (Zn (Zl 5) (j_p (ZaB (Zl 2) (j_p Zd))) (fun _ _=>rfl))) (j_p (Zn (Zl 5) (j_p (ZG (j_p (Zv (Zl 2) (j_p (ZaB (Zl 1) (j_p Zd))))) (j_p Zd))) (fun _ _=>rfl)))))
   (Zc (Zy (Zv (j_p (Zv (j_p (Zcx (Zl 4) ZdY (Zco (Zl 6)))) (Zl 7))) (j_p (Zcx (Zl 4) (Zco (Zl 6)) ZdY))))
   Zj))))))))) ?_
 rfl
theorem sc_law_row:ZA ["_law_cell","_law_place","_law_ladders_here","_law_s","_law_spot","_law_amount"] ["_law_cell","_law_place","_law_ladders_here"] (Zg ZbP):=⟨rfl,rfl,rfl,by decide +kernel,rfl,by decide +kernel,by decide +kernel⟩
theorem ZlG (T:Tx K mg d):FnOk P w K mg base CX0 2 d.a_law_row d.d_law_row ["_law_cell","_law_place","_law_ladders_here"] (spD K F_law_row) :=
 by
 refine ZS (N:=["_law_cell","_law_place","_law_ladders_here","_law_s","_law_spot","_law_amount"]) (ps:=["_law_cell","_law_place","_law_ladders_here"]) T.F_law_row sc_law_row (by decide) (g:=ZcZ) (fun cdv A outer s H E M H0 hr=>?_)
 refine ZR (Zc (ZE (i:=3) sc_law_row.nd rfl (Or.inr rfl) (Zq (Zdb T) (hr.mono (by decide)) (by rfl) T.m_law_stream T.F_law_stream.kp T.b_law_stream (E:=E0) ZP (Za (Zt 0) (Za (Zt 1) Zf))))
   (Zc (ZE (i:=4) sc_law_row.nd rfl (Or.inl rfl) (Zai Zao ZbQ (by rfl) T.n_tuple (by rfl) (Za (Zh (Zay (Z0 ["_law_k","_law_ladder_here"] ["_law_s"] [3] (show Z2 ["_law_k","_law_ladder_here"] ["_law_s"] _ (Zg ZbP) from ⟨rfl,by decide +kernel,by decide +kernel,by decide +kernel,by decide +kernel,by decide +kernel⟩) rfl rfl  (Zc3 (by rfl) T.n_enumerate (ZaT 2)) (fun _ _ _ _ _ _ _=>(ZaG (n:=2) rfl (ZB (Zp (i:=0) (show ((["_law_k","_law_ladder_here"]:List Str)++(["_law_s"]:List Str)).Nodup by decide +kernel) rfl (Or.inl rfl)) (ZB (Zp (i:=1) (show ((["_law_k","_law_ladder_here"]:List Str)++(["_law_s"]:List Str)).Nodup by decide +kernel) rfl (Or.inl rfl)) Zap)))) (fun _ _ _ _ _ _ _=>Z7) (fun _ _ _ _ _ _ _=>(Zn (j_p (Zn (Zl 1) (j_p (ZG (j_p (Zn (Zl 2) (Zl 0) (fun _ _=>rfl))) (j_p (ZC ZbK ZcY (by rfl) T.n_len (by rfl) (Za (Zt 1) Zf))))) (fun _ _=>rfl))) (j_p Zd) (fun _ _=>rfl))) (by decide)))) Zf)))
   (Zc (ZE (i:=5) sc_law_row.nd rfl (Or.inl rfl) (Zbb (j_p (ZG (Zl 0) (j_p (Zjz (j_p Zd) (j_p Zd))))) (j_p (ZeU (j_p Zd) (j_p (Zbb (j_p Zd) (j_p (ZG (j_p (Zn (Zl 3) (j_p Zd) (fun _ _=>rfl))) (j_p Zd)))))))))
   (Zc (Zac (ZdN hr.units (j_p (ZG (j_p (Zn (Zl 3) (j_p Zd) (fun _ _=>rfl))) (j_p Zd))) (j_p Zd))
   (Zc (ZE (i:=5) sc_law_row.nd rfl (Or.inl rfl) (ZeU (j_p (ZG (j_p (Zn (Zl 3) (j_p Zd) (fun _ _=>rfl))) (j_p Zd))) (j_p Zd)))
   Zj)
   Zj)
   (Zc (Zy (Zag (Za (Zh (Zbr 4)) (Za (Zh (Zbr 5)) Zf))))
   Zj))))) ?_
 rfl
theorem Zh1:ZA ["_law_ladders_here","_law_spot","_law_grain_here"] ["_law_ladders_here","_law_spot","_law_grain_here"] (Zg ZaX):=⟨rfl,rfl,rfl,by decide +kernel,rfl,by decide +kernel,by decide +kernel⟩
theorem Zfr (T:Tx K mg d):FnOk P w K mg base CX0 2 d.a_law_key_at d.d_law_key_at ["_law_ladders_here","_law_spot","_law_grain_here"] (spD K F_law_key_at) :=
 by
 refine ZS (N:=["_law_ladders_here","_law_spot","_law_grain_here"]) (ps:=["_law_ladders_here","_law_spot","_law_grain_here"]) T.F_law_key_at Zh1 (by decide) (g:=Zcy) (fun cdv A outer s H E M H0 hr=>?_)
 refine ZR (Zc (Zy (Zai Zao ZbQ (by rfl) T.n_tuple (by rfl) (Za (Zh (Zay (Z0 ["_law_ladder_here","_law_value_here","_law_level"] [] [] (show Z2 ["_law_ladder_here","_law_value_here","_law_level"] [] _ (Zg ZaX) from ⟨rfl,by decide +kernel,by decide +kernel,by decide +kernel,by decide +kernel,by decide +kernel⟩) rfl rfl  (Zm8 (by rfl) T.n_zip (ZaT 0) (ZaT 1) (ZaT 2)) (fun _ _ _ _ _ _ _=>(ZaG (n:=3) rfl (ZB (Zp (i:=0) (show ((["_law_ladder_here","_law_value_here","_law_level"]:List Str)++([]:List Str)).Nodup by decide +kernel) rfl (Or.inl rfl)) (ZB (Zp (i:=1) (show ((["_law_ladder_here","_law_value_here","_law_level"]:List Str)++([]:List Str)).Nodup by decide +kernel) rfl (Or.inl rfl)) (ZB (Zp (i:=2) (show ((["_law_ladder_here","_law_value_here","_law_level"]:List Str)++([]:List Str)).Nodup by decide +kernel) rfl (Or.inl rfl)) Zap))))) (fun _ _ _ _ _ _ _=>Z7) (fun _ _ _ _ _ _ _=>(Zq (Znd T) (hr.mono (by decide)) (by rfl) T.m_law_up T.F_law_up.kp T.b_law_up (E:=E0) ZP (Za (Zt 0) (Za (Zt 1) (Za (Zt 2) Zf))))) (by decide)))) Zf)))
   Zj) ?_
 rfl
theorem ZgW:ZA ["_law_spot"] ["_law_spot"] (Zg Zau):=⟨rfl,rfl,rfl,by decide +kernel,rfl,by decide +kernel,by decide +kernel⟩
theorem ZgJ (T:Tx K mg d):FnOk P w K mg base CX0 2 d.a_law_key_rank d.d_law_key_rank ["_law_spot"] (spD K F_law_key_rank) :=
 by
 refine ZS (N:=["_law_spot"]) (ps:=["_law_spot"]) T.F_law_key_rank ZgW (by decide) (g:=Zb2) (fun cdv A outer s H E M H0 hr=>?_)
 refine ZR (Zc (Zcu (Z0 ["_law_value_here"] [] [] (show Z2 ["_law_value_here"] [] _ (Zg Zau) from ⟨rfl,by decide +kernel,by decide +kernel,by decide +kernel,by decide +kernel,by decide +kernel⟩) rfl rfl  (Zae (ZaT 0)) (fun _ _ _ _ _ _ _=>(Zp (i:=0) (show ((["_law_value_here"]:List Str)++([]:List Str)).Nodup by decide +kernel) rfl (Or.inl rfl))) (fun _ _ _ _ _ _ _=>Z7) (fun _ _ _ _ _ _ _=>(Zq (ZjP T) (hr.mono (by decide)) (by rfl) T.m_law_rank T.F_law_rank.kp T.b_law_rank (E:=E0) ZP (Za (Zt 0) Zf))) (by decide)))
   Zj) ?_
 rfl
theorem ZjR:ZA ["key"] ["key"] (Zg Zbq):=⟨rfl,rfl,rfl,by decide +kernel,rfl,by decide +kernel,by decide +kernel⟩
theorem ZjM (T:Tx K mg d):FnOk P w K mg base CX0 3 d.a_key_rank d.d_key_rank ["key"] (spD K F_key_rank) :=
 by
 refine ZS (N:=["key"]) (ps:=["key"]) T.F_key_rank ZjR (by decide) (g:=ZeS) (fun cdv A outer s H E M H0 hr=>?_)
 refine ZR (Zc (Zy (Zai Zao ZbQ (by rfl) T.n_tuple (by rfl) (Za (Zh (Zay (Z0 ["thing"] [] [] (show Z2 ["thing"] [] _ (Zg Zbq) from ⟨rfl,by decide +kernel,by decide +kernel,by decide +kernel,by decide +kernel,by decide +kernel⟩) rfl rfl  (Zae (ZaT 0)) (fun _ _ _ _ _ _ _=>(Zp (i:=0) (show ((["thing"]:List Str)++([]:List Str)).Nodup by decide +kernel) rfl (Or.inl rfl))) (fun _ _ _ _ _ _ _=>Z7) (fun _ _ _ _ _ _ _=>(Zq (Zh0 T) (hr.mono (by decide)) (by rfl) T.m_value_rank T.F_value_rank.kp T.b_value_rank (E:=E0) ZP (Za (Zt 0) Zf))) (by decide)))) Zf)))
   Zj) ?_
 rfl
theorem Zs5:ZA ["ladder","value","level"] ["ladder","value","level"] (Zg Zhg):=⟨rfl,rfl,rfl,by decide +kernel,rfl,by decide +kernel,by decide +kernel⟩
theorem ZsK (T:Tx K mg d):FnOk P w K mg base CX0 3 d.a_up d.d_up ["ladder","value","level"] (spD K F_up) :=
 by
 refine ZS (N:=["ladder","value","level"]) (ps:=["ladder","value","level"]) T.F_up Zs5 (by decide) (g:=ZkY) (fun cdv A outer s H E M H0 hr=>?_)
 refine ZR (Zc (Zy (Zdy hr.units (j_p (Zq (Zjh T) (hr.mono (by decide)) (by rfl) T.m_lifts T.F_lifts.kp T.b_lifts (E:=E0) ZP (Za (Zt 0) (Za (Zh Zd) (Za (Zt 2) Zf))))) (Zl 1) (fun _ _=>rfl)))
   Zj) ?_
 rfl
theorem Zlv:ZA ["ladders","grain","to"] ["ladders","grain","to"] (Zg ZbM):=⟨rfl,rfl,rfl,by decide +kernel,rfl,by decide +kernel,by decide +kernel⟩
theorem ZlI (T:Tx K mg d):FnOk P w K mg base CX0 3 d.a_ways_up d.d_ways_up ["ladders","grain","to"] (spD K F_ways_up) :=
 by
 refine ZS (N:=["ladders","grain","to"]) (ps:=["ladders","grain","to"]) T.F_ways_up Zlv (by decide) (g:=Zd2) (fun cdv A outer s H E M H0 hr=>?_)
 refine ZR (Zc (Zcu (Z0 ["axis","ladder"] ["grain","to"] [1,2] (show Z2 ["axis","ladder"] ["grain","to"] _ (Zg ZbM) from ⟨rfl,by decide +kernel,by decide +kernel,by decide +kernel,by decide +kernel,by decide +kernel⟩) rfl rfl  (Zc3 (by rfl) T.n_enumerate (ZaT 0)) (fun _ _ _ _ _ _ _=>(ZaG (n:=2) rfl (ZB (Zp (i:=0) (show ((["axis","ladder"]:List Str)++(["grain","to"]:List Str)).Nodup by decide +kernel) rfl (Or.inl rfl)) (ZB (Zp (i:=1) (show ((["axis","ladder"]:List Str)++(["grain","to"]:List Str)).Nodup by decide +kernel) rfl (Or.inl rfl)) Zap)))) (fun _ _ _ _ _ _ _=>Z7) (fun _ _ _ _ _ _ _=>(Zq (Zjh T) (hr.mono (by decide)) (by rfl) T.m_lifts T.F_lifts.kp T.b_lifts (E:=E0) ZP (Za (Zt 1) (Za (Zh (Zn (Zl 2) (Zl 0) (fun _ _=>rfl))) (Za (Zh (Zn (Zl 3) (Zl 0) (fun _ _=>rfl))) Zf))))) (by decide)))
   Zj) ?_
 rfl
theorem sc_law_ladder:ZA ["_law_cell","_law_many","_law_places","_law_s","_law_widths","_law_j","_law_lines","_law_k","_law_at","_law_line","_law_near"] ["_law_cell","_law_many","_law_places"] (Zg Zbi):=⟨rfl,rfl,rfl,by decide +kernel,rfl,by decide +kernel,by decide +kernel⟩
theorem ZhX (T:Tx K mg d):FnOk P w K mg base CX0 3 d.a_law_ladder d.d_law_ladder ["_law_cell","_law_many","_law_places"] (spD K F_law_ladder) :=
 by
 refine ZS (N:=["_law_cell","_law_many","_law_places","_law_s","_law_widths","_law_j","_law_lines","_law_k","_law_at","_law_line","_law_near"]) (ps:=["_law_cell","_law_many","_law_places"]) T.F_law_ladder sc_law_ladder (by decide) (g:=ZfK) (fun cdv A outer s H E M H0 hr=>?_)
 refine ZR (Zc (ZE (i:=3) sc_law_ladder.nd rfl (Or.inl rfl) (Zq (Zdb T) (hr.mono (by decide)) (by rfl) T.m_law_stream T.F_law_stream.kp T.b_law_stream (E:=E0) ZP (Za (Zt 0) (Za (Zt 2) Zf))))
   (Zc (Zbo (i:=4) sc_law_ladder.nd rfl (Or.inl rfl) (Zab (Za (Zh Zd) Zf)))
   (Zc (Zat PassesOwn.never rfl (ZjZ (by rfl) T.n_range (Za (Zh Zd) (Za (Zh Zd) Zf))) (Zp (i:=5) sc_law_ladder.nd rfl (Or.inl rfl))
   (Zc (ZaN (i:=4) rfl (by first | exact Or.inl rfl | exact Or.inr (Or.inl rfl)) (Zn (j_p (Zay (Zab (Za (Zh (Zv (j_p Zd) (j_p (ZG (j_p (Zn (Zl 3) (Zl 5) (fun _ _=>rfl))) (j_p Zd))))) (Za (Zh (Zv (j_p Zd) (j_p (ZG (j_p (Zn (Zl 3) (Zl 5) (fun _ _=>rfl))) (j_p Zd))))) (Za (Zh Zd) (Za (Zh Zd) Zf))))))) (j_p (ZG (j_p (ZaB (j_p (Zn (Zl 3) (Zl 5) (fun _ _=>rfl))) (j_p Zd))) (j_p Zd))) (fun _ _=>rfl)))
   Zj))
   (Zc (Zbo (i:=6) sc_law_ladder.nd rfl (Or.inl rfl) (Zab Zf))
   (Zc (Zat PassesOwn.never rfl (ZbD (by rfl) T.n_range (Za (Zh (Zbr 1)) Zf)) (Zp (i:=7) sc_law_ladder.nd rfl (Or.inl rfl))
   (Zc (ZE (i:=8) sc_law_ladder.nd rfl (Or.inl rfl) (ZG (j_p (Zv (j_p (Zbb (Zl 7) (j_p (Zv (j_p Zd) (j_p (ZG (j_p (Zn (Zl 3) (j_p Zd) (fun _ _=>rfl))) (j_p Zd))))))) (j_p (Zn (Zl 3) (j_p Zd) (fun _ _=>rfl))))) (j_p Zd)))
   (Zc (Zbo (i:=9) sc_law_ladder.nd rfl (Or.inl rfl) (Zab Zf))
   (Zc (Zat PassesOwn.never rfl (ZbD (by rfl) T.n_range (Za (Zh (Zbr 2)) Zf)) (Zp (i:=5) sc_law_ladder.nd rfl (Or.inl rfl))
   (Zc (Zac (ZnM hr.units (Zl 5) (j_p Zd))
   (Zc (ZE (i:=8) sc_law_ladder.nd rfl (Or.inl rfl) (ZG (j_p (Zv (j_p (Zbb (Zl 8) (j_p (Zv (j_p Zd) (j_p (ZG (j_p (Zn (Zl 3) (j_p (Zv (j_p Zd) (Zl 5))) (fun _ _=>rfl))) (j_p Zd))))))) (j_p (Zn (Zl 3) (j_p (Zv (j_p Zd) (Zl 5))) (fun _ _=>rfl))))) (j_p (Zn (Zl 4) (Zl 5) (fun _ _=>rfl)))))
   Zj)
   Zj)
   (Zc (ZE (i:=10) sc_law_ladder.nd rfl (Or.inl rfl) (Zv (Zl 0) (j_p (Zbb (j_p (Zbb (Zl 5) (j_p (ZG (j_p (Zn (Zl 3) (j_p Zd) (fun _ _=>rfl))) (j_p Zd))))) (j_p Zd)))))
   (Zc (ZaN (i:=9) rfl (by first | exact Or.inl rfl | exact Or.inr (Or.inl rfl)) (Zq (Zjk T) (hr.mono (by decide)) (by rfl) T.m_law_value T.F_law_value.kp T.b_law_value (E:=E0) ZP (Za (Zh (ZG (j_p (Zn (Zl 3) (j_p (Zv (j_p Zd) (Zl 5))) (fun _ _=>rfl))) (j_p Zd))) (Za (Zt 10) (Za (Zt 8) Zf)))))
   Zj))))
   (Zc (ZaN (i:=6) rfl (by first | exact Or.inl rfl | exact Or.inr (Or.inl rfl)) (Zai Zao ZbQ (by rfl) T.n_tuple (by rfl) (Za (Zt 9) Zf)))
   Zj)))))
   (Zc (Zi2 6)
   Zj)))))) ?_
 rfl
theorem sc_law_rows:ZA ["_law_script","_law_ladders_here","_law_head","_law_cells"] ["_law_script","_law_ladders_here"] (Zg Za5):=⟨rfl,rfl,rfl,by decide +kernel,rfl,by decide +kernel,by decide +kernel⟩
theorem Zj0 (T:Tx K mg d):FnOk P w K mg base CX0 3 d.a_law_rows d.d_law_rows ["_law_script","_law_ladders_here"] (spD K F_law_rows) :=
 by
 refine ZS (N:=["_law_script","_law_ladders_here","_law_head","_law_cells"]) (ps:=["_law_script","_law_ladders_here"]) T.F_law_rows sc_law_rows (by decide) (g:=Zdn) (fun cdv A outer s H E M H0 hr=>?_)
 refine ZR (Zc (ZE (i:=2) sc_law_rows.nd rfl (Or.inr rfl) (Zq (Zbh T) (hr.mono (by decide)) (by rfl) T.m_law_cell_at T.F_law_cell_at.kp T.b_law_cell_at (E:=E0) ZP (Za (Zt 0) (Za (Zh Zd) Zf))))
   (Zc (ZE (i:=3) sc_law_rows.nd rfl (Or.inl rfl) (Zv (j_p (Zcx (Zl 0) (Zco (j_p Zd)) (Zco (j_p Zd)))) (j_p (Zay (Z0 ["_law_k"] ["_law_head"] [2] (show Z2 ["_law_k"] ["_law_head"] _ (Zg Za5) from ⟨rfl,by decide +kernel,by decide +kernel,by decide +kernel,by decide +kernel,by decide +kernel⟩) rfl rfl  (ZbD (by rfl) T.n_range (Za (Zh (ZG (Zl 2) (j_p Zd))) Zf)) (fun _ _ _ _ _ _ _=>(Zp (i:=0) (show ((["_law_k"]:List Str)++(["_law_head"]:List Str)).Nodup by decide +kernel) rfl (Or.inl rfl))) (fun _ _ _ _ _ _ _=>Z7) (fun _ _ _ _ _ _ _=>(Zv (j_p (ZaB (Zl 1) (j_p Zd))) (j_p (Zbb (j_p Zd) (Zl 0))))) (by decide))))))
   (Zc (Zcu (Z0 ["_law_k","_law_cell"] ["_law_ladders_here"] [1] (show Z2 ["_law_k","_law_cell"] ["_law_ladders_here"] _ (Zg Za5) from ⟨rfl,by decide +kernel,by decide +kernel,by decide +kernel,by decide +kernel,by decide +kernel⟩) rfl rfl  (Zc3 (by rfl) T.n_enumerate (ZaT 3)) (fun _ _ _ _ _ _ _=>(ZaG (n:=2) rfl (ZB (Zp (i:=0) (show ((["_law_k","_law_cell"]:List Str)++(["_law_ladders_here"]:List Str)).Nodup by decide +kernel) rfl (Or.inl rfl)) (ZB (Zp (i:=1) (show ((["_law_k","_law_cell"]:List Str)++(["_law_ladders_here"]:List Str)).Nodup by decide +kernel) rfl (Or.inl rfl)) Zap)))) (fun _ _ _ _ _ _ _=>Z7) (fun _ _ _ _ _ _ _=>(Zq (ZlG T) (hr.mono (by decide)) (by rfl) T.m_law_row T.F_law_row.kp T.b_law_row (E:=E0) ZP (Za (Zt 1) (Za (Zt 0) (Za (Zt 2) Zf))))) (by decide)))
   Zj))) ?_
 rfl
theorem ZlV:ZA ["ladders","key","grain"] ["ladders","key","grain"] (Zg Zcf):=⟨rfl,rfl,rfl,by decide +kernel,rfl,by decide +kernel,by decide +kernel⟩
theorem Zmv (T:Tx K mg d):FnOk P w K mg base CX0 4 d.a_key_at d.d_key_at ["ladders","key","grain"] (spD K F_key_at) :=
 by
 refine ZS (N:=["ladders","key","grain"]) (ps:=["ladders","key","grain"]) T.F_key_at ZlV (by decide) (g:=Ze2) (fun cdv A outer s H E M H0 hr=>?_)
 refine ZR (Zc (Zy (Zai Zao ZbQ (by rfl) T.n_tuple (by rfl) (Za (Zh (Zay (Z0 ["axis","ladder"] ["key","grain"] [1,2] (show Z2 ["axis","ladder"] ["key","grain"] _ (Zg Zcf) from ⟨rfl,by decide +kernel,by decide +kernel,by decide +kernel,by decide +kernel,by decide +kernel⟩) rfl rfl  (Zc3 (by rfl) T.n_enumerate (ZaT 0)) (fun _ _ _ _ _ _ _=>(ZaG (n:=2) rfl (ZB (Zp (i:=0) (show ((["axis","ladder"]:List Str)++(["key","grain"]:List Str)).Nodup by decide +kernel) rfl (Or.inl rfl)) (ZB (Zp (i:=1) (show ((["axis","ladder"]:List Str)++(["key","grain"]:List Str)).Nodup by decide +kernel) rfl (Or.inl rfl)) Zap)))) (fun _ _ _ _ _ _ _=>Z7) (fun _ _ _ _ _ _ _=>(Zq (ZsK T) (hr.mono (by decide)) (by rfl) T.m_up T.F_up.kp T.b_up (E:=E0) ZP (Za (Zt 1) (Za (Zh (Zn (Zl 2) (Zl 0) (fun _ _=>rfl))) (Za (Zh (Zn (Zl 3) (Zl 0) (fun _ _=>rfl))) Zf))))) (by decide)))) Zf)))
   Zj) ?_
 rfl
theorem sc_law_ladders:ZA ["_law_script","_law_cell","_law_ladders_here","_law_k","_law_s"] ["_law_script"] (Zg Za2):=⟨rfl,rfl,rfl,by decide +kernel,rfl,by decide +kernel,by decide +kernel⟩
theorem Zhh (T:Tx K mg d):FnOk P w K mg base CX0 4 d.a_law_ladders d.d_law_ladders ["_law_script"] (spD K F_law_ladders) :=
 by
 refine ZS (N:=["_law_script","_law_cell","_law_ladders_here","_law_k","_law_s"]) (ps:=["_law_script"]) T.F_law_ladders sc_law_ladders (by decide) (g:=Zb9) (fun cdv A outer s H E M H0 hr=>?_)
 refine ZR (Zc (ZE (i:=1) sc_law_ladders.nd rfl (Or.inl rfl) (Zq (Zbh T) (hr.mono (by decide)) (by rfl) T.m_law_cell_at T.F_law_cell_at.kp T.b_law_cell_at (E:=E0) ZP (Za (Zt 0) (Za (Zh Zd) Zf))))
   (Zc (Zbo (i:=2) sc_law_ladders.nd rfl (Or.inl rfl) (Zab Zf))
   (Zc (Zat PassesOwn.never rfl (ZbD (by rfl) T.n_range (Za (Zh (Zv (j_p (Zv (j_p Zd) (j_p (ZG (Zl 1) (j_p Zd))))) (j_p (Zai Zmz Zqd (by rfl) T.n_int (by rfl) (Za (Zh (Zhj hr.units (j_p (ZG (Zl 1) (j_p Zd))) (j_p Zd))) Zf))))) Zf)) (Zp (i:=3) sc_law_ladders.nd rfl (Or.inl rfl))
   (Zc (ZE (i:=4) sc_law_ladders.nd rfl (Or.inl rfl) (Zq (Zdb T) (hr.mono (by decide)) (by rfl) T.m_law_stream T.F_law_stream.kp T.b_law_stream (E:=E0) ZP (Za (Zh (Zq (Zbh T) (hr.mono (by decide)) (by rfl) T.m_law_cell_at T.F_law_cell_at.kp T.b_law_cell_at (E:=E0) ZP (Za (Zt 0) (Za (Zh (Zv (j_p Zd) (Zl 3))) Zf)))) (Za (Zt 3) Zf))))
   (Zc (ZaN (i:=2) rfl (by first | exact Or.inl rfl | exact Or.inr (Or.inl rfl)) (Zq (ZhX T) (hr.mono (by decide)) (by rfl) T.m_law_ladder T.F_law_ladder.kp T.b_law_ladder (E:=E0) ZP (Za (Zh (Zq (Zbh T) (hr.mono (by decide)) (by rfl) T.m_law_cell_at T.F_law_cell_at.kp T.b_law_cell_at (E:=E0) ZP (Za (Zt 0) (Za (Zh (Zv (j_p Zd) (Zl 3))) Zf)))) (Za (Zh (Zv (j_p Zd) (j_p (ZG (j_p (Zn (Zl 4) (j_p Zd) (fun _ _=>rfl))) (j_p Zd))))) (Za (Zh (Zv (j_p Zd) (j_p (ZG (j_p (Zn (Zl 4) (j_p Zd) (fun _ _=>rfl))) (j_p Zd))))) Zf)))))
   Zj)))
   (Zc (Zi2 2)
   Zj)))) ?_
 rfl
theorem sc_law_table:ZA ["_law_ladders_here","_law_rows_here","_law_grain_here","_law_amounts","_law_spot","_law_amount","_law_far"] ["_law_ladders_here","_law_rows_here","_law_grain_here"] (Zg Zbf):=⟨rfl,rfl,rfl,by decide +kernel,rfl,by decide +kernel,by decide +kernel⟩
theorem Zio (T:Tx K mg d):FnOk P w K mg base CX0 5 d.a_law_table d.d_law_table ["_law_ladders_here","_law_rows_here","_law_grain_here"] (spD K F_law_table) :=
 by
 refine ZS (N:=["_law_ladders_here","_law_rows_here","_law_grain_here","_law_amounts","_law_spot","_law_amount","_law_far"]) (ps:=["_law_ladders_here","_law_rows_here","_law_grain_here"]) T.F_law_table sc_law_table (by decide) (g:=ZcU) (fun cdv A outer s H E M H0 hr=>?_)
 refine ZR (Zc (ZhL (i:=3) sc_law_table.nd rfl (Or.inr rfl) ZiE)
   (Zc (Zat PassesOwn.never rfl (Zae (ZaT 1)) (ZaG (n:=2) rfl (ZB (Zp (i:=4) sc_law_table.nd rfl (Or.inl rfl)) (ZB (Zp (i:=5) sc_law_table.nd rfl (Or.inl rfl)) Zap)))
   (Zc (ZE (i:=6) sc_law_table.nd rfl (Or.inl rfl) (Zq (Zfr T) (hr.mono (by decide)) (by rfl) T.m_law_key_at T.F_law_key_at.kp T.b_law_key_at (E:=E0) ZP (Za (Zt 0) (Za (Zt 4) (Za (Zt 2) Zf)))))
   (Zc (ZhD (i:=3) hr.units (Zl 6) (Zv (j_p (ZmR (i:=3) hr.units (Zl 6) (Zay (Zab Zf)))) (j_p (Zay (Zab (Za (Zh (Zbr 5)) Zf))))))
   Zj)))
   (Zc (Zcu (Z0 ["_law_spot"] ["_law_amounts"] [3] (show Z2 ["_law_spot"] ["_law_amounts"] _ (Zg Zbf) from ⟨rfl,by decide +kernel,by decide +kernel,by decide +kernel,by decide +kernel,by decide +kernel⟩) rfl rfl  (Zae (j_q (Zay (ZjW rfl (ZgJ T) (hr.mono (by decide)) (by rfl) T.n_sorted (by rfl) (by rfl) T.m_law_key_rank T.b_law_key_rank (Zl 3))))) (fun _ _ _ _ _ _ _=>(Zp (i:=0) (show ((["_law_spot"]:List Str)++(["_law_amounts"]:List Str)).Nodup by decide +kernel) rfl (Or.inl rfl))) (fun _ _ _ _ _ _ _=>Z7) (fun _ _ _ _ _ _ _=>(Zag (Za (Zh (Zbr 0)) (Za (Zh (Zq (Zhi T) (hr.mono (by decide)) (by rfl) T.m_law_cell_of T.F_law_cell_of.kp T.b_law_cell_of (E:=E0) ZP (Za (Zh (Zdy hr.units (Zl 1) (Zl 0) (fun _ _=>rfl))) Zf))) Zf)))) (by decide)))
   Zj))) ?_
 rfl
theorem sc_in_order:ZA ["keys","told","key"] ["keys"] (Zg Zb4):=⟨rfl,rfl,rfl,by decide +kernel,rfl,by decide +kernel,by decide +kernel⟩
theorem ZjY (T:Tx K mg d):FnOk P w K mg base CX0 6 d.a_in_order d.d_in_order ["keys"] (spD K F_in_order) :=
 by
 refine ZS (N:=["keys","told","key"]) (ps:=["keys"]) T.F_in_order sc_in_order (by decide) (g:=Zdg) (fun cdv A outer s H E M H0 hr=>?_)
 refine ZR (Zc (Zbo (i:=1) sc_in_order.nd rfl (Or.inl rfl) (Zab Zf))
   (Zc (Zat PassesOwn.never rfl (Zae (j_q (Zay (Zk4 (ZjM T) (hr.mono (by decide)) (by rfl) T.n_sorted (by rfl) (by rfl) T.m_key_rank T.b_key_rank (Zl 0))))) (Zp (i:=2) sc_in_order.nd rfl (Or.inl rfl))
   (Zc (Zac (Zik (ZcK (Zcj (ZaQ (Zl 1))) (ZdO (Zdx hr.units (j_p (Zn (Zl 1) (j_p (Zit (j_p Zd))) (fun _ _=>rfl))) (Zl 2)))))
   (Zc (ZaN (i:=1) rfl (by first | exact Or.inl rfl | exact Or.inr (Or.inl rfl)) (Zbr 2))
   Zj)
   Zj)
   Zj))
   (Zc (Zi2 1)
   Zj))) ?_
 rfl
theorem sc_merged_along:ZA ["ways","table","cells","key","cell","there"] ["ways","table"] (Zg Zah):=⟨rfl,rfl,rfl,by decide +kernel,rfl,by decide +kernel,by decide +kernel⟩
theorem ZgD (T:Tx K mg d):FnOk P w K mg base CX0 7 d.a_merged_along d.d_merged_along ["ways","table"] (spD K F_merged_along) :=
 by
 refine ZS (N:=["ways","table","cells","key","cell","there"]) (ps:=["ways","table"]) T.F_merged_along sc_merged_along (by decide) (g:=Zb0) (fun cdv A outer s H E M H0 hr=>?_)
 refine ZR (Zc (ZhL (i:=2) sc_merged_along.nd rfl (Or.inr rfl) ZiE)
   (Zc (Zat PassesOwn.never rfl (Zae (ZaT 1)) (ZaG (n:=2) rfl (ZB (Zp (i:=3) sc_merged_along.nd rfl (Or.inl rfl)) (ZB (Zp (i:=4) sc_merged_along.nd rfl (Or.inl rfl)) Zap)))
   (Zc (Zac (ZaQ (j_p (Zq (ZhY T) (hr.mono (by decide)) (by rfl) T.m_goes_along T.F_goes_along.kp T.b_goes_along (E:=E0) ZP (Za (Zt 0) (Za (Zt 3) Zf)))))
   (Zc (ZE (i:=5) sc_merged_along.nd rfl (Or.inl rfl) (Zai Zao ZbQ (by rfl) T.n_tuple (by rfl) (Za (Zh (Zay (Z0 ["way","value"] [] [] (show Z2 ["way","value"] [] _ (Zg Zah) from ⟨rfl,by decide +kernel,by decide +kernel,by decide +kernel,by decide +kernel,by decide +kernel⟩) rfl rfl  (ZiS (by rfl) T.n_zip (ZaT 0) (ZaT 3)) (fun _ _ _ _ _ _ _=>(ZaG (n:=2) rfl (ZB (Zp (i:=0) (show ((["way","value"]:List Str)++([]:List Str)).Nodup by decide +kernel) rfl (Or.inl rfl)) (ZB (Zp (i:=1) (show ((["way","value"]:List Str)++([]:List Str)).Nodup by decide +kernel) rfl (Or.inl rfl)) Zap)))) (fun _ _ _ _ _ _ _=>Z7) (fun _ _ _ _ _ _ _=>(Zdy hr.units (Zl 0) (Zl 1) (fun _ _=>rfl))) (by decide)))) Zf)))
   (Zc (ZhD (i:=2) hr.units (Zl 5) (ZgM (Zmk hr.units (Zl 5) (Zl 2)) (Zq (Zmh T) (hr.mono (by decide)) (by rfl) T.m_merged T.F_merged.kp T.b_merged (E:=E0) ZP (Za (Zh (Zdy hr.units (Zl 2) (Zl 5) (fun _ _=>rfl))) (Za (Zt 4) Zf))) (Zbr 4)))
   Zj))
   Zj)
   Zj))
   (Zc (Zcu (Z0 ["key"] ["cells"] [2] (show Z2 ["key"] ["cells"] _ (Zg Zah) from ⟨rfl,by decide +kernel,by decide +kernel,by decide +kernel,by decide +kernel,by decide +kernel⟩) rfl rfl  (Zae (j_q (Zq (ZjY T) (hr.mono (by decide)) (by rfl) T.m_in_order T.F_in_order.kp T.b_in_order (E:=E0) ZP (Za (Zh (Zay (Zen (Zjl rfl) Znv (by rfl) T.n_list (by rfl) (Za (Zt 2) Zf)))) Zf)))) (fun _ _ _ _ _ _ _=>(Zp (i:=0) (show ((["key"]:List Str)++(["cells"]:List Str)).Nodup by decide +kernel) rfl (Or.inl rfl))) (fun _ _ _ _ _ _ _=>Z7) (fun _ _ _ _ _ _ _=>(Zag (Za (Zh (Zbr 0)) (Za (Zh (Zdy hr.units (Zl 1) (Zl 0) (fun _ _=>rfl))) Zf)))) (by decide)))
   Zj))) ?_
 rfl
theorem sc_table_of:ZA ["ladders","rows","grain","single"] ["ladders","rows","grain"] (Zg Zbt):=⟨rfl,rfl,rfl,by decide +kernel,rfl,by decide +kernel,by decide +kernel⟩
theorem Zem (T:Tx K mg d):FnOk P w K mg base CX0 8 d.a_table_of d.d_table_of ["ladders","rows","grain"] (spD K F_table_of) :=
 by
 refine ZS (N:=["ladders","rows","grain","single"]) (ps:=["ladders","rows","grain"]) T.F_table_of sc_table_of (by decide) (g:=Zdk) (fun cdv A outer s H E M H0 hr=>?_)
 refine ZR (Zc (ZhW (i:=3) ["key","amount"] [] [] (show Z2 ["key","amount"] [] _ (Zg Zbt) from ⟨rfl,by decide +kernel,by decide +kernel,by decide +kernel,by decide +kernel,by decide +kernel⟩) rfl rfl sc_table_of.nd rfl rfl (Zae (ZaT 1)) (fun _ _ _ _ _ _ _=>(ZaG (n:=2) rfl (ZB (Zp (i:=0) (show ((["key","amount"]:List Str)++([]:List Str)).Nodup by decide +kernel) rfl (Or.inl rfl)) (ZB (Zp (i:=1) (show ((["key","amount"]:List Str)++([]:List Str)).Nodup by decide +kernel) rfl (Or.inl rfl)) Zap)))) (fun _ _ _ _ _ _ _=>Z7) (fun _ _ _ _ _ _ _=>(Zag (Za (Zh (Zbr 0)) (Za (Zh (Zq (ZlA T) (hr.mono (by decide)) (by rfl) T.m_cell_of T.F_cell_of.kp T.b_cell_of (E:=E0) ZP (Za (Zh (Zay (Zab (Za (Zh (Zbr 1)) Zf)))) Zf))) Zf)))) (by decide))
   (Zc (Zcu (ZhB (ZgD T) (hr.mono (by decide)) (by rfl) T.m_merged_along T.F_merged_along.kp T.b_merged_along (E:=E0) ZP (Za (Zh (Zq (ZlI T) (hr.mono (by decide)) (by rfl) T.m_ways_up T.F_ways_up.kp T.b_ways_up (E:=E0) ZP (Za (Zt 0) (Za (Zh (Zq (Zm1 T) (hr.mono (by decide)) (by rfl) T.m_finest T.F_finest.kp T.b_finest (E:=E0) ZP (Za (Zt 0) Zf))) (Za (Zt 2) Zf))))) (Za (Zt 3) Zf))))
   Zj)) ?_
 rfl
theorem sc_law:ZA ["_law_script","_law_ladders_here","_law_rows_here","_law_grain_here","_law_due","_law_handed","_law_found","_law_spot","_law_amount","_law_far"] ["_law_script"] (Zg Ze4):=⟨rfl,rfl,rfl,by decide +kernel,rfl,by decide +kernel,by decide +kernel⟩
theorem ZqN (T:Tx K mg d):FnOk P w K mg base CX0 9 d.a_law d.d_law ["_law_script"] (spD K F_law) :=
 by
 refine ZS (N:=["_law_script","_law_ladders_here","_law_rows_here","_law_grain_here","_law_due","_law_handed","_law_found","_law_spot","_law_amount","_law_far"]) (ps:=["_law_script"]) T.F_law sc_law (by decide) (g:=Zia) (fun cdv A outer s H E M H0 hr=>?_)
 refine ZR (Zc (ZE (i:=1) sc_law.nd rfl (Or.inl rfl) (Zq (Zhh T) (hr.mono (by decide)) (by rfl) T.m_law_ladders T.F_law_ladders.kp T.b_law_ladders (E:=E0) ZP (Za (Zt 0) Zf)))
   (Zc (ZE (i:=2) sc_law.nd rfl (Or.inl rfl) (Zq (Zj0 T) (hr.mono (by decide)) (by rfl) T.m_law_rows T.F_law_rows.kp T.b_law_rows (E:=E0) ZP (Za (Zt 0) (Za (Zt 1) Zf))))
   (Zc (ZE (i:=3) sc_law.nd rfl (Or.inl rfl) (Zq (Zi7 T) (hr.mono (by decide)) (by rfl) T.m_law_grain T.F_law_grain.kp T.b_law_grain (E:=E0) ZP (Za (Zh (Zq (Zbh T) (hr.mono (by decide)) (by rfl) T.m_law_cell_at T.F_law_cell_at.kp T.b_law_cell_at (E:=E0) ZP (Za (Zt 0) (Za (Zh Zd) Zf)))) (Za (Zt 1) Zf))))
   (Zc (ZE (i:=4) sc_law.nd rfl (Or.inl rfl) (Zq (Zio T) (hr.mono (by decide)) (by rfl) T.m_law_table T.F_law_table.kp T.b_law_table (E:=E0) ZP (Za (Zt 1) (Za (Zt 2) (Za (Zt 3) Zf)))))
   (Zc (ZE (i:=5) sc_law.nd rfl (Or.inl rfl) (Zay (Zab (Za (Zh (Zay (Z0 ["_law_ladder_here"] [] [] (show Z2 ["_law_ladder_here"] [] _ (Zg Ze4) from ⟨rfl,by decide +kernel,by decide +kernel,by decide +kernel,by decide +kernel,by decide +kernel⟩) rfl rfl  (Zae (ZaT 1)) (fun _ _ _ _ _ _ _=>(Zp (i:=0) (show ((["_law_ladder_here"]:List Str)++([]:List Str)).Nodup by decide +kernel) rfl (Or.inl rfl))) (fun _ _ _ _ _ _ _=>Z7) (fun _ _ _ _ _ _ _=>(Zay (Zen ZfD Zky (by rfl) T.n_list (by rfl) (Za (Zt 0) Zf)))) (by decide)))) (Za (Zh (Zay (Zen ZfD Zky (by rfl) T.n_list (by rfl) (Za (Zt 2) Zf)))) Zf)))))
   (Zc (Zbo (i:=6) sc_law.nd rfl (Or.inl rfl) (ZhB (Zem T) (hr.mono (by decide)) (by rfl) T.m_table_of T.F_table_of.kp T.b_table_of (E:=E0) ZP (Za (Zh (Zn (Zl 5) (j_p Zd) (fun _ _=>rfl))) (Za (Zh (Zn (Zl 5) (j_p Zd) (fun _ _=>rfl))) (Za (Zt 3) Zf)))))
   (Zc (Zac (Zik (ZcK (Zcj (ZaQ (j_p (Zq (ZgV T) (hr.mono (by decide)) (by rfl) T.m_law_is_table T.F_law_is_table.kp T.b_law_is_table (E:=E0) ZP (Za (Zt 6) Zf))))) (ZcK (Zdx hr.units (Zl 6) (Zl 4)) (ZdO (Zdx hr.units (Zl 5) (j_p (Zay (Zab (Za (Zh (Zbr 1)) (Za (Zh (Zbr 2)) Zf))))))))))
   (Zc (Zy Zdu)
   Zj)
   Zj)
   (Zc (ZaN (i:=6) rfl (by first | exact Or.inl rfl | exact Or.inr (Or.inl rfl)) (Zcx (Zl 6) ZdY (Zco (j_p Zd))))
   (Zc (Zat PassesOwn.never rfl (Zae (ZaT 2)) (ZaG (n:=2) rfl (ZB (Zp (i:=7) sc_law.nd rfl (Or.inl rfl)) (ZB (Zp (i:=8) sc_law.nd rfl (Or.inl rfl)) Zap)))
   (Zc (ZE (i:=9) sc_law.nd rfl (Or.inl rfl) (Zq (Zmv T) (hr.mono (by decide)) (by rfl) T.m_key_at T.F_key_at.kp T.b_key_at (E:=E0) ZP (Za (Zh (Zn (Zl 5) (j_p Zd) (fun _ _=>rfl))) (Za (Zt 7) (Za (Zt 3) Zf)))))
   (Zc (Zac (Zik (ZcK (Zcj (ZaQ (j_p (ZC Zbu Zdm (by rfl) T.n_isinstance (by rfl) (Za (Zt 9) (Za (Zh (Zbv (n:="tuple") (by rfl) T.n_tuple (by rfl))) Zf)))))) (ZdO (Zdx hr.units (Zl 9) (j_p (Zq (Zfr T) (hr.mono (by decide)) (by rfl) T.m_law_key_at T.F_law_key_at.kp T.b_law_key_at (E:=E0) ZP (Za (Zt 1) (Za (Zt 7) (Za (Zt 3) Zf)))))))))
   (Zc (Zy Zdu)
   Zj)
   Zj)
   Zj)))
   (Zc (Zy (ZjE (Zhj hr.units (j_p (Zq (Zem T) (hr.mono (by decide)) (by rfl) T.m_table_of T.F_table_of.kp T.b_table_of (E:=E0) ZP (Za (Zh (Zn (Zl 5) (j_p Zd) (fun _ _=>rfl))) (Za (Zh (Zn (Zl 5) (j_p Zd) (fun _ _=>rfl))) (Za (Zt 3) Zf))))) (Zl 4)) (ZiZ (Zhj hr.units (j_p (Zq (Zem T) (hr.mono (by decide)) (by rfl) T.m_table_of T.F_table_of.kp T.b_table_of (E:=E0) ZP (Za (Zh (Zn (Zl 5) (j_p Zd) (fun _ _=>rfl))) (Za (Zh (Zay (Zab Zf))) (Za (Zt 3) Zf))))) (j_p (Zay (Zab Zf)))))))
   Zj)))))))))) ?_
 rfl
end
theorem all_mk {l:PySem.W.OpenLaw} {w:World} {K:PySem.W.Frag} {h:Heap} {mg:Str→Option Value} {fa:Addr} (X:K.In h) (G:h.Ns mainGlobals mg) (hfa:mg "law"=some (.ref fa))
  {a_cell_of:Addr} {od_cell_of an_cell_of:Option Addr} {sl_cell_of:Array (Option Value)} {oc_cell_of kV_cell_of dc_cell_of pm_cell_of cd_cell_of ct_cell_of:Value}
  {a_merged:Addr} {od_merged an_merged:Option Addr} {sl_merged:Array (Option Value)} {oc_merged kV_merged dc_merged pm_merged cd_merged ct_merged:Value}
  {a_is_whole:Addr} {od_is_whole an_is_whole:Option Addr} {sl_is_whole:Array (Option Value)} {oc_is_whole kV_is_whole dc_is_whole pm_is_whole cd_is_whole ct_is_whole:Value}
  {a_value_rank:Addr} {od_value_rank an_value_rank:Option Addr} {sl_value_rank:Array (Option Value)} {oc_value_rank kV_value_rank dc_value_rank pm_value_rank cd_value_rank ct_value_rank:Value}
  {a_key_rank:Addr} {od_key_rank an_key_rank:Option Addr} {sl_key_rank:Array (Option Value)} {oc_key_rank kV_key_rank dc_key_rank pm_key_rank cd_key_rank ct_key_rank:Value}
  {a_in_order:Addr} {od_in_order an_in_order:Option Addr} {sl_in_order:Array (Option Value)} {oc_in_order kV_in_order dc_in_order pm_in_order cd_in_order ct_in_order:Value}
  {a_line_at:Addr} {od_line_at an_line_at:Option Addr} {sl_line_at:Array (Option Value)} {oc_line_at kV_line_at dc_line_at pm_line_at cd_line_at ct_line_at:Value}
  {a_up:Addr} {od_up an_up:Option Addr} {sl_up:Array (Option Value)} {oc_up kV_up dc_up pm_up cd_up ct_up:Value}
  {a_lifts:Addr} {od_lifts an_lifts:Option Addr} {sl_lifts:Array (Option Value)} {oc_lifts kV_lifts dc_lifts pm_lifts cd_lifts ct_lifts:Value}
  {a_finest:Addr} {od_finest an_finest:Option Addr} {sl_finest:Array (Option Value)} {oc_finest kV_finest dc_finest pm_finest cd_finest ct_finest:Value}
  {a_key_at:Addr} {od_key_at an_key_at:Option Addr} {sl_key_at:Array (Option Value)} {oc_key_at kV_key_at dc_key_at pm_key_at cd_key_at ct_key_at:Value}
  {a_ways_up:Addr} {od_ways_up an_ways_up:Option Addr} {sl_ways_up:Array (Option Value)} {oc_ways_up kV_ways_up dc_ways_up pm_ways_up cd_ways_up ct_ways_up:Value}
  {a_goes_along:Addr} {od_goes_along an_goes_along:Option Addr} {sl_goes_along:Array (Option Value)} {oc_goes_along kV_goes_along dc_goes_along pm_goes_along cd_goes_along ct_goes_along:Value}
  {a_merged_along:Addr} {od_merged_along an_merged_along:Option Addr} {sl_merged_along:Array (Option Value)} {oc_merged_along kV_merged_along dc_merged_along pm_merged_along cd_merged_along ct_merged_along:Value}
  {a_table_of:Addr} {od_table_of an_table_of:Option Addr} {sl_table_of:Array (Option Value)} {oc_table_of kV_table_of dc_table_of pm_table_of cd_table_of ct_table_of:Value}
  {a_law_cell_at:Addr} {od_law_cell_at an_law_cell_at:Option Addr} {sl_law_cell_at:Array (Option Value)} {oc_law_cell_at kV_law_cell_at dc_law_cell_at pm_law_cell_at cd_law_cell_at ct_law_cell_at:Value}
  {a_law_stream:Addr} {od_law_stream an_law_stream:Option Addr} {sl_law_stream:Array (Option Value)} {oc_law_stream kV_law_stream dc_law_stream pm_law_stream cd_law_stream ct_law_stream:Value}
  {a_law_word:Addr} {od_law_word an_law_word:Option Addr} {sl_law_word:Array (Option Value)} {oc_law_word kV_law_word dc_law_word pm_law_word cd_law_word ct_law_word:Value}
  {a_law_value:Addr} {od_law_value an_law_value:Option Addr} {sl_law_value:Array (Option Value)} {oc_law_value kV_law_value dc_law_value pm_law_value cd_law_value ct_law_value:Value}
  {a_law_ladder:Addr} {od_law_ladder an_law_ladder:Option Addr} {sl_law_ladder:Array (Option Value)} {oc_law_ladder kV_law_ladder dc_law_ladder pm_law_ladder cd_law_ladder ct_law_ladder:Value}
  {a_law_ladders:Addr} {od_law_ladders an_law_ladders:Option Addr} {sl_law_ladders:Array (Option Value)} {oc_law_ladders kV_law_ladders dc_law_ladders pm_law_ladders cd_law_ladders ct_law_ladders:Value}
  {a_law_row:Addr} {od_law_row an_law_row:Option Addr} {sl_law_row:Array (Option Value)} {oc_law_row kV_law_row dc_law_row pm_law_row cd_law_row ct_law_row:Value}
  {a_law_rank:Addr} {od_law_rank an_law_rank:Option Addr} {sl_law_rank:Array (Option Value)} {oc_law_rank kV_law_rank dc_law_rank pm_law_rank cd_law_rank ct_law_rank:Value}
  {a_law_up:Addr} {od_law_up an_law_up:Option Addr} {sl_law_up:Array (Option Value)} {oc_law_up kV_law_up dc_law_up pm_law_up cd_law_up ct_law_up:Value}
  {a_law_key_at:Addr} {od_law_key_at an_law_key_at:Option Addr} {sl_law_key_at:Array (Option Value)} {oc_law_key_at kV_law_key_at dc_law_key_at pm_law_key_at cd_law_key_at ct_law_key_at:Value}
  {a_law_key_rank:Addr} {od_law_key_rank an_law_key_rank:Option Addr} {sl_law_key_rank:Array (Option Value)} {oc_law_key_rank kV_law_key_rank dc_law_key_rank pm_law_key_rank cd_law_key_rank ct_law_key_rank:Value}
  {a_law_cell_of:Addr} {od_law_cell_of an_law_cell_of:Option Addr} {sl_law_cell_of:Array (Option Value)} {oc_law_cell_of kV_law_cell_of dc_law_cell_of pm_law_cell_of cd_law_cell_of ct_law_cell_of:Value}
  {a_law_table:Addr} {od_law_table an_law_table:Option Addr} {sl_law_table:Array (Option Value)} {oc_law_table kV_law_table dc_law_table pm_law_table cd_law_table ct_law_table:Value}
  {a_law_grain:Addr} {od_law_grain an_law_grain:Option Addr} {sl_law_grain:Array (Option Value)} {oc_law_grain kV_law_grain dc_law_grain pm_law_grain cd_law_grain ct_law_grain:Value}
  {a_law_is_table:Addr} {od_law_is_table an_law_is_table:Option Addr} {sl_law_is_table:Array (Option Value)} {oc_law_is_table kV_law_is_table dc_law_is_table pm_law_is_table cd_law_is_table ct_law_is_table:Value}
  {a_law_rows:Addr} {od_law_rows an_law_rows:Option Addr} {sl_law_rows:Array (Option Value)} {oc_law_rows kV_law_rows dc_law_rows pm_law_rows cd_law_rows ct_law_rows:Value}
  {a_law:Addr} {od_law an_law:Option Addr} {sl_law:Array (Option Value)} {oc_law kV_law dc_law pm_law cd_law ct_law:Value}
  (A_cell_of:PySem.W.nsIn K mainGlobals "cell_of"=some (some (.ref a_cell_of)))
  (L_cell_of:K.lookup a_cell_of=some ⟨oc_cell_of,od_cell_of,.func (PySem.W.fnOf "cell_of" "cell_of" (ZD Zct) (Zz Zct) (Zg Zct) .none kV_cell_of dc_cell_of pm_cell_of an_cell_of cd_cell_of ct_cell_of),sl_cell_of⟩)
  (C_cell_of:PySem.W.codeIn K cd_cell_of "cell_of"=true) (k_cell_of:PySem.W.keepIn K (.ref a_cell_of)=true)
  (A_merged:PySem.W.nsIn K mainGlobals "merged"=some (some (.ref a_merged)))
  (L_merged:K.lookup a_merged=some ⟨oc_merged,od_merged,.func (PySem.W.fnOf "merged" "merged" (ZD ZcQ) (Zz ZcQ) (Zg ZcQ) .none kV_merged dc_merged pm_merged an_merged cd_merged ct_merged),sl_merged⟩)
  (C_merged:PySem.W.codeIn K cd_merged "merged"=true) (k_merged:PySem.W.keepIn K (.ref a_merged)=true)
  (A_is_whole:PySem.W.nsIn K mainGlobals "is_whole"=some (some (.ref a_is_whole)))
  (L_is_whole:K.lookup a_is_whole=some ⟨oc_is_whole,od_is_whole,.func (PySem.W.fnOf "is_whole" "is_whole" (ZD Zb1) (Zz Zb1) (Zg Zb1) .none kV_is_whole dc_is_whole pm_is_whole an_is_whole cd_is_whole ct_is_whole),sl_is_whole⟩)
  (C_is_whole:PySem.W.codeIn K cd_is_whole "is_whole"=true) (k_is_whole:PySem.W.keepIn K (.ref a_is_whole)=true)
  (A_value_rank:PySem.W.nsIn K mainGlobals "value_rank"=some (some (.ref a_value_rank)))
  (L_value_rank:K.lookup a_value_rank=some ⟨oc_value_rank,od_value_rank,.func (PySem.W.fnOf "value_rank" "value_rank" (ZD Zbm) (Zz Zbm) (Zg Zbm) .none kV_value_rank dc_value_rank pm_value_rank an_value_rank cd_value_rank ct_value_rank),sl_value_rank⟩)
  (C_value_rank:PySem.W.codeIn K cd_value_rank "value_rank"=true) (k_value_rank:PySem.W.keepIn K (.ref a_value_rank)=true)
  (A_key_rank:PySem.W.nsIn K mainGlobals "key_rank"=some (some (.ref a_key_rank)))
  (L_key_rank:K.lookup a_key_rank=some ⟨oc_key_rank,od_key_rank,.func (PySem.W.fnOf "key_rank" "key_rank" (ZD Zbq) (Zz Zbq) (Zg Zbq) .none kV_key_rank dc_key_rank pm_key_rank an_key_rank cd_key_rank ct_key_rank),sl_key_rank⟩)
  (C_key_rank:PySem.W.codeIn K cd_key_rank "key_rank"=true) (k_key_rank:PySem.W.keepIn K (.ref a_key_rank)=true)
  (A_in_order:PySem.W.nsIn K mainGlobals "in_order"=some (some (.ref a_in_order)))
  (L_in_order:K.lookup a_in_order=some ⟨oc_in_order,od_in_order,.func (PySem.W.fnOf "in_order" "in_order" (ZD Zb4) (Zz Zb4) (Zg Zb4) .none kV_in_order dc_in_order pm_in_order an_in_order cd_in_order ct_in_order),sl_in_order⟩)
  (C_in_order:PySem.W.codeIn K cd_in_order "in_order"=true) (k_in_order:PySem.W.keepIn K (.ref a_in_order)=true)
  (A_line_at:PySem.W.nsIn K mainGlobals "line_at"=some (some (.ref a_line_at)))
  (L_line_at:K.lookup a_line_at=some ⟨oc_line_at,od_line_at,.func (PySem.W.fnOf "line_at" "line_at" (ZD Zcs) (Zz Zcs) (Zg Zcs) .none kV_line_at dc_line_at pm_line_at an_line_at cd_line_at ct_line_at),sl_line_at⟩)
  (C_line_at:PySem.W.codeIn K cd_line_at "line_at"=true) (k_line_at:PySem.W.keepIn K (.ref a_line_at)=true)
  (A_up:PySem.W.nsIn K mainGlobals "up"=some (some (.ref a_up)))
  (L_up:K.lookup a_up=some ⟨oc_up,od_up,.func (PySem.W.fnOf "up" "up" (ZD Zhg) (Zz Zhg) (Zg Zhg) .none kV_up dc_up pm_up an_up cd_up ct_up),sl_up⟩)
  (C_up:PySem.W.codeIn K cd_up "up"=true) (k_up:PySem.W.keepIn K (.ref a_up)=true)
  (A_lifts:PySem.W.nsIn K mainGlobals "lifts"=some (some (.ref a_lifts)))
  (L_lifts:K.lookup a_lifts=some ⟨oc_lifts,od_lifts,.func (PySem.W.fnOf "lifts" "lifts" (ZD ZcO) (Zz ZcO) (Zg ZcO) .none kV_lifts dc_lifts pm_lifts an_lifts cd_lifts ct_lifts),sl_lifts⟩)
  (C_lifts:PySem.W.codeIn K cd_lifts "lifts"=true) (k_lifts:PySem.W.keepIn K (.ref a_lifts)=true)
  (A_finest:PySem.W.nsIn K mainGlobals "finest"=some (some (.ref a_finest)))
  (L_finest:K.lookup a_finest=some ⟨oc_finest,od_finest,.func (PySem.W.fnOf "finest" "finest" (ZD Zch) (Zz Zch) (Zg Zch) .none kV_finest dc_finest pm_finest an_finest cd_finest ct_finest),sl_finest⟩)
  (C_finest:PySem.W.codeIn K cd_finest "finest"=true) (k_finest:PySem.W.keepIn K (.ref a_finest)=true)
  (A_key_at:PySem.W.nsIn K mainGlobals "key_at"=some (some (.ref a_key_at)))
  (L_key_at:K.lookup a_key_at=some ⟨oc_key_at,od_key_at,.func (PySem.W.fnOf "key_at" "key_at" (ZD Zcf) (Zz Zcf) (Zg Zcf) .none kV_key_at dc_key_at pm_key_at an_key_at cd_key_at ct_key_at),sl_key_at⟩)
  (C_key_at:PySem.W.codeIn K cd_key_at "key_at"=true) (k_key_at:PySem.W.keepIn K (.ref a_key_at)=true)
  (A_ways_up:PySem.W.nsIn K mainGlobals "ways_up"=some (some (.ref a_ways_up)))
  (L_ways_up:K.lookup a_ways_up=some ⟨oc_ways_up,od_ways_up,.func (PySem.W.fnOf "ways_up" "ways_up" (ZD ZbM) (Zz ZbM) (Zg ZbM) .none kV_ways_up dc_ways_up pm_ways_up an_ways_up cd_ways_up ct_ways_up),sl_ways_up⟩)
  (C_ways_up:PySem.W.codeIn K cd_ways_up "ways_up"=true) (k_ways_up:PySem.W.keepIn K (.ref a_ways_up)=true)
  (A_goes_along:PySem.W.nsIn K mainGlobals "goes_along"=some (some (.ref a_goes_along)))
  (L_goes_along:K.lookup a_goes_along=some ⟨oc_goes_along,od_goes_along,.func (PySem.W.fnOf "goes_along" "goes_along" (ZD ZaS) (Zz ZaS) (Zg ZaS) .none kV_goes_along dc_goes_along pm_goes_along an_goes_along cd_goes_along ct_goes_along),sl_goes_along⟩)
  (C_goes_along:PySem.W.codeIn K cd_goes_along "goes_along"=true) (k_goes_along:PySem.W.keepIn K (.ref a_goes_along)=true)
  (A_merged_along:PySem.W.nsIn K mainGlobals "merged_along"=some (some (.ref a_merged_along)))
  (L_merged_along:K.lookup a_merged_along=some ⟨oc_merged_along,od_merged_along,.func (PySem.W.fnOf "merged_along" "merged_along" (ZD Zah) (Zz Zah) (Zg Zah) .none kV_merged_along dc_merged_along pm_merged_along an_merged_along cd_merged_along ct_merged_along),sl_merged_along⟩)
  (C_merged_along:PySem.W.codeIn K cd_merged_along "merged_along"=true) (k_merged_along:PySem.W.keepIn K (.ref a_merged_along)=true)
  (A_table_of:PySem.W.nsIn K mainGlobals "table_of"=some (some (.ref a_table_of)))
  (L_table_of:K.lookup a_table_of=some ⟨oc_table_of,od_table_of,.func (PySem.W.fnOf "table_of" "table_of" (ZD Zbt) (Zz Zbt) (Zg Zbt) .none kV_table_of dc_table_of pm_table_of an_table_of cd_table_of ct_table_of),sl_table_of⟩)
  (C_table_of:PySem.W.codeIn K cd_table_of "table_of"=true) (k_table_of:PySem.W.keepIn K (.ref a_table_of)=true)
  (A_law_cell_at:PySem.W.nsIn K mainGlobals "_law_cell_at"=some (some (.ref a_law_cell_at)))
  (L_law_cell_at:K.lookup a_law_cell_at=some ⟨oc_law_cell_at,od_law_cell_at,.func (PySem.W.fnOf "_law_cell_at" "_law_cell_at" (ZD Za3) (Zz Za3) (Zg Za3) .none kV_law_cell_at dc_law_cell_at pm_law_cell_at an_law_cell_at cd_law_cell_at ct_law_cell_at),sl_law_cell_at⟩)
  (C_law_cell_at:PySem.W.codeIn K cd_law_cell_at "_law_cell_at"=true) (k_law_cell_at:PySem.W.keepIn K (.ref a_law_cell_at)=true)
  (A_law_stream:PySem.W.nsIn K mainGlobals "_law_stream"=some (some (.ref a_law_stream)))
  (L_law_stream:K.lookup a_law_stream=some ⟨oc_law_stream,od_law_stream,.func (PySem.W.fnOf "_law_stream" "_law_stream" (ZD Zbn) (Zz Zbn) (Zg Zbn) .none kV_law_stream dc_law_stream pm_law_stream an_law_stream cd_law_stream ct_law_stream),sl_law_stream⟩)
  (C_law_stream:PySem.W.codeIn K cd_law_stream "_law_stream"=true) (k_law_stream:PySem.W.keepIn K (.ref a_law_stream)=true)
  (A_law_word:PySem.W.nsIn K mainGlobals "_law_word"=some (some (.ref a_law_word)))
  (L_law_word:K.lookup a_law_word=some ⟨oc_law_word,od_law_word,.func (PySem.W.fnOf "_law_word" "_law_word" (ZD ZbZ) (Zz ZbZ) (Zg ZbZ) .none kV_law_word dc_law_word pm_law_word an_law_word cd_law_word ct_law_word),sl_law_word⟩)
  (C_law_word:PySem.W.codeIn K cd_law_word "_law_word"=true) (k_law_word:PySem.W.keepIn K (.ref a_law_word)=true)
  (A_law_value:PySem.W.nsIn K mainGlobals "_law_value"=some (some (.ref a_law_value)))
  (L_law_value:K.lookup a_law_value=some ⟨oc_law_value,od_law_value,.func (PySem.W.fnOf "_law_value" "_law_value" (ZD ZbE) (Zz ZbE) (Zg ZbE) .none kV_law_value dc_law_value pm_law_value an_law_value cd_law_value ct_law_value),sl_law_value⟩)
  (C_law_value:PySem.W.codeIn K cd_law_value "_law_value"=true) (k_law_value:PySem.W.keepIn K (.ref a_law_value)=true)
  (A_law_ladder:PySem.W.nsIn K mainGlobals "_law_ladder"=some (some (.ref a_law_ladder)))
  (L_law_ladder:K.lookup a_law_ladder=some ⟨oc_law_ladder,od_law_ladder,.func (PySem.W.fnOf "_law_ladder" "_law_ladder" (ZD Zbi) (Zz Zbi) (Zg Zbi) .none kV_law_ladder dc_law_ladder pm_law_ladder an_law_ladder cd_law_ladder ct_law_ladder),sl_law_ladder⟩)
  (C_law_ladder:PySem.W.codeIn K cd_law_ladder "_law_ladder"=true) (k_law_ladder:PySem.W.keepIn K (.ref a_law_ladder)=true)
  (A_law_ladders:PySem.W.nsIn K mainGlobals "_law_ladders"=some (some (.ref a_law_ladders)))
  (L_law_ladders:K.lookup a_law_ladders=some ⟨oc_law_ladders,od_law_ladders,.func (PySem.W.fnOf "_law_ladders" "_law_ladders" (ZD Za2) (Zz Za2) (Zg Za2) .none kV_law_ladders dc_law_ladders pm_law_ladders an_law_ladders cd_law_ladders ct_law_ladders),sl_law_ladders⟩)
  (C_law_ladders:PySem.W.codeIn K cd_law_ladders "_law_ladders"=true) (k_law_ladders:PySem.W.keepIn K (.ref a_law_ladders)=true)
  (A_law_row:PySem.W.nsIn K mainGlobals "_law_row"=some (some (.ref a_law_row)))
  (L_law_row:K.lookup a_law_row=some ⟨oc_law_row,od_law_row,.func (PySem.W.fnOf "_law_row" "_law_row" (ZD ZbP) (Zz ZbP) (Zg ZbP) .none kV_law_row dc_law_row pm_law_row an_law_row cd_law_row ct_law_row),sl_law_row⟩)
  (C_law_row:PySem.W.codeIn K cd_law_row "_law_row"=true) (k_law_row:PySem.W.keepIn K (.ref a_law_row)=true)
  (A_law_rank:PySem.W.nsIn K mainGlobals "_law_rank"=some (some (.ref a_law_rank)))
  (L_law_rank:K.lookup a_law_rank=some ⟨oc_law_rank,od_law_rank,.func (PySem.W.fnOf "_law_rank" "_law_rank" (ZD ZbX) (Zz ZbX) (Zg ZbX) .none kV_law_rank dc_law_rank pm_law_rank an_law_rank cd_law_rank ct_law_rank),sl_law_rank⟩)
  (C_law_rank:PySem.W.codeIn K cd_law_rank "_law_rank"=true) (k_law_rank:PySem.W.keepIn K (.ref a_law_rank)=true)
  (A_law_up:PySem.W.nsIn K mainGlobals "_law_up"=some (some (.ref a_law_up)))
  (L_law_up:K.lookup a_law_up=some ⟨oc_law_up,od_law_up,.func (PySem.W.fnOf "_law_up" "_law_up" (ZD ZcG) (Zz ZcG) (Zg ZcG) .none kV_law_up dc_law_up pm_law_up an_law_up cd_law_up ct_law_up),sl_law_up⟩)
  (C_law_up:PySem.W.codeIn K cd_law_up "_law_up"=true) (k_law_up:PySem.W.keepIn K (.ref a_law_up)=true)
  (A_law_key_at:PySem.W.nsIn K mainGlobals "_law_key_at"=some (some (.ref a_law_key_at)))
  (L_law_key_at:K.lookup a_law_key_at=some ⟨oc_law_key_at,od_law_key_at,.func (PySem.W.fnOf "_law_key_at" "_law_key_at" (ZD ZaX) (Zz ZaX) (Zg ZaX) .none kV_law_key_at dc_law_key_at pm_law_key_at an_law_key_at cd_law_key_at ct_law_key_at),sl_law_key_at⟩)
  (C_law_key_at:PySem.W.codeIn K cd_law_key_at "_law_key_at"=true) (k_law_key_at:PySem.W.keepIn K (.ref a_law_key_at)=true)
  (A_law_key_rank:PySem.W.nsIn K mainGlobals "_law_key_rank"=some (some (.ref a_law_key_rank)))
  (L_law_key_rank:K.lookup a_law_key_rank=some ⟨oc_law_key_rank,od_law_key_rank,.func (PySem.W.fnOf "_law_key_rank" "_law_key_rank" (ZD Zau) (Zz Zau) (Zg Zau) .none kV_law_key_rank dc_law_key_rank pm_law_key_rank an_law_key_rank cd_law_key_rank ct_law_key_rank),sl_law_key_rank⟩)
  (C_law_key_rank:PySem.W.codeIn K cd_law_key_rank "_law_key_rank"=true) (k_law_key_rank:PySem.W.keepIn K (.ref a_law_key_rank)=true)
  (A_law_cell_of:PySem.W.nsIn K mainGlobals "_law_cell_of"=some (some (.ref a_law_cell_of)))
  (L_law_cell_of:K.lookup a_law_cell_of=some ⟨oc_law_cell_of,od_law_cell_of,.func (PySem.W.fnOf "_law_cell_of" "_law_cell_of" (ZD Za0) (Zz Za0) (Zg Za0) .none kV_law_cell_of dc_law_cell_of pm_law_cell_of an_law_cell_of cd_law_cell_of ct_law_cell_of),sl_law_cell_of⟩)
  (C_law_cell_of:PySem.W.codeIn K cd_law_cell_of "_law_cell_of"=true) (k_law_cell_of:PySem.W.keepIn K (.ref a_law_cell_of)=true)
  (A_law_table:PySem.W.nsIn K mainGlobals "_law_table"=some (some (.ref a_law_table)))
  (L_law_table:K.lookup a_law_table=some ⟨oc_law_table,od_law_table,.func (PySem.W.fnOf "_law_table" "_law_table" (ZD Zbf) (Zz Zbf) (Zg Zbf) .none kV_law_table dc_law_table pm_law_table an_law_table cd_law_table ct_law_table),sl_law_table⟩)
  (C_law_table:PySem.W.codeIn K cd_law_table "_law_table"=true) (k_law_table:PySem.W.keepIn K (.ref a_law_table)=true)
  (A_law_grain:PySem.W.nsIn K mainGlobals "_law_grain"=some (some (.ref a_law_grain)))
  (L_law_grain:K.lookup a_law_grain=some ⟨oc_law_grain,od_law_grain,.func (PySem.W.fnOf "_law_grain" "_law_grain" (ZD ZbC) (Zz ZbC) (Zg ZbC) .none kV_law_grain dc_law_grain pm_law_grain an_law_grain cd_law_grain ct_law_grain),sl_law_grain⟩)
  (C_law_grain:PySem.W.codeIn K cd_law_grain "_law_grain"=true) (k_law_grain:PySem.W.keepIn K (.ref a_law_grain)=true)
  (A_law_is_table:PySem.W.nsIn K mainGlobals "_law_is_table"=some (some (.ref a_law_is_table)))
  (L_law_is_table:K.lookup a_law_is_table=some ⟨oc_law_is_table,od_law_is_table,.func (PySem.W.fnOf "_law_is_table" "_law_is_table" (ZD Zas) (Zz Zas) (Zg Zas) .none kV_law_is_table dc_law_is_table pm_law_is_table an_law_is_table cd_law_is_table ct_law_is_table),sl_law_is_table⟩)
  (C_law_is_table:PySem.W.codeIn K cd_law_is_table "_law_is_table"=true) (k_law_is_table:PySem.W.keepIn K (.ref a_law_is_table)=true)
  (A_law_rows:PySem.W.nsIn K mainGlobals "_law_rows"=some (some (.ref a_law_rows)))
  (L_law_rows:K.lookup a_law_rows=some ⟨oc_law_rows,od_law_rows,.func (PySem.W.fnOf "_law_rows" "_law_rows" (ZD Za5) (Zz Za5) (Zg Za5) .none kV_law_rows dc_law_rows pm_law_rows an_law_rows cd_law_rows ct_law_rows),sl_law_rows⟩)
  (C_law_rows:PySem.W.codeIn K cd_law_rows "_law_rows"=true) (k_law_rows:PySem.W.keepIn K (.ref a_law_rows)=true)
  (A_law:PySem.W.nsIn K mainGlobals "law"=some (some (.ref a_law)))
  (L_law:K.lookup a_law=some ⟨oc_law,od_law,.func (PySem.W.fnOf "law" "law" (ZD Ze4) (Zz Ze4) (Zg Ze4) .none kV_law dc_law pm_law an_law cd_law ct_law),sl_law⟩)
  (C_law:PySem.W.codeIn K cd_law "law"=true) (k_law:PySem.W.keepIn K (.ref a_law)=true)
  (N_all:PySem.W.nsIn K mainGlobals "all"=some none)
  (N_any:PySem.W.nsIn K mainGlobals "any"=some none)
  (N_bool:PySem.W.nsIn K mainGlobals "bool"=some none)
  (N_dict:PySem.W.nsIn K mainGlobals "dict"=some none)
  (N_enumerate:PySem.W.nsIn K mainGlobals "enumerate"=some none)
  (N_int:PySem.W.nsIn K mainGlobals "int"=some none)
  (N_isinstance:PySem.W.nsIn K mainGlobals "isinstance"=some none)
  (N_len:PySem.W.nsIn K mainGlobals "len"=some none)
  (N_list:PySem.W.nsIn K mainGlobals "list"=some none)
  (N_max:PySem.W.nsIn K mainGlobals "max"=some none)
  (N_min:PySem.W.nsIn K mainGlobals "min"=some none)
  (N_range:PySem.W.nsIn K mainGlobals "range"=some none)
  (N_sorted:PySem.W.nsIn K mainGlobals "sorted"=some none)
  (N_str:PySem.W.nsIn K mainGlobals "str"=some none)
  (N_sum:PySem.W.nsIn K mainGlobals "sum"=some none)
  (N_tuple:PySem.W.nsIn K mainGlobals "tuple"=some none)
  (N_zip:PySem.W.nsIn K mainGlobals "zip"=some none) :
  ∃ fd:FuncData,(∀ (s:Shared) (v:Value),BindsTo s fd ⟨[v],[]⟩ [("_law_script",v)])∧∀ base:Heap,K.In base→base.Ns mainGlobals mg→FnOk l.prog w K mg base CX0 9 fa fd ["_law_script"] (Zic K):=by
 have e:=hfa.symm.trans (PySem.W.mg_of X G A_law)
 cases e
 have F_cell_of:=ZT (st:=Zct) L_cell_of C_cell_of k_cell_of
 have F_merged:=ZT (st:=ZcQ) L_merged C_merged k_merged
 have F_is_whole:=ZT (st:=Zb1) L_is_whole C_is_whole k_is_whole
 have F_value_rank:=ZT (st:=Zbm) L_value_rank C_value_rank k_value_rank
 have F_key_rank:=ZT (st:=Zbq) L_key_rank C_key_rank k_key_rank
 have F_in_order:=ZT (st:=Zb4) L_in_order C_in_order k_in_order
 have F_line_at:=ZT (st:=Zcs) L_line_at C_line_at k_line_at
 have F_up:=ZT (st:=Zhg) L_up C_up k_up
 have F_lifts:=ZT (st:=ZcO) L_lifts C_lifts k_lifts
 have F_finest:=ZT (st:=Zch) L_finest C_finest k_finest
 have F_key_at:=ZT (st:=Zcf) L_key_at C_key_at k_key_at
 have F_ways_up:=ZT (st:=ZbM) L_ways_up C_ways_up k_ways_up
 have F_goes_along:=ZT (st:=ZaS) L_goes_along C_goes_along k_goes_along
 have F_merged_along:=ZT (st:=Zah) L_merged_along C_merged_along k_merged_along
 have F_table_of:=ZT (st:=Zbt) L_table_of C_table_of k_table_of
 have F_law_cell_at:=ZT (st:=Za3) L_law_cell_at C_law_cell_at k_law_cell_at
 have F_law_stream:=ZT (st:=Zbn) L_law_stream C_law_stream k_law_stream
 have F_law_word:=ZT (st:=ZbZ) L_law_word C_law_word k_law_word
 have F_law_value:=ZT (st:=ZbE) L_law_value C_law_value k_law_value
 have F_law_ladder:=ZT (st:=Zbi) L_law_ladder C_law_ladder k_law_ladder
 have F_law_ladders:=ZT (st:=Za2) L_law_ladders C_law_ladders k_law_ladders
 have F_law_row:=ZT (st:=ZbP) L_law_row C_law_row k_law_row
 have F_law_rank:=ZT (st:=ZbX) L_law_rank C_law_rank k_law_rank
 have F_law_up:=ZT (st:=ZcG) L_law_up C_law_up k_law_up
 have F_law_key_at:=ZT (st:=ZaX) L_law_key_at C_law_key_at k_law_key_at
 have F_law_key_rank:=ZT (st:=Zau) L_law_key_rank C_law_key_rank k_law_key_rank
 have F_law_cell_of:=ZT (st:=Za0) L_law_cell_of C_law_cell_of k_law_cell_of
 have F_law_table:=ZT (st:=Zbf) L_law_table C_law_table k_law_table
 have F_law_grain:=ZT (st:=ZbC) L_law_grain C_law_grain k_law_grain
 have F_law_is_table:=ZT (st:=Zas) L_law_is_table C_law_is_table k_law_is_table
 have F_law_rows:=ZT (st:=Za5) L_law_rows C_law_rows k_law_rows
 have F_law:=ZT (st:=Ze4) L_law C_law k_law
 have T:Tx K mg ⟨a_cell_of,_,a_merged,_,a_is_whole,_,a_value_rank,_,a_key_rank,_,a_in_order,_,a_line_at,_,a_up,_,a_lifts,_,a_finest,_,a_key_at,_,a_ways_up,_,a_goes_along,_,a_merged_along,_,a_table_of,_,a_law_cell_at,_,a_law_stream,_,a_law_word,_,a_law_value,_,a_law_ladder,_,a_law_ladders,_,a_law_row,_,a_law_rank,_,a_law_up,_,a_law_key_at,_,a_law_key_rank,_,a_law_cell_of,_,a_law_table,_,a_law_grain,_,a_law_is_table,_,a_law_rows,_,fa,_⟩:={
  m_cell_of:=PySem.W.mg_of X G A_cell_of
  F_cell_of:=F_cell_of
  b_cell_of:=F_cell_of.binds fun _ _ _ _ _ _ us hl=>match us,hl with | [_],_=>rfl
  m_merged:=PySem.W.mg_of X G A_merged
  F_merged:=F_merged
  b_merged:=F_merged.binds fun _ _ _ _ _ _ us hl=>match us,hl with | [_,_],_=>rfl
  m_is_whole:=PySem.W.mg_of X G A_is_whole
  F_is_whole:=F_is_whole
  b_is_whole:=F_is_whole.binds fun _ _ _ _ _ _ us hl=>match us,hl with | [_],_=>rfl
  m_value_rank:=PySem.W.mg_of X G A_value_rank
  F_value_rank:=F_value_rank
  b_value_rank:=F_value_rank.binds fun _ _ _ _ _ _ us hl=>match us,hl with | [_],_=>rfl
  m_key_rank:=PySem.W.mg_of X G A_key_rank
  F_key_rank:=F_key_rank
  b_key_rank:=F_key_rank.binds fun _ _ _ _ _ _ us hl=>match us,hl with | [_],_=>rfl
  m_in_order:=PySem.W.mg_of X G A_in_order
  F_in_order:=F_in_order
  b_in_order:=F_in_order.binds fun _ _ _ _ _ _ us hl=>match us,hl with | [_],_=>rfl
  m_line_at:=PySem.W.mg_of X G A_line_at
  F_line_at:=F_line_at
  b_line_at:=F_line_at.binds fun _ _ _ _ _ _ us hl=>match us,hl with | [_,_],_=>rfl
  m_up:=PySem.W.mg_of X G A_up
  F_up:=F_up
  b_up:=F_up.binds fun _ _ _ _ _ _ us hl=>match us,hl with | [_,_,_],_=>rfl
  m_lifts:=PySem.W.mg_of X G A_lifts
  F_lifts:=F_lifts
  b_lifts:=F_lifts.binds fun _ _ _ _ _ _ us hl=>match us,hl with | [_,_,_],_=>rfl
  m_finest:=PySem.W.mg_of X G A_finest
  F_finest:=F_finest
  b_finest:=F_finest.binds fun _ _ _ _ _ _ us hl=>match us,hl with | [_],_=>rfl
  m_key_at:=PySem.W.mg_of X G A_key_at
  F_key_at:=F_key_at
  b_key_at:=F_key_at.binds fun _ _ _ _ _ _ us hl=>match us,hl with | [_,_,_],_=>rfl
  m_ways_up:=PySem.W.mg_of X G A_ways_up
  F_ways_up:=F_ways_up
  b_ways_up:=F_ways_up.binds fun _ _ _ _ _ _ us hl=>match us,hl with | [_,_,_],_=>rfl
  m_goes_along:=PySem.W.mg_of X G A_goes_along
  F_goes_along:=F_goes_along
  b_goes_along:=F_goes_along.binds fun _ _ _ _ _ _ us hl=>match us,hl with | [_,_],_=>rfl
  m_merged_along:=PySem.W.mg_of X G A_merged_along
  F_merged_along:=F_merged_along
  b_merged_along:=F_merged_along.binds fun _ _ _ _ _ _ us hl=>match us,hl with | [_,_],_=>rfl
  m_table_of:=PySem.W.mg_of X G A_table_of
  F_table_of:=F_table_of
  b_table_of:=F_table_of.binds fun _ _ _ _ _ _ us hl=>match us,hl with | [_,_,_],_=>rfl
  m_law_cell_at:=PySem.W.mg_of X G A_law_cell_at
  F_law_cell_at:=F_law_cell_at
  b_law_cell_at:=F_law_cell_at.binds fun _ _ _ _ _ _ us hl=>match us,hl with | [_,_],_=>rfl
  m_law_stream:=PySem.W.mg_of X G A_law_stream
  F_law_stream:=F_law_stream
  b_law_stream:=F_law_stream.binds fun _ _ _ _ _ _ us hl=>match us,hl with | [_,_],_=>rfl
  m_law_word:=PySem.W.mg_of X G A_law_word
  F_law_word:=F_law_word
  b_law_word:=F_law_word.binds fun _ _ _ _ _ _ us hl=>match us,hl with | [_,_],_=>rfl
  m_law_value:=PySem.W.mg_of X G A_law_value
  F_law_value:=F_law_value
  b_law_value:=F_law_value.binds fun _ _ _ _ _ _ us hl=>match us,hl with | [_,_,_],_=>rfl
  m_law_ladder:=PySem.W.mg_of X G A_law_ladder
  F_law_ladder:=F_law_ladder
  b_law_ladder:=F_law_ladder.binds fun _ _ _ _ _ _ us hl=>match us,hl with | [_,_,_],_=>rfl
  m_law_ladders:=PySem.W.mg_of X G A_law_ladders
  F_law_ladders:=F_law_ladders
  b_law_ladders:=F_law_ladders.binds fun _ _ _ _ _ _ us hl=>match us,hl with | [_],_=>rfl
  m_law_row:=PySem.W.mg_of X G A_law_row
  F_law_row:=F_law_row
  b_law_row:=F_law_row.binds fun _ _ _ _ _ _ us hl=>match us,hl with | [_,_,_],_=>rfl
  m_law_rank:=PySem.W.mg_of X G A_law_rank
  F_law_rank:=F_law_rank
  b_law_rank:=F_law_rank.binds fun _ _ _ _ _ _ us hl=>match us,hl with | [_],_=>rfl
  m_law_up:=PySem.W.mg_of X G A_law_up
  F_law_up:=F_law_up
  b_law_up:=F_law_up.binds fun _ _ _ _ _ _ us hl=>match us,hl with | [_,_,_],_=>rfl
  m_law_key_at:=PySem.W.mg_of X G A_law_key_at
  F_law_key_at:=F_law_key_at
  b_law_key_at:=F_law_key_at.binds fun _ _ _ _ _ _ us hl=>match us,hl with | [_,_,_],_=>rfl
  m_law_key_rank:=PySem.W.mg_of X G A_law_key_rank
  F_law_key_rank:=F_law_key_rank
  b_law_key_rank:=F_law_key_rank.binds fun _ _ _ _ _ _ us hl=>match us,hl with | [_],_=>rfl
  m_law_cell_of:=PySem.W.mg_of X G A_law_cell_of
  F_law_cell_of:=F_law_cell_of
  b_law_cell_of:=F_law_cell_of.binds fun _ _ _ _ _ _ us hl=>match us,hl with | [_],_=>rfl
  m_law_table:=PySem.W.mg_of X G A_law_table
  F_law_table:=F_law_table
  b_law_table:=F_law_table.binds fun _ _ _ _ _ _ us hl=>match us,hl with | [_,_,_],_=>rfl
  m_law_grain:=PySem.W.mg_of X G A_law_grain
  F_law_grain:=F_law_grain
  b_law_grain:=F_law_grain.binds fun _ _ _ _ _ _ us hl=>match us,hl with | [_,_],_=>rfl
  m_law_is_table:=PySem.W.mg_of X G A_law_is_table
  F_law_is_table:=F_law_is_table
  b_law_is_table:=F_law_is_table.binds fun _ _ _ _ _ _ us hl=>match us,hl with | [_],_=>rfl
  m_law_rows:=PySem.W.mg_of X G A_law_rows
  F_law_rows:=F_law_rows
  b_law_rows:=F_law_rows.binds fun _ _ _ _ _ _ us hl=>match us,hl with | [_,_],_=>rfl
  m_law:=PySem.W.mg_of X G A_law
  F_law:=F_law
  b_law:=F_law.binds fun _ _ _ _ _ _ us hl=>match us,hl with | [_],_=>rfl
  n_all:=PySem.W.mg_none_of X G N_all
  n_any:=PySem.W.mg_none_of X G N_any
  n_bool:=PySem.W.mg_none_of X G N_bool
  n_dict:=PySem.W.mg_none_of X G N_dict
  n_enumerate:=PySem.W.mg_none_of X G N_enumerate
  n_int:=PySem.W.mg_none_of X G N_int
  n_isinstance:=PySem.W.mg_none_of X G N_isinstance
  n_len:=PySem.W.mg_none_of X G N_len
  n_list:=PySem.W.mg_none_of X G N_list
  n_max:=PySem.W.mg_none_of X G N_max
  n_min:=PySem.W.mg_none_of X G N_min
  n_range:=PySem.W.mg_none_of X G N_range
  n_sorted:=PySem.W.mg_none_of X G N_sorted
  n_str:=PySem.W.mg_none_of X G N_str
  n_sum:=PySem.W.mg_none_of X G N_sum
  n_tuple:=PySem.W.mg_none_of X G N_tuple
  n_zip:=PySem.W.mg_none_of X G N_zip
 }
 exact ⟨_,fun s v=>.of_eq rfl,fun base _ _=>ZqF (ZqN T) Zno⟩
theorem walk {l:PySem.W.OpenLaw} {q:Program} {loose:List Str} {XP:(Str→Option Value)→Heap→Prop} {YP:World→Heap→Prop} {d:DefRec} {K:Params→PySem.W.Frag} (hn:l.most=some 63) (hdf:d.params.defaults=[])
  (hY:∀ (w:World) (h:Heap),YP w h→(K w.params).In h)
  (F:∀ (w:World) (mg:Str→Option Value) (fa:Addr) (h:Heap),(K w.params).In h→h.Ns mainGlobals mg→mg d.name=some (.ref fa) →
   ∃ fd:FuncData,(∀ (s:Shared) (u:Value),BindsTo s fd ⟨[u],[]⟩ [("_law_script",u)])∧∀ base:Heap,(K w.params).In base→base.Ns mainGlobals mg→FnOk l.prog w (K w.params) mg base CX0 9 fa fd ["_law_script"] (Zic (K w.params))) :
  PySem.W.WalkO q loose XP YP l.row.toRowW d [] (fun f vs=>PySem.call f vs) :=
 L2.walk_of (n:=63) (k:=9) (x:="_law_script") (CX:=fun _=>CX0) (sp:=fun w=>Zic (K w.params)) hn (by decide) hdf ⟨rfl,by decide,by decide⟩ hY F (fun _ _ a ns hl _ hS=>⟨a,ns,rfl,hS,hl,fun _=>rfl⟩) fun _ _ _ _ _ z=>z
end K32
def PySem.W.Fast.tw18433492300016849769 : Unit := ()
def PySem.W.Fast.tw10065212490373418113 : Unit := ()
def PySem.W.Fast.tw4941889493240880108 : Unit := ()
def PySem.W.Fast.tw13650710390234464694 : Unit := ()
def PySem.W.Fast.tw15334615681078307980 : Unit := ()
def PySem.W.Fast.tw4549155747624415141 : Unit := ()
def PySem.W.Fast.tw10100145194843104664 : Unit := ()
def PySem.W.Fast.tw4619310553832830529 : Unit := ()
def PySem.W.Fast.tw3866941323637767830 : Unit := ()
def PySem.W.Fast.tw13725878620123310669 : Unit := ()
def PySem.W.Fast.tw7704822508418643334 : Unit := ()
def PySem.W.Fast.tw12913948981567693308 : Unit := ()
def PySem.W.Fast.tw3467058162459008571 : Unit := ()
def PySem.W.Fast.tw22120010131722120 : Unit := ()
def PySem.W.Fast.tw9118525287583297727 : Unit := ()
def PySem.W.Fast.tw8056039720263097036 : Unit := ()
def PySem.W.Fast.tw11016406036844777424 : Unit := ()
open PySem PySem.W PyProof.Rows
set_option maxRecDepth 100000 in
set_option maxHeartbeats 0 in
theorem PySem.Challenge.cw_cubebook_k32_table_of_rows_holds : PySem.Challenge.rw_cubebook_k32_table_of_rows.Holds := by
 w_on;o_law;k_head;(case hw=>w_witness2)
 k_fill
 refine K32.walk (l:=PySem.Challenge.rw_cubebook_k32_table_of_rows) rfl rfl (fun w h Y=>PySem.W.kIn_of Y) ?F
 case F =>
  intro w mg fa h KX G hmg
  refine' K32.all_mk KX G hmg ?A_cell_of ?L_cell_of ?C_cell_of ?k_cell_of ?A_merged ?L_merged ?C_merged ?k_merged ?A_is_whole ?L_is_whole ?C_is_whole ?k_is_whole ?A_value_rank ?L_value_rank ?C_value_rank ?k_value_rank ?A_key_rank ?L_key_rank ?C_key_rank ?k_key_rank ?A_in_order ?L_in_order ?C_in_order ?k_in_order ?A_line_at ?L_line_at ?C_line_at ?k_line_at ?A_up ?L_up ?C_up ?k_up ?A_lifts ?L_lifts ?C_lifts ?k_lifts ?A_finest ?L_finest ?C_finest ?k_finest ?A_key_at ?L_key_at ?C_key_at ?k_key_at ?A_ways_up ?L_ways_up ?C_ways_up ?k_ways_up ?A_goes_along ?L_goes_along ?C_goes_along ?k_goes_along ?A_merged_along ?L_merged_along ?C_merged_along ?k_merged_along ?A_table_of ?L_table_of ?C_table_of ?k_table_of ?A_law_cell_at ?L_law_cell_at ?C_law_cell_at ?k_law_cell_at ?A_law_stream ?L_law_stream ?C_law_stream ?k_law_stream ?A_law_word ?L_law_word ?C_law_word ?k_law_word ?A_law_value ?L_law_value ?C_law_value ?k_law_value ?A_law_ladder ?L_law_ladder ?C_law_ladder ?k_law_ladder ?A_law_ladders ?L_law_ladders ?C_law_ladders ?k_law_ladders ?A_law_row ?L_law_row ?C_law_row ?k_law_row ?A_law_rank ?L_law_rank ?C_law_rank ?k_law_rank ?A_law_up ?L_law_up ?C_law_up ?k_law_up ?A_law_key_at ?L_law_key_at ?C_law_key_at ?k_law_key_at ?A_law_key_rank ?L_law_key_rank ?C_law_key_rank ?k_law_key_rank ?A_law_cell_of ?L_law_cell_of ?C_law_cell_of ?k_law_cell_of ?A_law_table ?L_law_table ?C_law_table ?k_law_table ?A_law_grain ?L_law_grain ?C_law_grain ?k_law_grain ?A_law_is_table ?L_law_is_table ?C_law_is_table ?k_law_is_table ?A_law_rows ?L_law_rows ?C_law_rows ?k_law_rows ?A_law ?L_law ?C_law ?k_law ?N_all ?N_any ?N_bool ?N_dict ?N_enumerate ?N_int ?N_isinstance ?N_len ?N_list ?N_max ?N_min ?N_range ?N_sorted ?N_str ?N_sum ?N_tuple ?N_zip
  (case A_cell_of=>k_is)
  (case L_cell_of=>k_is)
  (case C_cell_of=>k_is)
  (case k_cell_of=>k_is)
  (case A_merged=>k_is)
  (case L_merged=>k_is)
  (case C_merged=>k_is)
  (case k_merged=>k_is)
  (case A_is_whole=>k_is)
  (case L_is_whole=>k_is)
  (case C_is_whole=>k_is)
  (case k_is_whole=>k_is)
  (case A_value_rank=>k_is)
  (case L_value_rank=>k_is)
  (case C_value_rank=>k_is)
  (case k_value_rank=>k_is)
  (case A_key_rank=>k_is)
  (case L_key_rank=>k_is)
  (case C_key_rank=>k_is)
  (case k_key_rank=>k_is)
  (case A_in_order=>k_is)
  (case L_in_order=>k_is)
  (case C_in_order=>k_is)
  (case k_in_order=>k_is)
  (case A_line_at=>k_is)
  (case L_line_at=>k_is)
  (case C_line_at=>k_is)
  (case k_line_at=>k_is)
  (case A_up=>k_is)
  (case L_up=>k_is)
  (case C_up=>k_is)
  (case k_up=>k_is)
  (case A_lifts=>k_is)
  (case L_lifts=>k_is)
  (case C_lifts=>k_is)
  (case k_lifts=>k_is)
  (case A_finest=>k_is)
  (case L_finest=>k_is)
  (case C_finest=>k_is)
  (case k_finest=>k_is)
  (case A_key_at=>k_is)
  (case L_key_at=>k_is)
  (case C_key_at=>k_is)
  (case k_key_at=>k_is)
  (case A_ways_up=>k_is)
  (case L_ways_up=>k_is)
  (case C_ways_up=>k_is)
  (case k_ways_up=>k_is)
  (case A_goes_along=>k_is)
  (case L_goes_along=>k_is)
  (case C_goes_along=>k_is)
  (case k_goes_along=>k_is)
  (case A_merged_along=>k_is)
  (case L_merged_along=>k_is)
  (case C_merged_along=>k_is)
  (case k_merged_along=>k_is)
  (case A_table_of=>k_is)
  (case L_table_of=>k_is)
  (case C_table_of=>k_is)
  (case k_table_of=>k_is)
  (case A_law_cell_at=>k_is)
  (case L_law_cell_at=>k_is)
  (case C_law_cell_at=>k_is)
  (case k_law_cell_at=>k_is)
  (case A_law_stream=>k_is)
  (case L_law_stream=>k_is)
  (case C_law_stream=>k_is)
  (case k_law_stream=>k_is)
  (case A_law_word=>k_is)
  (case L_law_word=>k_is)
  (case C_law_word=>k_is)
  (case k_law_word=>k_is)
  (case A_law_value=>k_is)
  (case L_law_value=>k_is)
  (case C_law_value=>k_is)
  (case k_law_value=>k_is)
  (case A_law_ladder=>k_is)
  (case L_law_ladder=>k_is)
  (case C_law_ladder=>k_is)
  (case k_law_ladder=>k_is)
  (case A_law_ladders=>k_is)
  (case L_law_ladders=>k_is)
  (case C_law_ladders=>k_is)
  (case k_law_ladders=>k_is)
  (case A_law_row=>k_is)
  (case L_law_row=>k_is)
  (case C_law_row=>k_is)
  (case k_law_row=>k_is)
  (case A_law_rank=>k_is)
  (case L_law_rank=>k_is)
  (case C_law_rank=>k_is)
  (case k_law_rank=>k_is)
  (case A_law_up=>k_is)
  (case L_law_up=>k_is)
  (case C_law_up=>k_is)
  (case k_law_up=>k_is)
  (case A_law_key_at=>k_is)
  (case L_law_key_at=>k_is)
  (case C_law_key_at=>k_is)
  (case k_law_key_at=>k_is)
  (case A_law_key_rank=>k_is)
  (case L_law_key_rank=>k_is)
  (case C_law_key_rank=>k_is)
  (case k_law_key_rank=>k_is)
  (case A_law_cell_of=>k_is)
  (case L_law_cell_of=>k_is)
  (case C_law_cell_of=>k_is)
  (case k_law_cell_of=>k_is)
  (case A_law_table=>k_is)
  (case L_law_table=>k_is)
  (case C_law_table=>k_is)
  (case k_law_table=>k_is)
  (case A_law_grain=>k_is)
  (case L_law_grain=>k_is)
  (case C_law_grain=>k_is)
  (case k_law_grain=>k_is)
  (case A_law_is_table=>k_is)
  (case L_law_is_table=>k_is)
  (case C_law_is_table=>k_is)
  (case k_law_is_table=>k_is)
  (case A_law_rows=>k_is)
  (case L_law_rows=>k_is)
  (case C_law_rows=>k_is)
  (case k_law_rows=>k_is)
  (case A_law=>k_is)
  (case L_law=>k_is)
  (case C_law=>k_is)
  (case k_law=>k_is)
  (case N_all=>k_is)
  (case N_any=>k_is)
  (case N_bool=>k_is)
  (case N_dict=>k_is)
  (case N_enumerate=>k_is)
  (case N_int=>k_is)
  (case N_isinstance=>k_is)
  (case N_len=>k_is)
  (case N_list=>k_is)
  (case N_max=>k_is)
  (case N_min=>k_is)
  (case N_range=>k_is)
  (case N_sorted=>k_is)
  (case N_str=>k_is)
  (case N_sum=>k_is)
  (case N_tuple=>k_is)
  (case N_zip=>k_is)
#print axioms PySem.Challenge.cw_cubebook_k32_table_of_rows_holds
