import PyProof.Rows.All
import Wide.All
import OpenK.AllK
import Wide.FinOn
import Lean
import PyProof.EqAt
import PyProof.EqKinds
import PyProof.TupleCall
import PyProof.TupleKey
import PyProof.DictRoadsH
import Wide.Seal
import PyProof.NeKinds
import PyProof.ZipIter
import PyProof.EnumMake
import PyProof.Rows.TupTab
import KE.KDictLaws
import PyProof.AutoListH
import PyProof.AttrMissHeap
import KE.KDictOf
import KE.KIntText
import PyProof.StrBlockL
import PyProof.StrLawsChain
import PyProof.FString
import PyProof.Rows.FStr
import OpenK.KOwn
import KE.KIsAll
import KE.KDictList
import PyProof.StrCalls
import PyProof.StrOps2
import PySem.Challenge.RW_cubebook_k82_no_text
set_option Elab.async false
set_option linter.all false
set_option maxHeartbeats 4000000
set_option maxRecDepth 100000
namespace L2
open PySem PySem.Spec PyProof.Rows
abbrev Key:=Sum Int Str
def Zm9:Key→Value→Bool
 | .inl k,v=>Value.isInt k v
 | .inr x,v=>Value.isStrOf x v
def Zro (w:World):Key→Int
 | .inl k=>hashInt k
 | .inr x=>hashStr w x
theorem ZaL:∀ {k:Key} {v:Value},Zm9 k v=true→(∃ i t,k=Sum.inl i∧v=Value.int i t)∨(∃ x t,k=Sum.inr x∧v=Value.str x t)
 | .inl i,v,h=>by
  obtain ⟨t,e⟩:=Value.isInt_shape (k:=i) (v:=v) h
  exact .inl ⟨i,t,rfl,e⟩
 | .inr x,v,h=>by
  obtain ⟨t,e⟩:=Value.isStrOf_shape (x:=x) (v:=v) h
  exact .inr ⟨x,t,rfl,e⟩
theorem Zoi (a b:Int):decide ((Sum.inl a:Key)=Sum.inl b)=(a==b):=by
 by_cases e:a=b
 ·subst e;simp
 ·have h:¬ (Sum.inl a:Key)=Sum.inl b:=fun q=>e (Sum.inl.inj q)
  rw [decide_eq_false h]
  exact (beq_eq_false_iff_ne.mpr e).symm
theorem ZoJ (a b:Str):decide ((Sum.inr a:Key)=Sum.inr b)=decide (a=b):=by
 by_cases e:a=b
 ·subst e;simp
 ·have h:¬ (Sum.inr a:Key)=Sum.inr b:=fun q=>e (Sum.inr.inj q)
  rw [decide_eq_false h,decide_eq_false e]
theorem ZpW (a:Int) (b:Str):decide ((Sum.inl a:Key)=Sum.inr b)=false:=decide_eq_false (fun q=>nomatch q)
theorem ZpA (a:Str) (b:Int):decide ((Sum.inr a:Key)=Sum.inl b)=false:=decide_eq_false (fun q=>nomatch q)
def ZhQ (prog:Program) (w:World):PySem.KeyKind prog w Key where
 is:=Zm9
 hash:=Zro w
 inj:=fun v a b ha hb=>by
  rcases ZaL ha with ⟨i,t,rfl,rfl⟩ | ⟨x,t,rfl,rfl⟩
  ·rcases ZaL hb with ⟨j,u,rfl,e⟩ | ⟨y,u,rfl,e⟩
   ·injection e with e1 _;rw [e1]
   ·exact nomatch e
  ·rcases ZaL hb with ⟨j,u,rfl,e⟩ | ⟨y,u,rfl,e⟩
   ·exact nomatch e
   ·injection e with e1 _;rw [e1]
 byValue:=fun k v h=>by
  rcases ZaL h with ⟨i,t,rfl,rfl⟩ | ⟨x,t,rfl,rfl⟩<;>rfl
 pyHash:=fun hv h=>by
  rcases ZaL hv with ⟨i,t,rfl,rfl⟩ | ⟨x,t,rfl,rfl⟩
  ·exact wpAny_pyHash_int h
  ·exact wpAny_pyHash_str h
 eqBool:=fun hu hv h=>by
  rcases ZaL hu with ⟨i,t,rfl,rfl⟩ | ⟨x,t,rfl,rfl⟩
  ·rcases ZaL hv with ⟨j,u,rfl,rfl⟩ | ⟨y,u,rfl,rfl⟩
   ·rw [Zoi] at h;exact wpAny_eqBool_int h
   ·rw [ZpW] at h;exact SeqAt.EqAt.int_str i t y u _ _ _ _ h
  ·rcases ZaL hv with ⟨j,u,rfl,rfl⟩ | ⟨y,u,rfl,rfl⟩
   ·rw [ZpA] at h;exact SeqAt.EqAt.str_int x t j u _ _ _ _ h
   ·rw [ZoJ] at h;exact wpAny_eqBool_str h
 «strs»:=fun k x t v h=>by
  rcases ZaL h with ⟨i,u,rfl,e⟩ | ⟨y,u,rfl,e⟩
  ·exact nomatch e
  ·injection e with e1 _
   subst e1
   cases v<;>rfl
end L2
namespace L2
open PySem PySem.Spec PyProof.Rows
inductive V where
 | non | bl (b:Bool) | int (i:Int) | str (x:Str) | byt (b:Array UInt8) | flt (b:UInt64) | ref (a:Addr) | ty (n:String)
 deriving DecidableEq
def RelV:V→Value→Prop
 | .non,u=>u=Value.none
 | .bl b,u=>u=Value.bool b
 | .int i,u=>∃ t,u=Value.int i t
 | .str x,u=>∃ t,u=Value.str x t
 | .byt b,u=>∃ t,u=Value.bytes b t
 | .flt b,u=>∃ t,u=Value.float b t
 | .ref a,u=>u=Value.ref a
 | .ty n,u=>u=Value.type n
abbrev Vals:List V→List Value→Prop:=Paired RelV
theorem Vals.length {xs:List V} {us:List Value} (r:Vals xs us):xs.length=us.length:=Paired.length r
theorem Vals.get:∀ {xs:List V} {us:List Value} {i:Nat} {x:V},Vals xs us→xs[i]?=some x→∃ u,us[i]?=some u∧RelV x u
 | _,_,_,_,.nil,e=>by simp at e
 | _,_,0,_,.cons r _,e=>by simp at e;subst e;exact ⟨_,rfl,r⟩
 | _,_,i+1,x,.cons _ t,e=>by
  obtain ⟨u,h1,h2⟩:=Vals.get (i:=i) (x:=x) t (by simpa using e)
  exact ⟨u,by simpa using h1,h2⟩
theorem Vals.set {x:V} {u:Value} (r:RelV x u):∀ {xs:List V} {us:List Value} (i:Nat),Vals xs us→Vals (xs.set i x) (us.set i u)
 | _,_,_,.nil=>.nil
 | _,_,0,.cons _ t=>.cons r t
 | _,_,i+1,.cons q t=>.cons q (Vals.set r i t)
theorem Vals.append:∀ {xs ys:List V} {us ws:List Value},Vals xs us→Vals ys ws→Vals (xs++ys) (us++ws)
 | _,_,_,_,.nil,s=>s
 | _,_,_,_,.cons r t,s=>.cons r (Vals.append t s)
theorem Vals.take:∀ {xs:List V} {us:List Value} (n:Nat),Vals xs us→Vals (xs.take n) (us.take n)
 | _,_,0,_=>.nil
 | _,_,_+1,.nil=>.nil
 | _,_,n+1,.cons r t=>.cons r (Vals.take n t)
theorem Vals.drop:∀ {xs:List V} {us:List Value} (n:Nat),Vals xs us→Vals (xs.drop n) (us.drop n)
 | _,_,0,r=>r
 | _,_,_+1,.nil=>.nil
 | _,_,n+1,.cons _ t=>Vals.drop n t
def RelO:Option V→Option Value→Prop
 | some v,some u=>RelV v u
 | none,none=>True
 | _,_=>False
def KV {κ:Type}:List (κ×V)→List (κ×Value)→Prop:=Paired fun (p:κ×V) (q:κ×Value)=>p.1=q.1∧RelV p.2 q.2
def kV:Key→V
 | .inl i=>.int i
 | .inr x=>.str x
inductive At where
 | non | int (i:Int) | str (x:Str)
 deriving DecidableEq
def atH (w:World):At→Int
 | .non=>reduceHash 4238894112
 | .int k=>hashInt k
 | .str x=>hashStr w x
inductive KT where
 | at (a:At) | tup (l:List At)
 deriving DecidableEq
def KT.hash (w:World):KT→Int
 | .at a=>atH w a
 | .tup l=>reduceHash (Builtin.Tuple.tupleHashOf (l.map (atH w)))
def atV:At→V
 | .non=>.non
 | .int i=>.int i
 | .str x=>.str x
def ktV:KT→V→Prop
 | .at a,v=>v=atV a
 | .tup _,v=>∃ p,v=.ref p
def Znb (w:World):List KT→List V→List DictEntry→Prop
 | [],vs,es=>vs=[]∧es=[]
 | k::ks,vs,es=>∃ kv v r e t,vs=kv::v::r∧es=e::t∧RelV kv e.key∧RelV v e.val∧e.hash=k.hash w∧ktV k kv∧Znb w ks r t
inductive HO where
 | lst (xs:List V)
 | tup (xs:List V)
 | dK (kvs:List (Key×V)) | dT (kvs:List (List Key×V))
 | dct (ks:List KT) (vs:List V)
 | set (S:Int→Bool) (n:Nat)
 | ins (C dx:Addr) (fs:List (Str×V))
 | own (x:Addr)
 | xd (fs:List (Str×V))
 | met (f x:Addr)
 | rng (lo hi:Int)
 | frz (o:Obj) (u:HO)
 | tbl (ps:Array Value)
 | ext (φ:Heap→Prop)
abbrev Hp:=Addr→Option HO
def upd (H:Hp) (a:Addr) (o:HO):Hp:=fun b=>if b=a then some o else H b
theorem Zaw {H:Hp} {a:Addr} {o:HO}:upd H a o a=some o:=by unfold upd;rw [if_pos rfl]
theorem ZB {H:Hp} {a b:Addr} {o:HO} (h:b≠a):upd H a o b=H b:=by unfold upd;rw [if_neg h]
theorem ZX {H:Hp} {a b:Addr} {o:HO} (h:H a=some o) (h':H b=none):a≠b:=by
 intro e;subst e;rw [h] at h';cases h'
section
variable (P:Program) (w:World)
def ObjOk (H:Hp) (h:Heap) (a:Addr):HO→Prop
 | .lst xs=>xs.length≤sizeLine∧∃ (its:List Value) (n:Nat),Vals xs its∧h.get? a=some { cls:=.type "list",data:=.seq its.toArray n }
 | .tup xs=>xs.length≤sizeLine∧∃ its:List Value,Vals xs its∧IsTup h a its.toArray
 | .dK kvs=>kvs.length≤sizeLine∧(a==sysModules)=false∧∃ vs,KV kvs vs∧h.DictOf (ZhQ P w) a vs
 | .dT kvs=>kvs.length≤sizeLine∧(a==sysModules)=false∧∃ xs:List (List Key×Addr×Value),
   Paired (fun (p:List Key×V) (q:List Key×Addr×Value)=>p.1=q.1∧H q.2.1=some (.tup (p.1.map kV))∧RelV p.2 q.2.2) kvs xs ∧
   ∃ o es ep,h.get? a=some o∧o.ExactDict∧o.data=.dict es ep∧es.toList=xs.map (entryOfKey (tupleKind (ZhQ P w)))∧(xs.map (·.1)).Nodup
 | .dct ks vs=>ks.length≤sizeLine∧(a==sysModules)=false∧ks.Nodup∧∃ o es ep,h.get? a=some o∧o.ExactDict∧o.data=.dict es ep∧Znb w ks vs es.toList
 | .set S n=>h.SetOf (intKind P w) a S n
 | .ins C dx fs=>H dx=some (.own a)∧fs.length≤1000∧dx≠a∧h.get? a=some (PySem.W.instObj C dx) ∧
   ∃ mA,h.Ns1 dx mA∧(∀ f,RelO (fs.lookup f) (mA f))∧PySem.Within mA (fs.map (·.1))
 | .own _=>∃ o,h.get? a=some o
 | .xd fs=>∃ mA,h.Ns1 a mA∧∀ f,RelO (fs.lookup f) (mA f)
 | .rng lo hi=>∃ t u v,h.get? a=some { cls:=.type "range",data:=.fields #[.int lo t,.int hi u,.int 1 v] }
 | .frz o u=>h.get? a=some o∧ObjOk H h a u
 | .tbl ps=>h.get? a=some { cls:=.none,data:=.fields ps }
 | .met f x=>h.get? a=some (PySem.W.methodObj (.ref f) (.ref x))
 | .ext φ=>φ h∧(∃ o,h.get? a=some o)∧∀ h1 h2:Heap,φ h1→(∀ o,h1.get? a=some o→h2.get? a=some o)→φ h2
def HOk (H:Hp) (h:Heap):Prop:=∀ a o,H a=some o→ObjOk P w H h a o
end
section
variable {P:Program} {w:World} {H H':Hp} {h h':Heap} {a:Addr} {o:HO}
theorem ObjOk.lt (x:ObjOk P w H h a o):a<h.objs.size:=by
 cases o with
 | lst xs=>obtain ⟨_,_,_,_,e⟩:=x;exact Heap.lt_size e
 | tup xs=>obtain ⟨_,_,_,p⟩:=x;exact p.lt
 | dK kvs=>obtain ⟨_,_,_,_,o,_,_,e,_⟩:=x;exact Heap.lt_size e
 | dT kvs=>obtain ⟨_,_,_,_,o,_,_,e,_⟩:=x;exact Heap.lt_size e
 | dct ks vs=>obtain ⟨_,_,_,o,_,_,e,_⟩:=x;exact Heap.lt_size e
 | set S n=>obtain ⟨o,_,_,_,e,_⟩:=x;exact Heap.lt_size e
 | ins C dx fs=>obtain ⟨_,_,_,e,_⟩:=x;exact Heap.lt_size e
 | own y=>obtain ⟨_,e⟩:=x;exact Heap.lt_size e
 | xd fs=>obtain ⟨_,⟨_,_,_,e,_⟩,_⟩:=x;exact Heap.lt_size e
 | rng lo hi=>obtain ⟨_,_,_,e⟩:=x;exact Heap.lt_size e
 | frz ob u=>obtain ⟨e,_⟩:=x;exact Heap.lt_size e
 | tbl ps=>exact Heap.lt_size (show h.get? a=some _ from x)
 | met f y=>exact Heap.lt_size (show h.get? a=some _ from x)
 | ext φ=>obtain ⟨_,⟨_,e⟩,_⟩:=x;exact Heap.lt_size e
theorem Paired.mapP {α β:Type} {F G:α→β→Prop}:∀ {l₁:List α} {l₂:List β},Paired F l₁ l₂→(∀ a b,F a b→G a b)→Paired G l₁ l₂
 | _,_,.nil,_=>.nil
 | _,_,.cons r t,f=>.cons (f _ _ r) (Paired.mapP t f)
theorem ObjOk.stay (x:ObjOk P w H h a o) (k:∀ b u,(b=a∨H b=some (.own a))→h.get? b=some u→h'.get? b=some u)
  (ho:∀ b,H b=some (.own a)→H' b=some (.own a)) (ht:∀ b xs,H b=some (.tup xs)→H' b=some (.tup xs)):ObjOk P w H' h' a o:=by
 induction o with
 | lst xs=>obtain ⟨z,its,n,r,e⟩:=x;exact ⟨z,its,n,r,k _ _ (.inl rfl) e⟩
 | tup xs=>obtain ⟨z,its,r,ob,e,c⟩:=x;exact ⟨z,its,r,ob,k _ _ (.inl rfl) e,c⟩
 | dK kvs=>obtain ⟨z,y,vs,r,ob,es,ep,e,c⟩:=x;exact ⟨z,y,vs,r,ob,es,ep,k _ _ (.inl rfl) e,c⟩
 | dT kvs =>
  obtain ⟨z,y,xs,r,ob,es,ep,e,c⟩:=x
  exact ⟨z,y,xs,Paired.mapP r fun p q z=>⟨z.1,ht _ _ z.2.1,z.2.2⟩,ob,es,ep,k _ _ (.inl rfl) e,c⟩
 | dct ks vs=>obtain ⟨z,y,n,ob,es,ep,e,c⟩:=x;exact ⟨z,y,n,ob,es,ep,k _ _ (.inl rfl) e,c⟩
 | set S n=>obtain ⟨ob,es,ep,t,e,c⟩:=x;exact ⟨ob,es,ep,t,k _ _ (.inl rfl) e,c⟩
 | ins C dx fs =>
  obtain ⟨d,z,ne,e,mA,⟨od,es,ep,e2,c⟩,r⟩:=x
  exact ⟨ho _ d,z,ne,k _ _ (.inl rfl) e,mA,⟨od,es,ep,k _ _ (.inr d) e2,c⟩,r⟩
 | own y=>obtain ⟨ob,e⟩:=x;exact ⟨ob,k _ _ (.inl rfl) e⟩
 | xd fs=>obtain ⟨mA,⟨od,es,ep,e,c⟩,r⟩:=x;exact ⟨mA,⟨od,es,ep,k _ _ (.inl rfl) e,c⟩,r⟩
 | rng lo hi=>obtain ⟨t,u,v,e⟩:=x;exact ⟨t,u,v,k _ _ (.inl rfl) e⟩
 | frz ob u ih=>obtain ⟨e,q⟩:=x;exact ⟨k _ _ (.inl rfl) e,ih q⟩
 | tbl ps =>
  have e:h.get? a=some { cls:=.none,data:=.fields ps }:=x
  show h'.get? a=some { cls:=.none,data:=.fields ps }
  exact k a _ (.inl rfl) e
 | met f y =>
  have e:h.get? a=some (PySem.W.methodObj (.ref f) (.ref y)):=x
  show h'.get? a=some (PySem.W.methodObj (.ref f) (.ref y))
  exact k a _ (.inl rfl) e
 | ext φ=>obtain ⟨p,⟨o,e⟩,st⟩:=x;exact ⟨st _ _ p fun o q=>k _ _ (.inl rfl) q,⟨o,k _ _ (.inl rfl) e⟩,st⟩
theorem HOk.lt (x:HOk P w H h) (e:H a=some o):a<h.objs.size:=(x a o e).lt
theorem HOk.fresh (x:HOk P w H h) (e:h.objs.size≤a):H a=none:=by
 cases q:H a with
 | none=>rfl
 | some u=>exact absurd (Nat.lt_of_lt_of_le (x.lt q) e) (Nat.lt_irrefl _)
theorem HOk.kept (x:HOk P w H h) (k:∀ b u,h.get? b=some u→h'.get? b=some u):HOk P w H h':=fun a o e =>
 (x a o e).stay (fun b u _ q=>k b u q) (fun _ q=>q) fun _ _ q=>q
theorem HOk.laid (x:HOk P w H h) (k:∀ b u,h.get? b=some u→h'.get? b=some u) (hp:h.objs.size≤a) (new:ObjOk P w (upd H a o) h' a o):HOk P w (upd H a o) h':=fun b u e=>by
 have hn:=x.fresh hp
 by_cases hb:b=a
 ·subst hb;rw [Zaw] at e;cases e;exact new
 ·rw [ZB hb] at e
  exact (x b u e).stay (fun c v _ q=>k c v q) (fun c q=>by rw [ZB (ZX q hn)];exact q) fun c xs q=>by rw [ZB (ZX q hn)];exact q
end
def Rd (H:Hp) (a:Addr) (u:HO):Prop:=H a=some u∨∃ o,H a=some (.frz o u)
theorem Rd.of {H:Hp} {a:Addr} {u:HO} (h:H a=some u):Rd H a u:=.inl h
theorem Rd.ok {P:Program} {w:World} {H:Hp} {h:Heap} {a:Addr} {u:HO} (r:Rd H a u) (x:HOk P w H h):ObjOk P w H h a u:=by
 rcases r with r | ⟨o,r⟩
 ·exact x a u r
 ·obtain ⟨_,q⟩:=x a _ r
  exact q
def Mut:Option HO→Prop
 | some (.lst _)=>True
 | some (.dK _)=>True
 | some (.dT _)=>True
 | some (.dct _ _)=>True
 | some (.set _ _)=>True
 | some (.ins _ _ _)=>True
 | some (.ext _)=>True
 | _=>False
section
variable {P:Program} {w:World} {H:Hp} {h h':Heap} {x e:Addr} {o':HO}
theorem HOk.write (ok:HOk P w H h) (mu:Mut (H x)) (he:e=x∨H e=some (.own x)) (k:∀ b u,b≠e→h.get? b=some u→h'.get? b=some u) (heo:∃ u,h'.get? e=some u)
  (new:ObjOk P w (upd H x o') h' x o'):HOk P w (upd H x o') h':=fun b u q=>by
 have nown:∀ c y,H c=some (.own y)→c≠x:=fun c y r z=>by subst z;rw [r] at mu;exact mu
 have ntup:∀ c xs,H c=some (.tup xs)→c≠x:=fun c xs r z=>by subst z;rw [r] at mu;exact mu
 by_cases hb:b=x
 ·subst hb;rw [Zaw] at q;cases q;exact new
 ·rw [ZB hb] at q
  by_cases hbe:b=e
  ·have q':H b=some (.own x):=by
    rcases he with z | z
    ·exact absurd (hbe.trans z) hb
    ·rw [hbe];exact z
   rw [q] at q';cases q'
   obtain ⟨v,hv⟩:=heo
   exact ⟨v,by rw [hbe];exact hv⟩
  ·refine (ok b u q).stay (fun c v hc r=>k c v ?_ r) (fun c r=>by rw [ZB (nown c b r)];exact r) fun c xs r=>by rw [ZB (ntup c xs r)];exact r
   rcases hc with rfl | hc
   ·exact hbe
   ·rintro rfl
    rcases he with z | z
    ·exact nown c b hc z
    ·rw [hc] at z;cases z;exact hb rfl
end
structure Un (fs ex:List Addr) (H H':Hp) (h h':Heap):Prop where
 keep:∀ b o,h.get? b=some o→H b=none→b∉fs→b∉ex→h'.get? b=some o
 slot:∀ b o,h.get? b=some o→H b=none→b∈fs→b∉ex→∃ sl,h'.get? b=some { o with slots:=sl }
 free:∀ b o,h.get? b=some o→H b=none→b∉ex→H' b=none
 there:∀ b o,h.get? b=some o→b∉ex→∃ o',h'.get? b=some o'
 tups:∀ b xs,H b=some (.tup xs)→H' b=some (.tup xs)
 frzs:∀ b o u,H b=some (.frz o u)→H' b=some (.frz o u)
 tbls:∀ b ps,H b=some (.tbl ps)→∃ more,H' b=some (.tbl (ps++more))
section
variable {fs fs' ex ex':List Addr} {H H1 H2:Hp} {h h1 h2 h':Heap} {a x e:Addr} {o:HO}
theorem Un.any (u:Un fs ex H H1 h h1) {b:Addr} {ob:Obj} (q:h.get? b=some ob) (n:H b=none) (hx:b∉ex):∃ sl,h1.get? b=some { ob with slots:=sl }:=by
 by_cases hb:b∈fs
 ·exact u.slot b ob q n hb hx
 ·exact ⟨ob.slots,u.keep b ob q n hb hx⟩
theorem Un.trans (a:Un fs ex H H1 h h1) (b:Un fs ex H1 H2 h1 h2):Un fs ex H H2 h h2 where
 keep:=fun c ob q n hc hx=>b.keep c ob (a.keep c ob q n hc hx) (a.free c ob q n hx) hc hx
 slot:=fun c ob q n hc hx=>by
  obtain ⟨sl,e1⟩:=a.slot c ob q n hc hx
  obtain ⟨sl',e2⟩:=b.slot c _ e1 (a.free c ob q n hx) hc hx
  exact ⟨sl',e2⟩
 free:=fun c ob q n hx=>by
  obtain ⟨o',e1⟩:=a.there c ob q hx
  exact b.free c o' e1 (a.free c ob q n hx) hx
 there:=fun c ob q hx=>by
  obtain ⟨o',e1⟩:=a.there c ob q hx
  exact b.there c o' e1 hx
 tups:=fun c xs q=>b.tups c xs (a.tups c xs q)
 frzs:=fun c ob xs q=>b.frzs c ob xs (a.frzs c ob xs q)
 tbls:=fun c ps q=>by
  obtain ⟨m1,e1⟩:=a.tbls c ps q
  obtain ⟨m2,e2⟩:=b.tbls c _ e1
  exact ⟨m1++m2,by rw [e2,Array.append_assoc]⟩
theorem Un.kept (k:∀ b u,h.get? b=some u→h'.get? b=some u):Un fs ex H H h h' :=
 ⟨fun b ob q _ _ _=>k b ob q,fun b ob q _ _ _=>⟨ob.slots,k b ob q⟩,fun _ _ _ n _=>n,fun b ob q _=>⟨ob,k b ob q⟩,fun _ _ q=>q,fun _ _ _ q=>q,fun _ ps q=>⟨#[],by rw [q];simp⟩⟩
theorem Un.refl:Un fs ex H H h h:=Un.kept fun _ _ q=>q
theorem Un.laid (k:∀ b u,h.get? b=some u→h'.get? b=some u) (hp:h.objs.size≤a) (hn:H a=none):Un fs ex H (upd H a o) h h' where
 keep:=fun b u q _ _ _=>k b u q
 slot:=fun b u q _ _ _=>⟨u.slots,k b u q⟩
 free:=fun b u q n _=>by rw [ZB (Nat.ne_of_lt (Nat.lt_of_lt_of_le (Heap.lt_size q) hp))];exact n
 there:=fun b u q _=>⟨u,k b u q⟩
 tups:=fun b xs q=>by rw [ZB (ZX q hn)];exact q
 frzs:=fun b u xs q=>by rw [ZB (ZX q hn)];exact q
 tbls:=fun b ps q=>⟨#[],by rw [ZB (ZX q hn),q];simp⟩
theorem Un.write (mu:Mut (H x)) (he:e=x∨H e=some (.own x)) (k:∀ b u,b≠e→h.get? b=some u→h'.get? b=some u) (heo:∃ u,h'.get? e=some u):Un fs ex H (upd H x o) h h':=by
 have hx:∀ b,H b=none→b≠x:=fun b n z=>by subst z;rw [n] at mu;exact mu
 have hb:∀ b,H b=none→b≠e:=fun b n z=>by
  subst z
  rcases he with r | r
  ·exact hx b n r
  ·rw [n] at r;cases r
 have hm:∀ b u,H b=some u→¬ Mut (some u)→b≠x:=fun b u q nm z=>by subst z;rw [q] at mu;exact nm mu
 refine ⟨fun b u q n _ _=>k b u (hb b n) q,fun b u q n _ _=>⟨u.slots,k b u (hb b n) q⟩,fun b u q n _=>by rw [ZB (hx b n)];exact n,fun b u q _=>?_,
  fun b xs q=>by rw [ZB (hm b _ q fun z=>z)];exact q,fun b u xs q=>by rw [ZB (hm b _ q fun z=>z)];exact q,fun b ps q=>⟨#[],by rw [ZB (hm b _ q fun z=>z),q];simp⟩⟩
 by_cases hbe:b=e
 ·subst hbe;exact heo
 ·exact ⟨u,k b u hbe q⟩
theorem Un.mono (u:Un fs ex H H1 h h1) (hs:∀ b∈fs,b∈fs') (hx:∀ b∈ex,b∈ex'):Un fs' ex' H H1 h h1 :=
 ⟨fun b ob q n hb he=>u.keep b ob q n (fun z=>hb (hs b z)) fun z=>he (hx b z),fun _ _ q n _ he=>u.any q n fun z=>he (hx _ z),fun b ob q n he=>u.free b ob q n fun z=>he (hx b z),fun b ob q he=>u.there b ob q fun z=>he (hx b z),u.tups,u.frzs,u.tbls⟩
end
def trk (h:Heap) (H:Hp):List Addr:=(List.range h.objs.size).filter fun a=>(H a).isSome
def ZfE (h:Heap) (H:Hp):Heap:=PySem.W.hideAll h (trk h H)
theorem Zlw (h:Heap) (H:Hp):(ZfE h H).objs.size=h.objs.size:=PySem.W.hideAll_size _ _
theorem ZmH {h:Heap} {H:Hp} {b:Addr} {o:Obj} (e:h.get? b=some o) (n:H b=none):(ZfE h H).get? b=some o :=
 PySem.W.hideAll_get _ e fun hm=>by
  have q:(H b).isSome=true:=(List.mem_filter.mp hm).2
  rw [n] at q;simp at q
theorem ZnI {h:Heap} {H:Hp} {b:Addr} {o:Obj} (e:(ZfE h H).get? b=some o):h.get? b=some o∧H b=none:=by
 have e':h.get? b=some o:=PySem.W.of_hideAll (trk h H) e
 refine ⟨e',?_⟩
 cases q:H b with
 | none=>rfl
 | some x =>
  have hm:b∈trk h H:=List.mem_filter.mpr ⟨List.mem_range.mpr (Heap.lt_size e'),by simp [q]⟩
  have z:(ZfE h H).get? b=none:=PySem.W.hideAll_none (trk h H) hm
  rw [z] at e;cases e
def Zod (g h:Heap) (L:Addr):List (Addr×Obj):=(List.range h.objs.size).filterMap fun a=>if a=L∨(g.get? a).isSome=true then none else (h.get? a).map fun o=>(a,o)
def ZV (g h:Heap) (L d:Addr):List (Addr×Obj):=(Zod g h L).filter fun p=>decide (p.1≠d)
end L2
namespace L2
open PySem PySem.Spec PyProof.Rows
structure Mod (K:PySem.W.Frag) (mg:Str→Option Value) (base:Heap):Prop where
 kin:K.In base
 glob:base.Ns mainGlobals mg
 blt:∃ mb,base.Ns builtinsNs mb∧∀ x:Str,x≠"__name__"→mb x=bootBuiltins x
 nolimit:base.NoLimit
structure Cx where
 prog:Program
 w:World
 K:PySem.W.Frag
 mg:Str→Option Value
 base:Heap
 A:Around
 N:List Str
 s₀:Shared
 H₀:Hp
 env:Env
 outer:List Env
 stack:List Env
 ex:List Addr
 fn:Str→Bool
 calm:Bool
 pn:List (Addr×Obj)
 xe:Value→Shared→Prop
def frs (l:List Env):List Addr:=l.filterMap (·.frame)
abbrev Cx.fs (X:Cx):List Addr:=frs X.outer
def Vis (sc:Scope) (x:Str):Prop:=sc.names.lookup x=some .local∨sc.names.lookup x=some .cell∨sc.names.lookup x=some .free
def Loc (sc:Scope) (x:Str):Prop:=sc.names.lookup x=some .local∨sc.names.lookup x=some .cell
def Zrl (env:Env) (h:Heap) (m:Str→Option Value) (x:Str) (u:Value):Prop :=
 (env.kindOf x=some .local∧m x=some u)∨((env.kindOf x=some .cell∨env.kindOf x=some .free)∧∃ c,env.cells.lookup x=some c∧h.IsCell c (some u))
structure Cx.Ok (X:Cx):Prop where
 mod:Mod X.K X.mg X.base
 kind:X.env.scope.kind=.function
 glob:X.env.globals=mainGlobals
 blt:X.env.builtins=builtinsNs
 above:X.s₀.heap.objs.size≤X.env.locals
 inj:∀ x y c,X.env.cells.lookup x=some c→X.env.cells.lookup y=some c→x=y
 has:∀ x,(X.env.kindOf x=some .cell∨X.env.kindOf x=some .free)→∃ c,X.env.cells.lookup x=some c
 cab:∀ x c,X.fn x=true→X.env.cells.lookup x=some c→X.s₀.heap.objs.size≤c
 hd:X.calm=true→X.A.handled=none
 frames:X.A.frames=some X.stack
 stk:X.stack=X.outer∨(X.stack=X.env::X.outer∧X.env.frame=some X.env.locals)
 exf:∀ b∈X.ex,b≠X.env.locals∧∀ x c,X.env.cells.lookup x=some c→c≠b
 bs:∀ b o,X.base.get? b=some o→X.s₀.heap.get? b=some o∧X.H₀ b=none
 bsz:X.base.objs.size≤X.s₀.heap.objs.size
 noex:∀ b o,X.base.get? b=some o→b∉X.ex
 exfs:∀ b∈X.ex,b∉X.fs
 funs:X.s₀.heap.FunFrames X.base X.outer
 frf:∀ b∈X.fs,X.H₀ b=none
structure Inv (X:Cx) (pins:List (Addr×Obj)) (σ:List (Option V)) (H:Hp) (s:Shared):Prop where
 ok:X.Ok
 os:s.os=X.s₀.os
 bare:AllBare s.gens
 base:Un X.fs X.ex X.H₀ H X.s₀.heap s.heap
 loc:∃ m,s.heap.Ns X.env.locals m∧∀ (i:Nat) (x:Str) (v:V),X.N[i]?=some x→σ[i]?=some (some v)→Vis X.env.scope x→∃ u,RelV v u∧Zrl X.env s.heap m x u
 cell:∀ x c,X.env.cells.lookup x=some c→∃ v,s.heap.IsCell c v
 free:H X.env.locals=none
 freeC:∀ x c,X.env.cells.lookup x=some c→H c=none
 pin:∀ p∈X.pn++pins,s.heap.get? p.1=some p.2∧H p.1=none∧p.1≠X.env.locals∧p.1∉X.fs∧∀ v,p.2.data≠.cell v
 hok:HOk X.prog X.w H s.heap
 len:σ.length=X.N.length
section
variable {X:Cx} {pins:List (Addr×Obj)} {σ:List (Option V)} {H H':Hp} {s:Shared} {h':Heap}
theorem Cx.Ok.nofr (ok:X.Ok) {b:Addr} {o:Obj} (e:X.base.get? b=some o):b∉X.fs:=fun hb=>by
 have:=(ok.funs.mem hb).1
 rw [e] at this;cases this
theorem Inv.bs (I:Inv X pins σ H s):∀ b o,X.base.get? b=some o→s.heap.get? b=some o∧H b=none:=fun b o e =>
 ⟨I.base.keep b o (I.ok.bs b o e).1 (I.ok.bs b o e).2 (I.ok.nofr e) (I.ok.noex b o e),I.base.free b o (I.ok.bs b o e).1 (I.ok.bs b o e).2 (I.ok.noex b o e)⟩
theorem Inv.bk (I:Inv X pins σ H s):∀ b o,X.base.get? b=some o→s.heap.get? b=some o:=fun b o e=>(I.bs b o e).1
theorem Inv.mod (I:Inv X pins σ H s):Mod X.K X.mg X.base:=I.ok.mod
theorem Inv.kIn (I:Inv X pins σ H s):X.K.In s.heap:=I.ok.mod.kin.keeps I.bk
theorem Inv.nolimit (I:Inv X pins σ H s):s.heap.NoLimit:=I.ok.mod.nolimit.keeps I.bk
theorem Inv.fr (I:Inv X pins σ H s):∃ m,Fr X.base X.env.locals s.heap m :=
 let ⟨m,hn,_⟩:=I.loc
 ⟨m,hn,I.bk,Nat.le_trans I.ok.bsz I.ok.above⟩
theorem Inv.lt (I:Inv X pins σ H s):X.env.locals<s.heap.objs.size:=let ⟨_,hn,_⟩:=I.loc;hn.lt
theorem Inv.sz (I:Inv X pins σ H s):X.s₀.heap.objs.size≤s.heap.objs.size:=Nat.le_trans I.ok.above (Nat.le_of_lt I.lt)
theorem Inv.nofs (I:Inv X pins σ H s) {a:Addr} (h:s.heap.objs.size≤a):a∉X.fs:=fun hb=>by
 obtain ⟨_,o,ho,_⟩:=I.ok.funs.mem hb
 exact absurd (Nat.lt_of_lt_of_le (Heap.lt_size ho) (Nat.le_trans I.sz h)) (Nat.lt_irrefl _)
theorem Inv.cne (I:Inv X pins σ H s):∀ x c,X.env.cells.lookup x=some c→c≠X.env.locals:=fun x c e z=>by
 obtain ⟨v,o,ho,hd⟩:=I.cell x c e
 obtain ⟨m,⟨o',es,ep,ho',hd',_⟩,_⟩:=I.loc
 rw [z,ho'] at ho;cases ho;rw [hd'] at hd;cases hd
theorem Inv.funs (I:Inv X pins σ H s):s.heap.FunFrames X.base X.outer:=by
 have all:∀ (l:List Env),(∀ b∈frs l,b∈X.fs)→X.s₀.heap.FunFrames X.base l→s.heap.FunFrames X.base l:=by
  intro l
  induction l with
  | nil=>intro _ _;trivial
  | cons env r ih =>
   intro hs hl
   obtain ⟨hk,⟨L,o,hf,hn,ho,hd⟩,hr⟩:=hl
   have hL:L∈X.fs:=hs L (by unfold frs;rw [List.filterMap_cons,hf];exact List.mem_cons_self)
   obtain ⟨sl,e⟩:=I.base.slot L o ho (I.ok.frf L hL) hL fun z=>I.ok.exfs L z hL
   exact ⟨hk,⟨L,_,hf,hn,e,hd⟩,ih (fun b hb=>hs b (by unfold frs;rw [List.filterMap_cons,hf];exact List.mem_cons_of_mem _ hb)) hr⟩
 exact all X.outer (fun _ hb=>hb) I.ok.funs
theorem Inv.stack (I:Inv X pins σ H s):s.heap.FunFrames X.base X.stack:=by
 rcases I.ok.stk with e | ⟨e,hf⟩
 ·rw [e];exact I.funs
 ·rw [e]
  obtain ⟨m,hn,_⟩:=I.loc
  refine .cons (by rw [I.ok.kind];decide) hf hn ?_ I.funs
  exact Heap.get?_none_of_le (Nat.le_trans I.ok.bsz I.ok.above)
theorem Inv.stkSub (I:Inv X pins σ H s):∀ b∈frs X.stack,b∈X.env.locals::X.fs:=fun b hb=>by
 rcases I.ok.stk with e | ⟨e,hf⟩
 ·rw [e] at hb;exact List.mem_cons_of_mem _ hb
 ·rw [e] at hb
  unfold frs at hb
  rw [List.filterMap_cons,hf] at hb
  exact hb
theorem Inv.stkFree (I:Inv X pins σ H s):∀ b∈frs X.stack,H b=none:=fun b hb=>by
 rcases List.mem_cons.mp (I.stkSub b hb) with e | hb
 ·rw [e];exact I.free
 ·obtain ⟨_,o,ho,_⟩:=I.ok.funs.mem hb
  exact I.base.free b o ho (I.ok.frf b hb) fun z=>I.ok.exfs b z hb
theorem Inv.step {g':Array GenState} {t':Nat} {d':Drawn} {ch:List Addr} (I:Inv X pins σ H s)
  (hch:∀ b∈ch,(b∈X.ex∨X.s₀.heap.objs.size≤b)∧b≠X.env.locals∧(∀ x c,X.env.cells.lookup x=some c→c≠b)∧∀ p∈X.pn++pins,p.1≠b)
  (keep:∀ b o,b≠X.env.locals→b∉X.fs→b∉ch→s.heap.get? b=some o→H b=none→h'.get? b=some o)
  (slot:∀ b o,b≠X.env.locals→b∈X.fs→b∉ch→s.heap.get? b=some o→H b=none→∃ sl,h'.get? b=some { o with slots:=sl }) (free:∀ b o,b∉ch→s.heap.get? b=some o→H b=none→H' b=none)
  (there:∀ b o,b∉ch→s.heap.get? b=some o→∃ o',h'.get? b=some o')
  (tups:∀ b xs,H b=some (.tup xs)→H' b=some (.tup xs)) (frzs:∀ b o u,H b=some (.frz o u)→H' b=some (.frz o u)) (tbls:∀ b ps,H b=some (.tbl ps)→∃ more,H' b=some (.tbl (ps++more)))
  (ns:∀ m,s.heap.Ns X.env.locals m→h'.Ns X.env.locals m) (hok:HOk X.prog X.w H' h') (hg:AllBare g') :
  Inv X pins σ H' { s with heap:=h',gens:=g',drawn:=d',toks:=t' }:=by
 have neL:∀ b o,X.s₀.heap.get? b=some o→b≠X.env.locals:=fun b o e=>Nat.ne_of_lt (Nat.lt_of_lt_of_le (Heap.lt_size e) I.ok.above)
 have neC:∀ b o,X.s₀.heap.get? b=some o→b∉X.ex→b∉ch:=fun b o e hx hb=>by
  rcases (hch b hb).1 with z | z
  ·exact hx z
  ·exact absurd (Nat.lt_of_lt_of_le (Heap.lt_size e) z) (Nat.lt_irrefl _)
 have cellK:∀ x c,X.env.cells.lookup x=some c→∀ v,s.heap.IsCell c v→h'.IsCell c v:=fun x c e v ⟨o,ho,hd⟩=>by
  have nch:c∉ch:=fun z=>(hch c z).2.2.1 x c e rfl
  by_cases hc:c∈X.fs
  ·obtain ⟨sl,q⟩:=slot c o (I.cne x c e) hc nch ho (I.freeC x c e)
   exact ⟨_,q,hd⟩
  ·exact ⟨o,keep c o (I.cne x c e) hc nch ho (I.freeC x c e),hd⟩
 refine ⟨I.ok,I.os,hg,⟨fun b o e n hb hx=>?_,fun b o e n hb hx=>?_,fun b o e n hx=>?_,fun b o e hx=>?_,fun b xs e=>tups b xs (I.base.tups b xs e),fun b o xs e=>frzs b o xs (I.base.frzs b o xs e),fun b ps e=>?_⟩,?_,fun x c e=>?_,?_,fun x c e=>?_,fun p hp=>?_,hok,I.len⟩
 ·exact keep b o (neL b o e) hb (neC b o e hx) (I.base.keep b o e n hb hx) (I.base.free b o e n hx)
 ·obtain ⟨sl,e1⟩:=I.base.slot b o e n hb hx
  obtain ⟨sl',e2⟩:=slot b _ (neL b o e) hb (neC b o e hx) e1 (I.base.free b o e n hx)
  exact ⟨sl',e2⟩
 ·obtain ⟨o',e1⟩:=I.base.there b o e hx
  exact free b o' (neC b o e hx) e1 (I.base.free b o e n hx)
 ·obtain ⟨o',e1⟩:=I.base.there b o e hx
  exact there b o' (neC b o e hx) e1
 ·obtain ⟨m1,e1⟩:=I.base.tbls b ps e
  obtain ⟨m2,e2⟩:=tbls b _ e1
  exact ⟨m1++m2,by rw [e2,Array.append_assoc]⟩
 ·obtain ⟨m,hn,hl⟩:=I.loc
  refine ⟨m,ns m hn,fun i x v e1 e2 e3=>?_⟩
  obtain ⟨u,r,l⟩:=hl i x v e1 e2 e3
  refine ⟨u,r,?_⟩
  rcases l with l | ⟨k,c,e,z⟩
  ·exact .inl l
  ·exact .inr ⟨k,c,e,cellK x c e _ z⟩
 ·obtain ⟨v,z⟩:=I.cell x c e
  exact ⟨v,cellK x c e v z⟩
 ·obtain ⟨m,⟨o,_,_,ho,_⟩,_⟩:=I.loc
  exact free _ o (fun z=>(hch _ z).2.1 rfl) ho I.free
 ·obtain ⟨v,o,ho,hd⟩:=I.cell x c e
  exact free c o (fun z=>(hch c z).2.2.1 x c e rfl) ho (I.freeC x c e)
 ·obtain ⟨e,n,ne,nf,d⟩:=I.pin p hp
  have nch:p.1∉ch:=fun z=>(hch p.1 z).2.2.2 p hp rfl
  exact ⟨keep p.1 p.2 ne nf nch e n,free p.1 p.2 nch e n,ne,nf,d⟩
theorem Inv.un {t':Nat} (I:Inv X pins σ H s) (u:Un X.fs [] H H' s.heap h') (hok:HOk X.prog X.w H' h'):Inv X pins σ H' { s with heap:=h',toks:=t' }:=by
 obtain ⟨m,⟨o,es,ep,ho,r⟩,_⟩:=id I.loc
 obtain ⟨sl,hL⟩:=u.any ho I.free (by simp)
 exact I.step (g':=s.gens) (d':=s.drawn) (ch:=[]) (fun _ z=>nomatch z) (fun b o _ hb _ e n=>u.keep b o e n hb (by simp)) (fun b o _ hb _ e n=>u.slot b o e n hb (by simp)) (fun b o _ e n=>u.free b o e n (by simp)) (fun b o _ e=>u.there b o e (by simp)) u.tups u.frzs u.tbls (fun m' hm=>by
  obtain ⟨o',es',ep',ho',r'⟩:=hm
  rw [ho] at ho';cases ho'
  exact ⟨_,es',ep',hL,r'⟩) hok I.bare
theorem Inv.call {g':Array GenState} {t':Nat} {d':Drawn} {ch:List Addr} (I:Inv X pins σ H s) (u:Un (frs X.stack) ch H H' s.heap h') (hok:HOk X.prog X.w H' h') (hg:AllBare g')
  (hch:∀ b∈ch,(b∈X.ex∨X.s₀.heap.objs.size≤b)∧b≠X.env.locals∧(∀ x c,X.env.cells.lookup x=some c→c≠b)∧∀ p∈X.pn++pins,p.1≠b) :
  Inv X pins σ H' { s with heap:=h',gens:=g',drawn:=d',toks:=t' }:=by
 obtain ⟨m,⟨o,es,ep,ho,r⟩,_⟩:=id I.loc
 obtain ⟨sl,hL⟩:=u.any ho I.free fun z=>(hch _ z).2.1 rfl
 exact I.step (ch:=ch) hch (fun b o hL hb hc e n=>u.keep b o e n (fun z=>(List.mem_cons.mp (I.stkSub b z)).elim hL hb) hc) (fun b o _ _ hc e n=>u.any e n hc) (fun b o hc e n=>u.free b o e n hc) (fun b o hc e=>u.there b o e hc) u.tups u.frzs u.tbls (fun m' hm=>by
  obtain ⟨o',es',ep',ho',r'⟩:=hm
  rw [ho] at ho';cases ho'
  exact ⟨_,es',ep',hL,r'⟩) hok hg
theorem Inv.turned {t':Nat} {it:Addr} (I:Inv X pins σ H s) (k:∀ b o,b≠it→s.heap.get? b=some o→h'.get? b=some o) (hn:H it=none) (hL:it≠X.env.locals)
  (h1:it∈X.ex∨X.s₀.heap.objs.size≤it) (h2:∀ x c,X.env.cells.lookup x=some c→c≠it) (h3:∀ p∈X.pn++pins,p.1≠it):Inv X pins σ H { s with heap:=h',toks:=t' }:=by
 have nit:∀ b u,H b=some u→b≠it:=fun b u e z=>by rw [z,hn] at e;cases e
 refine I.step (g':=s.gens) (d':=s.drawn) (ch:=[it]) (fun b hb=>?_) (fun b o _ _ hc e _=>k b o (fun z=>hc (by simp [z])) e) (fun b o _ _ hc e _=>⟨o.slots,k b o (fun z=>hc (by simp [z])) e⟩) (fun _ _ _ _ n=>n)
  (fun b o hc e=>⟨o,k b o (fun z=>hc (by simp [z])) e⟩) (fun _ _ e=>e) (fun _ _ _ e=>e) (fun b ps e=>⟨#[],by rw [e];simp⟩) (fun m hm=>?_) (fun b u e=>?_) I.bare
 ·have e:b=it:=by simpa using hb
  subst e
  exact ⟨h1,hL,h2,h3⟩
 ·obtain ⟨o,es,ep,ho,r⟩:=hm
  exact ⟨o,es,ep,k _ o (Ne.symm hL) ho,r⟩
 ·refine (I.hok b u e).stay (fun c v hc q=>k c v ?_ q) (fun _ q=>q) fun _ _ q=>q
  rcases hc with z | z
  ·rw [z];exact nit b u e
  ·exact nit c _ z
theorem Inv.tok (I:Inv X pins σ H s) (t:Nat):Inv X pins σ H { s with toks:=t }:=I.un (h':=s.heap) (t':=t) Un.refl I.hok
theorem Inv.kept {t':Nat} (I:Inv X pins σ H s) (k:∀ b u,s.heap.get? b=some u→h'.get? b=some u):Inv X pins σ H { s with heap:=h',toks:=t' }:=I.un (Un.kept k) (I.hok.kept k)
theorem Inv.laid {a:Addr} {o:HO} {t':Nat} (I:Inv X pins σ H s) (k:∀ b u,s.heap.get? b=some u→h'.get? b=some u) (hp:s.heap.objs.size≤a) (new:ObjOk X.prog X.w (upd H a o) h' a o) :
  Inv X pins σ (upd H a o) { s with heap:=h',toks:=t' }:=I.un (Un.laid k hp (I.hok.fresh hp)) (I.hok.laid k hp new)
theorem Inv.write {x e:Addr} {o:HO} {t':Nat} (I:Inv X pins σ H s) (mu:Mut (H x)) (he:e=x∨H e=some (.own x)) (k:∀ b u,b≠e→s.heap.get? b=some u→h'.get? b=some u) (heo:∃ u,h'.get? e=some u)
  (new:ObjOk X.prog X.w (upd H x o) h' x o):Inv X pins σ (upd H x o) { s with heap:=h',toks:=t' }:=I.un (Un.write mu he k heo) (I.hok.write mu he k heo new)
theorem Inv.weak {σ':List (Option V)} (I:Inv X pins σ H s) (hl:σ'.length=σ.length) (w:∀ (i:Nat) v,σ'[i]?=some (some v)→σ[i]?=some (some v)):Inv X pins σ' H s :=
 ⟨I.ok,I.os,I.bare,I.base,let ⟨m,hn,hl'⟩:=I.loc;⟨m,hn,fun i x v e1 e2 e3=>hl' i x v e1 (w i v e2) e3⟩,I.cell,I.free,I.freeC,I.pin,I.hok,hl.trans I.len⟩
theorem Inv.pins_of {pins':List (Addr×Obj)} (I:Inv X pins σ H s) (h:∀ p∈pins',s.heap.get? p.1=some p.2∧H p.1=none∧p.1≠X.env.locals∧p.1∉X.fs∧∀ v,p.2.data≠.cell v):Inv X pins' σ H s :=
 ⟨I.ok,I.os,I.bare,I.base,I.loc,I.cell,I.free,I.freeC,fun p hp=>(List.mem_append.mp hp).elim (fun z=>I.pin p (List.mem_append_left _ z)) (h p),I.hok,I.len⟩
theorem ZiZ {N:List Str} (hN:N.Nodup) {i j:Nat} {x:Str} (a:N[i]?=some x) (b:N[j]?=some x):i=j:=by
 obtain ⟨h1,e1⟩:=List.getElem?_eq_some_iff.mp a
 obtain ⟨h2,e2⟩:=List.getElem?_eq_some_iff.mp b
 exact (List.getElem_inj hN).mp (e1.trans e2.symm)
theorem Zid {M:Model} {A:Around} {E:Value→Shared→Prop} {i:Nat} {x:Str} {v:V} {u:Value} {Q:Unit→Shared→Prop} (I:Inv X pins σ H s) (hN:X.N.Nodup) (hi:X.N[i]?=some x) (hx:Loc X.env.scope x) (r:RelV v u)
  (h:∀ s',Inv X pins (σ.set i (some v)) H s'→(∃ a,Heap.SameBut a s.heap s'.heap∧(a=X.env.locals∨X.env.cells.lookup x=some a))→Q () s') (hf:X.fn x=true∨X.env.scope.names.lookup x=some .local:=by first | exact .inl rfl | exact .inr rfl | assumption):wpAny M A (storeName X.env x u) Q E s:=by
 obtain ⟨m,hn,hl⟩:=id I.loc
 have hcls:(X.env.scope.kind==.class||(X.env.scope.kind==.module&&X.env.locals != X.env.globals))=false:=by rw [I.ok.kind];rfl
 have hiσ:i<σ.length:=by rw [I.len];exact (List.getElem?_eq_some_iff.mp hi).1
 have cne:=I.cne
 have tracked:∀ {a:Addr} {h':Heap},(∃ o,s.heap.get? a=some o∧H a=none)→Heap.SameBut a s.heap h'→HOk X.prog X.w H h':=fun {a h'} ha hs b ob e=>by
  obtain ⟨_,_,hfree⟩:=ha
  refine (I.hok b ob e).stay (fun c w' hc q=>(hs.2 c ?_).trans q) (fun _ q=>q) fun _ _ q=>q
  rintro rfl
  rcases hc with rfl | hc
  ·rw [hfree] at e;cases e
  ·rw [hfree] at hc;cases hc
 rcases hx with hk | hk
 ·refine wpAny_storeName_local hk hn (fun h' hn' hs=>?_) hcls
  obtain ⟨oL,_,_,hoL,_⟩:=id hn
  refine h _ ⟨I.ok,I.os,I.bare,⟨fun b o e n hb hx=>?_,fun b o e n hb hx=>?_,I.base.free,fun b o e hx=>?_,I.base.tups,I.base.frzs,I.base.tbls⟩,⟨_,hn',fun j y v' e1 e2 e3=>?_⟩,fun y c e=>?_,I.free,I.freeC,fun p hp=>?_,tracked ⟨oL,hoL,I.free⟩ hs,by simpa using I.len⟩ ⟨_,hs,.inl rfl⟩
  ·exact (hs.2 b (Nat.ne_of_lt (Nat.lt_of_lt_of_le (Heap.lt_size e) I.ok.above))).trans (I.base.keep b o e n hb hx)
  ·obtain ⟨sl,e1⟩:=I.base.slot b o e n hb hx
   exact ⟨sl,(hs.2 b (Nat.ne_of_lt (Nat.lt_of_lt_of_le (Heap.lt_size e) I.ok.above))).trans e1⟩
  ·obtain ⟨o',e1⟩:=I.base.there b o e hx
   exact ⟨o',(hs.2 b (Nat.ne_of_lt (Nat.lt_of_lt_of_le (Heap.lt_size e) I.ok.above))).trans e1⟩
  ·by_cases hj:j=i
   ·subst hj
    rw [hi] at e1;cases e1
    rw [List.getElem?_set_self hiσ] at e2
    cases e2
    exact ⟨u,r,.inl ⟨hk,by simp⟩⟩
   ·rw [List.getElem?_set_ne (Ne.symm hj)] at e2
    obtain ⟨u',r',q⟩:=hl j y v' e1 e2 e3
    refine ⟨u',r',?_⟩
    rcases q with ⟨k,e⟩ | ⟨k,c,e,z⟩
    ·refine .inl ⟨k,?_⟩
     have:y≠x:=fun e=>hj (ZiZ hN e1 (e ▸ hi))
     simp [this,e]
    ·exact .inr ⟨k,c,e,z.sameBut hs (cne y c e)⟩
  ·obtain ⟨w',z⟩:=I.cell y c e
   exact ⟨w',z.sameBut hs (cne y c e)⟩
  ·obtain ⟨e,n,ne,nf,d⟩:=I.pin p hp
   exact ⟨(hs.2 p.1 ne).trans e,n,ne,nf,d⟩
 ·have hfn:X.fn x=true:=by
   rcases hf with z | z
   ·exact z
   ·rw [z] at hk;cases hk
  obtain ⟨c,hc⟩:=I.ok.has x (.inl hk)
  obtain ⟨w',z⟩:=I.cell x c hc
  refine wpAny_storeName_cell I.ok.kind hk hc z (fun h' hc' hs=>?_)
  obtain ⟨oc,hoc,hocd⟩:=id z
  refine h { s with heap:=h' } ⟨I.ok,I.os,I.bare,⟨fun b o e n hb hx=>?_,fun b o e n hb hx=>?_,I.base.free,fun b o e hx=>?_,I.base.tups,I.base.frzs,I.base.tbls⟩,⟨m,hn.sameBut hs (Ne.symm (cne x c hc)),fun j y v' e1 e2 e3=>?_⟩,fun y c' e=>?_,I.free,I.freeC,fun p hp=>?_,tracked ⟨oc,hoc,I.freeC x c hc⟩ hs,by simpa using I.len⟩ ⟨c,hs,.inr hc⟩
  ·exact (hs.2 b (Nat.ne_of_lt (Nat.lt_of_lt_of_le (Heap.lt_size e) (I.ok.cab x c hfn hc)))).trans (I.base.keep b o e n hb hx)
  ·obtain ⟨sl,e1⟩:=I.base.slot b o e n hb hx
   exact ⟨sl,(hs.2 b (Nat.ne_of_lt (Nat.lt_of_lt_of_le (Heap.lt_size e) (I.ok.cab x c hfn hc)))).trans e1⟩
  ·obtain ⟨o',e1⟩:=I.base.there b o e hx
   exact ⟨o',(hs.2 b (Nat.ne_of_lt (Nat.lt_of_lt_of_le (Heap.lt_size e) (I.ok.cab x c hfn hc)))).trans e1⟩
  ·by_cases hj:j=i
   ·subst hj
    rw [hi] at e1;cases e1
    rw [List.getElem?_set_self hiσ] at e2
    cases e2
    exact ⟨u,r,.inr ⟨.inl hk,c,hc,hc'⟩⟩
   ·rw [List.getElem?_set_ne (Ne.symm hj)] at e2
    obtain ⟨u',r',q⟩:=hl j y v' e1 e2 e3
    refine ⟨u',r',?_⟩
    rcases q with q | ⟨k,c',e,z'⟩
    ·exact .inl q
    ·refine .inr ⟨k,c',e,z'.sameBut hs ?_⟩
     rintro rfl
     exact hj (ZiZ hN e1 (I.ok.inj _ _ _ e hc ▸ hi))
  ·by_cases hcc:c'=c
   ·subst hcc;exact ⟨_,hc'⟩
   ·obtain ⟨w2,z2⟩:=I.cell y c' e
    exact ⟨w2,z2.sameBut hs hcc⟩
  ·obtain ⟨e,n,ne,nf,d⟩:=I.pin p hp
   refine ⟨(hs.2 p.1 ?_).trans e,n,ne,nf,d⟩
   intro q
   rw [q,hoc] at e
   have q':oc=p.2:=Option.some.inj e
   exact d w' (by rw [← q'];exact hocd)
theorem Zg6 {M:Model} {A:Around} {E:Value→Shared→Prop} {i:Nat} {x:Str} {v:V} {u:Value} {Q:Unit→Shared→Prop} (I:Inv X pins σ H s) (hN:X.N.Nodup) (hi:X.N[i]?=some x) (hx:Loc X.env.scope x) (r:RelV v u)
  (h:∀ s',Inv X pins (σ.set i (some v)) H s'→Q () s') (hf:X.fn x=true∨X.env.scope.names.lookup x=some .local:=by first | exact .inl rfl | exact .inr rfl | assumption):wpAny M A (storeName X.env x u) Q E s :=
 Zid I hN hi hx r (fun s' I' _=>h s' I') hf
theorem Inv.call' {s':Shared} {ch:List Addr} (I:Inv X pins σ H s) (ho:s'.os=s.os) (u:Un (frs X.stack) ch H H' s.heap s'.heap) (hok:HOk X.prog X.w H' s'.heap) (hg:AllBare s'.gens)
  (hch:∀ b∈ch,(b∈X.ex∨X.s₀.heap.objs.size≤b)∧b≠X.env.locals∧(∀ x c,X.env.cells.lookup x=some c→c≠b)∧∀ p∈X.pn++pins,p.1≠b):Inv X pins σ H' s':=by
 obtain ⟨h',g',d',t',o'⟩:=s'
 have e:o'=s.os:=ho
 subst e
 exact I.call (g':=g') (t':=t') (d':=d') u hok hg hch
end
abbrev XK:=Value→Option Addr→Hp→Prop
abbrev St:=List (Option V)
abbrev VK:=V→Hp→Prop
abbrev TE:=St→Hp→VK→Prop
abbrev TT:=St→Hp→(Bool→Hp→Prop)→Prop
abbrev TA:=St→Hp→(List V→Hp→Prop)→Prop
structure Ze4 where
 nx:St→Hp→Prop
 rt:VK
 bk:St→Hp→Prop:=fun _ _=>False
 ct:St→Hp→Prop:=fun _ _=>False
abbrev TS:=Ze4→St→Hp→Prop
def EP (X:Cx) (pins:List (Addr×Obj)) (σ:St) (Q:VK) (u:Value) (s':Shared):Prop:=∃ v H',Inv X pins σ H' s'∧RelV v u∧Q v H'
def TP (X:Cx) (pins:List (Addr×Obj)) (σ:St) (Q:Bool→Hp→Prop) (b:Bool) (s':Shared):Prop:=∃ H',Inv X pins σ H' s'∧Q b H'
def AP (X:Cx) (pins:List (Addr×Obj)) (σ:St) (Q:List V→Hp→Prop) (us:List Value) (s':Shared):Prop:=∃ vs H',Inv X pins σ H' s'∧Vals vs us∧Q vs H'
def SP (X:Cx) (pins:List (Addr×Obj)) (D:Ze4) (f:Flow) (s':Shared):Prop :=
 match f with
 | .next=>∃ σ' H',Inv X pins σ' H' s'∧D.nx σ' H'
 | .brk=>∃ σ' H',Inv X pins σ' H' s'∧D.bk σ' H'
 | .cont=>∃ σ' H',Inv X pins σ' H' s'∧D.ct σ' H'
 | .ret u=>∃ v σ' H',Inv X pins σ' H' s'∧RelV v u∧D.rt v H'
def PE (X:Cx) (e:Expr) (t:TE):Prop :=
 ∀ (pins:List (Addr×Obj)) (s:Shared) (σ:St) (H:Hp) (Q:VK),Inv X pins σ H s→t σ H Q→wpAny (model X.prog X.w) X.A (eval e X.env) (EP X pins σ Q) X.xe s
def PT (X:Cx) (e:Expr) (t:TT):Prop :=
 ∀ (pins:List (Addr×Obj)) (s:Shared) (σ:St) (H:Hp) (Q:Bool→Hp→Prop),Inv X pins σ H s→t σ H Q→wpAny (model X.prog X.w) X.A (isTrue e X.env (eval e X.env)) (TP X pins σ Q) X.xe s
def PW (X:Cx) (e:Expr) (t:TT):Prop :=
 ∀ (whole:Sem Value) (pins:List (Addr×Obj)) (s:Shared) (σ:St) (H:Hp) (Q:Bool→Hp→Prop),Inv X pins σ H s→t σ H Q→wpAny (model X.prog X.w) X.A (isTrue e X.env whole) (TP X pins σ Q) X.xe s
theorem PW.pt {X:Cx} {e:Expr} {t:TT} (h:PW X e t):PT X e t:=h _
def PA (X:Cx) (es:List Expr) (t:TA):Prop :=
 ∀ (pos:Pos) (pins:List (Addr×Obj)) (s:Shared) (σ:St) (H:Hp) (Q:List V→Hp→Prop),Inv X pins σ H s→t σ H Q→wpAny (model X.prog X.w) X.A (spliced (backTo pos (starEach es X.env))) (AP X pins σ Q) X.xe s
def PS (X:Cx) (st:Stmt) (t:TS):Prop :=
 ∀ (pins:List (Addr×Obj)) (s:Shared) (σ:St) (H:Hp) (D:Ze4),Inv X pins σ H s→t D σ H→wpAny (model X.prog X.w) X.A (exec st X.env) (SP X pins D) X.xe s
def PSs (X:Cx) (st:List Stmt) (t:TS):Prop :=
 ∀ (pins:List (Addr×Obj)) (s:Shared) (σ:St) (H:Hp) (D:Ze4),Inv X pins σ H s→t D σ H→wpAny (model X.prog X.w) X.A (execs st X.env) (SP X pins D) X.xe s
theorem thn {α:Type} {t:Sem α} {Q Q':α→Shared→Prop} {M:Model} {A:Around} {E:Value→Shared→Prop} {s:Shared} (h:wpAny M A t Q E s) (hQ:∀ a s,Q a s→Q' a s):wpAny M A t Q' E s:=wpAny_mono h hQ fun _ _ x=>x
end L2
namespace L2
open PySem PySem.Spec PyProof.Rows
section
variable {X:Cx}
theorem bin {a b:Expr} {ta tb:TE} (ha:PE X a ta) (hb:PE X b tb) {pins:List (Addr×Obj)} {s:Shared} {σ:St} {H:Hp} {R:V→V→Hp→Prop} (I:Inv X pins σ H s) (h:ta σ H fun x H1=>tb σ H1 fun y H2=>R x y H2)
  {α:Type} {Q:α→Shared→Prop} {f:Value→Value→Sem α}
  (hf:∀ v u s2 x y H2,Inv X pins σ H2 s2→RelV x v→RelV y u→R x y H2→wpAny (model X.prog X.w) X.A (f v u) Q X.xe s2) :
  wpAny (model X.prog X.w) X.A (eval a X.env) (fun v s₁=>wpAny (model X.prog X.w) X.A (eval b X.env) (fun u s₂=>wpAny (model X.prog X.w) X.A (f v u) Q X.xe s₂) X.xe s₁) X.xe s:=by
 refine thn (ha pins s σ H _ I h) fun v s1 ⟨x,H1,I1,r1,q1⟩=>?_
 refine thn (hb pins s1 σ H1 _ I1 q1) fun u s2 ⟨y,H2,I2,r2,q2⟩=>?_
 exact hf v u s2 x y H2 I2 r1 r2 q2
def Zq2 (i:Nat):TE:=fun σ H Q=>∃ v,σ[i]?=some (some v)∧Q v H
def tC (v:V):TE:=fun _ H Q=>Q v H
theorem Zfa {i:Nat} {x:Str} {pos:Pos} (hN:X.N[i]?=some x) (hv:Vis X.env.scope x) (hd:(x==("__debug__":Str))=false:=by decide) (hcd:(x==("__classdict__":Str))=false:=by decide):PE X (.Name x pos) (Zq2 i):=by
 intro pins s σ H Q I h
 obtain ⟨v,e,h⟩:=h
 obtain ⟨m,hn,hl⟩:=I.loc
 obtain ⟨u,r,l⟩:=hl i x v hN e hv
 have fin:EP X pins σ Q u s:=⟨v,H,I,r,h⟩
 rcases l with ⟨hk,hm⟩ | ⟨hk,c,hc,hcell⟩
 ·exact wpAny_Name (wpAny_loadName_local I.ok.kind hk hn hm fin) hd
 ·rcases hk with hk | hk
  ·exact wpAny_Name (wpAny_loadName_cell I.ok.kind hk hc hcell fin) hd
  ·exact wpAny_Name (wpAny_loadName_free I.ok.kind hk hc hcell fin hcd) hd
theorem ZpP {i j pos}:PE X (.Constant (.int i) j pos) (tC (.int i)):=fun _ _ _ H _ I h=>wpAny_Constant_int ⟨.int i,H,I.tok _,⟨_,rfl⟩,h⟩
theorem ZqI {b j pos}:PE X (.Constant (.bool b) j pos) (tC (.bl b)):=fun _ _ _ H _ I h=>Constant_bool ⟨.bl b,H,I,rfl,h⟩
theorem Zps {j pos}:PE X (.Constant .none j pos) (tC .non):=fun _ _ _ H _ I h=>Constant_none ⟨.non,H,I,rfl,h⟩
theorem Zop {x j pos}:PE X (.Constant (.str x) j pos) (tC (.str x)):=fun _ _ _ H _ I h=>Calls.Constant_str ⟨.str x,H,I.tok _,⟨_,rfl⟩,h⟩
def Gl (X:Cx) (x:Str):Prop:=X.env.kindOf x=some .globalImplicit
theorem Zfh {E:Value→Shared→Prop} {pins:List (Addr×Obj)} {s:Shared} {σ:St} {H:Hp} {x:Str} {u:Value} {pos:Pos} {Q:Value→Shared→Prop} (I:Inv X pins σ H s) (hg:Gl X x) (hm:X.mg x=some u) (h:Q u s)
  (hd:(x==("__debug__":Str))=false:=by decide):wpAny (model X.prog X.w) X.A (eval (.Name x pos) X.env) Q E s :=
 Calls.Name_function_global I.ok.kind hg (Calls.loadGlobal_global (by rw [I.ok.glob];exact I.mod.glob.keeps I.bk) hm h) hd
theorem Ze7 {E:Value→Shared→Prop} {pins:List (Addr×Obj)} {s:Shared} {σ:St} {H:Hp} {x:Str} {u:Value} {pos:Pos} {Q:Value→Shared→Prop} (I:Inv X pins σ H s) (hg:Gl X x) (hm:X.mg x=none) (hv:bootBuiltins x=some u) (h:Q u s)
  (hn:x≠"__name__":=by decide) (hd:(x==("__debug__":Str))=false:=by decide):wpAny (model X.prog X.w) X.A (eval (.Name x pos) X.env) Q E s:=by
 obtain ⟨mb,h1,h2⟩:=I.mod.blt
 exact Calls.Name_function_global I.ok.kind hg (Calls.loadGlobal_builtin (by rw [I.ok.glob];exact I.mod.glob.keeps I.bk) hm (by rw [I.ok.blt];exact h1.keeps I.bk) ((h2 x hn).trans hv) h) hd
theorem ZcF {x:Str} {v:V} {u:Value} {pos:Pos} (hg:Gl X x) (hm:X.mg x=some u) (r:RelV v u) (hd:(x==("__debug__":Str))=false:=by decide):PE X (.Name x pos) (tC v) :=
 fun _ _ _ H _ I h=>Zfh I hg hm ⟨v,H,I,r,h⟩ hd
theorem Zkc {x:Str} {v:V} {u:Value} {pos:Pos} (hg:Gl X x) (hm:X.mg x=none) (hv:bootBuiltins x=some u) (r:RelV v u) (hn:x≠"__name__":=by decide) (hd:(x==("__debug__":Str))=false:=by decide):PE X (.Name x pos) (tC v) :=
 fun _ _ _ H _ I h=>Ze7 I hg hm hv ⟨v,H,I,r,h⟩ hn hd
variable {a b:Expr} {ta tb:TE} {pos:Pos}
def PC (X:Cx) (op:CmpOp) (a b:Expr) (t:TE):Prop :=
 ∀ (pins:List (Addr×Obj)) (s:Shared) (σ:St) (H:Hp) (Q:VK),Inv X pins σ H s→t σ H Q →
  wpAny (model X.prog X.w) X.A (eval a X.env) (fun v s₁=>wpAny (model X.prog X.w) X.A (eval b X.env) (fun u s₂=>wpAny (model X.prog X.w) X.A (compareOp op v u) (EP X pins σ Q) X.xe s₂) X.xe s₁) X.xe s
theorem ZdE (b:Expr) {op:CmpOp} (h:op≠.In) (h2:op≠.NotIn):behindInMarks op b=false:=by
 have e1:(op==CmpOp.In)=false:=by cases op<;>first | rfl | exact absurd rfl h
 have e2:(op==CmpOp.NotIn)=false:=by cases op<;>first | rfl | exact absurd rfl h2
 cases b<;>simp [behindInMarks,e1,e2]
def ZqR (ta:TE):TE:=fun σ H Q=>ta σ H fun x H1=>Q (.bl (decide (x=.non))) H1
theorem RelV.none_iff {x:V} {v:Value} (r:RelV x v):(v==Value.none)=decide (x=.non):=by
 cases x with
 | non=>cases r;rfl
 | bl _=>cases r;rfl
 | int _=>obtain ⟨t,rfl⟩:=r;rfl
 | str _=>obtain ⟨t,rfl⟩:=r;rfl
 | byt _=>obtain ⟨t,rfl⟩:=r;rfl
 | flt _=>obtain ⟨t,rfl⟩:=r;rfl
 | ref _=>cases r;rfl
 | ty _=>cases r;rfl
theorem ZoM {j pos'} (ha:PE X a ta):PC X .Is a (.Constant .none j pos') (ZqR ta):=by
 intro pins s σ H Q I h
 refine thn (ha pins s σ H _ I h) fun v s1 ⟨x,H1,I1,r1,q1⟩=>?_
 exact Constant_none (is_none_gen ⟨.bl _,H1,I1,by rw [r1.none_iff];rfl,q1⟩)
def tB (t:TE):TT:=fun σ H Q=>t σ H fun x H1=>∃ c,x=.bl c∧Q c H1
theorem Zor {op:CmpOp} {t:TE} (h:PC X op a b t) (h1:behindInMarks op b=false:=by first | exact ZdE _ (by decide) (by decide) | rfl):PT X (.Compare a [op] [b] pos) (tB t):=by
 intro pins s σ H Q I hw
 refine wpAny_isTrue_Compare1 (thn (h pins s σ H _ I hw) fun v s1 h1=>thn h1 fun u s2 h2=>thn h2 fun c s3 ⟨x,H1,I1,r1,q1⟩=>?_) h1
 obtain ⟨d,rfl,q⟩:=q1
 cases r1
 exact wpAny_truthy_bool ⟨H1,I1,q⟩
variable {tA tB':TT} {ZV:List Expr}
def Zp3 (t u:TT):TT:=fun σ H Q=>t σ H fun c H1=>if c=true then u σ H1 Q else Q false H1
def tOr (t u:TT):TT:=fun σ H Q=>t σ H fun c H1=>if c=true then Q true H1 else u σ H1 Q
def Zrg (t:TT):TT:=fun σ H Q=>t σ H fun c H1=>Q (!c) H1
theorem Zn4 (ha:PT X a tA):PW X (.BoolOp .And [a] pos) tA:=by
 intro wh pins s σ H Q I h
 refine isTrue_and (thn (ha pins s σ H Q I h) fun c s1 e=>?_)
 cases c with
 | true=>exact isTrue_and_nil e
 | false=>exact e
theorem ZoV (ha:PT X a tA):PW X (.BoolOp .Or [a] pos) tA:=by
 intro wh pins s σ H Q I h
 refine isTrue_or (thn (ha pins s σ H Q I h) fun c s1 e=>?_)
 cases c with
 | false=>exact isTrue_or_nil e
 | true=>exact e
theorem Zpc (ha:PT X a tA) (hb:PW X (.BoolOp .And (b::ZV) pos) tB'):PW X (.BoolOp .And (a::b::ZV) pos) (Zp3 tA tB'):=by
 intro wh pins s σ H Q I h
 refine isTrue_and (thn (ha pins s σ H _ I h) fun c s1 ⟨H1,I1,q1⟩=>?_)
 cases c with
 | true=>exact hb wh pins s1 σ H1 Q I1 q1
 | false=>exact ⟨H1,I1,q1⟩
theorem Zqg (ha:PT X a tA) (hb:PW X (.BoolOp .Or (b::ZV) pos) tB'):PW X (.BoolOp .Or (a::b::ZV) pos) (tOr tA tB'):=by
 intro wh pins s σ H Q I h
 refine isTrue_or (thn (ha pins s σ H _ I h) fun c s1 ⟨H1,I1,q1⟩=>?_)
 cases c with
 | true=>exact ⟨H1,I1,q1⟩
 | false=>exact hb wh pins s1 σ H1 Q I1 q1
theorem Zpf (ha:PT X a tA):PT X (.UnaryOp .Not a pos) (Zrg tA):=by
 intro pins s σ H Q I h
 exact isTrue_not (ha pins s σ H (fun c H1=>Q (!c) H1) I h)
def ZqH (ta tb:TE):TE:=fun σ H Q=>ta σ H fun x H1=>∃ c,x=.bl c∧if c=true then tb σ H1 Q else Q (.bl false) H1
def Zrc (ta tb:TE):TE:=fun σ H Q=>ta σ H fun x H1=>∃ c,x=.bl c∧if c=true then Q (.bl true) H1 else tb σ H1 Q
def Zqb (ta:TE):TE:=fun σ H Q=>ta σ H fun x H1=>∃ c,x=.bl c∧Q (.bl (!c)) H1
theorem ZoY {op} {t:TE} (h:PE X a t):PE X (.BoolOp op [a] pos) t:=fun pins s σ H Q I hw=>BoolOp_one (h pins s σ H Q I hw)
theorem Zo8 (ha:PE X a ta) (hb:PE X (.BoolOp .And (b::ZV) pos) tb):PE X (.BoolOp .And (a::b::ZV) pos) (ZqH ta tb):=by
 intro pins s σ H Q I h
 refine BoolOp_and (thn (ha pins s σ H _ I h) fun v s1 ⟨x,H1,I1,r1,q1⟩=>?_)
 obtain ⟨c,rfl,q1⟩:=q1
 cases r1
 refine wpAny_truthy_bool ?_
 cases c with
 | true=>exact hb pins s1 σ H1 Q I1 q1
 | false=>exact ⟨.bl false,H1,I1,rfl,q1⟩
theorem Zqj (ha:PE X a ta) (hb:PE X (.BoolOp .Or (b::ZV) pos) tb):PE X (.BoolOp .Or (a::b::ZV) pos) (Zrc ta tb):=by
 intro pins s σ H Q I h
 refine BoolOp_or (thn (ha pins s σ H _ I h) fun v s1 ⟨x,H1,I1,r1,q1⟩=>?_)
 obtain ⟨c,rfl,q1⟩:=q1
 cases r1
 refine wpAny_truthy_bool ?_
 cases c with
 | false=>exact hb pins s1 σ H1 Q I1 q1
 | true=>exact ⟨.bl true,H1,I1,rfl,q1⟩
theorem Zpo (ha:PE X a ta):PE X (.UnaryOp .Not a pos) (Zqb ta):=by
 intro pins s σ H Q I h
 refine UnaryOp_ (thn (ha pins s σ H _ I h) fun v s1 ⟨x,H1,I1,r1,q1⟩=>?_)
 obtain ⟨c,rfl,q1⟩:=q1
 cases r1
 exact not_of (wpAny_truthy_bool ⟨.bl (!c),H1,I1,rfl,q1⟩)
def tIf (t:TT) (ta tb:TE):TE:=fun σ H Q=>t σ H fun c H1=>if c=true then ta σ H1 Q else tb σ H1 Q
theorem ZmY {c:Expr} (hc:PT X c tA) (ha:PE X a ta) (hb:PE X b tb):PE X (.IfExp c a b pos) (tIf tA ta tb):=by
 intro pins s σ H Q I h
 refine wpAny_IfExp (thn (hc pins s σ H _ I h) fun d s1 ⟨H1,I1,q1⟩=>?_)
 cases d with
 | true=>exact ha pins s1 σ H1 Q I1 q1
 | false=>exact hb pins s1 σ H1 Q I1 q1
end
end L2
namespace L2
open PySem PySem.Spec PyProof.Rows
def SqL (K:PySem.W.Frag) (H:Hp) (a:Addr) (xs:List V):Prop :=
 Rd H a (.lst xs) ∨
  ∃ (o:Obj) (its:Array Value) (n:Nat),K.lookup a=some o∧o.cls=.type "list"∧o.dict=none∧o.data=.seq its n∧its.size≤sizeLine∧Vals xs its.toList
def SqT (K:PySem.W.Frag) (H:Hp) (a:Addr) (xs:List V):Prop :=
 Rd H a (.tup xs) ∨
  ∃ (o:Obj) (its:Array Value) (n:Nat),K.lookup a=some o∧o.cls=.type "tuple"∧o.data=.seq its n∧its.size≤sizeLine∧Vals xs its.toList
def Zq5:Value→Option V
 | .none=>some .non
 | .bool b=>some (.bl b)
 | .int i _=>some (.int i)
 | .str x _=>some (.str x)
 | .bytes b _=>some (.byt b)
 | .float b _=>some (.flt b)
 | .ref a=>some (.ref a)
 | .type n=>some (.ty n)
 | _=>none
theorem RelV.abs {x:V} {u:Value} (r:RelV x u):Zq5 u=some x:=by
 cases x with
 | non=>cases r;rfl
 | bl _=>cases r;rfl
 | int _=>obtain ⟨t,rfl⟩:=r;rfl
 | str _=>obtain ⟨t,rfl⟩:=r;rfl
 | byt _=>obtain ⟨t,rfl⟩:=r;rfl
 | flt _=>obtain ⟨t,rfl⟩:=r;rfl
 | ref _=>cases r;rfl
 | ty _=>cases r;rfl
theorem RelV.inj {x y:V} {u:Value} (r:RelV x u) (q:RelV y u):x=y:=Option.some.inj (r.abs.symm.trans q.abs)
theorem Vals.inj:∀ {xs ys:List V} {us:List Value},Vals xs us→Vals ys us→xs=ys
 | _,_,_,.nil,.nil=>rfl
 | _,_,_,.cons r t,.cons r' t'=>by rw [r.inj r',Vals.inj t t']
section
variable {X:Cx} {pins:List (Addr×Obj)} {σ:St} {H:Hp} {s:Shared} {a:Addr} {xs ys:List V}
theorem SqL.of {K:PySem.W.Frag} (h:H a=some (.lst xs)):SqL K H a xs:=.inl (.inl h)
theorem SqT.of {K:PySem.W.Frag} (h:H a=some (.tup xs)):SqT K H a xs:=.inl (.inl h)
theorem Inv.list (I:Inv X pins σ H s) (h:SqL X.K H a xs):∃ its:List Value,Vals xs its∧PlainL s.heap a its.toArray∧xs.length≤sizeLine:=by
 rcases h with h | ⟨o,its,n,hk,hc,hd,hs,hz,r⟩
 ·obtain ⟨z,its,n,r,e⟩:=h.ok I.hok
  exact ⟨its,r,⟨_,n,e,rfl,rfl,rfl⟩,z⟩
 ·refine ⟨its.toList,r,⟨o,n,I.kIn a o hk,hc,hd,by simpa using hs⟩,?_⟩
  have e:=r.length
  simp only [Array.length_toList] at e
  omega
theorem Inv.tuple (I:Inv X pins σ H s) (h:SqT X.K H a xs):∃ its:List Value,Vals xs its∧IsTup s.heap a its.toArray∧xs.length≤sizeLine:=by
 rcases h with h | ⟨o,its,n,hk,hc,hs,hz,r⟩
 ·obtain ⟨z,its,r,p⟩:=h.ok I.hok
  exact ⟨its,r,p,z⟩
 ·refine ⟨its.toList,r,⟨o,I.kIn a o hk,hc,n,by simpa using hs⟩,?_⟩
  have e:=r.length
  simp only [Array.length_toList] at e
  omega
theorem Inv.list_inj (I:Inv X pins σ H s) (h:SqL X.K H a xs) (h':SqL X.K H a ys):xs=ys:=by
 obtain ⟨its,r,⟨o,n,e,_,_,d⟩,_⟩:=I.list h
 obtain ⟨its',r',⟨o',n',e',_,_,d'⟩,_⟩:=I.list h'
 rw [e] at e';cases e'
 rw [d] at d'
 injection d' with d1 _
 have:its=its':=by simpa using congrArg Array.toList d1
 subst this
 exact r.inj r'
theorem Inv.tuple_inj (I:Inv X pins σ H s) (h:SqT X.K H a xs) (h':SqT X.K H a ys):xs=ys:=by
 obtain ⟨its,r,⟨o,e,_,n,d⟩,_⟩:=I.tuple h
 obtain ⟨its',r',⟨o',e',_,n',d'⟩,_⟩:=I.tuple h'
 rw [e] at e';cases e'
 rw [d] at d'
 injection d' with d1 _
 have:its=its':=by simpa using congrArg Array.toList d1
 subst this
 exact r.inj r'
end
abbrev Cx.wish (X:Cx) (E:Value→Shared→Prop):Cx:={ X with xe:=E }
abbrev Cx.nox (X:Cx):Cx:=X.wish fun _ _=>False
theorem Cx.Ok.wish {X:Cx} (ok:X.Ok) (E:Value→Shared→Prop):(X.wish E).Ok :=
 ⟨ok.mod,ok.kind,ok.glob,ok.blt,ok.above,ok.inj,ok.has,ok.cab,ok.hd,ok.frames,ok.stk,ok.exf,ok.bs,ok.bsz,ok.noex,ok.exfs,ok.funs,ok.frf⟩
theorem Cx.Ok.unwish {X:Cx} {E:Value→Shared→Prop} (ok:(X.wish E).Ok):X.Ok :=
 ⟨ok.mod,ok.kind,ok.glob,ok.blt,ok.above,ok.inj,ok.has,ok.cab,ok.hd,ok.frames,ok.stk,ok.exf,ok.bs,ok.bsz,ok.noex,ok.exfs,ok.funs,ok.frf⟩
section
variable {X:Cx} {pins:List (Addr×Obj)} {σ:St} {H:Hp} {s:Shared} {E:Value→Shared→Prop}
theorem Inv.wish (I:Inv X pins σ H s) (E:Value→Shared→Prop):Inv (X.wish E) pins σ H s:=⟨I.ok.wish E,I.os,I.bare,I.base,I.loc,I.cell,I.free,I.freeC,I.pin,I.hok,I.len⟩
theorem Inv.unwish (I:Inv (X.wish E) pins σ H s):Inv X pins σ H s:=⟨I.ok.unwish,I.os,I.bare,I.base,I.loc,I.cell,I.free,I.freeC,I.pin,I.hok,I.len⟩
theorem SP.unwish {D:Ze4} {f:Flow} {s':Shared} (h:SP (X.wish E) pins D f s'):SP X pins D f s':=by
 cases f with
 | next=>obtain ⟨σ',H',I,q⟩:=h;exact ⟨σ',H',I.unwish,q⟩
 | brk=>obtain ⟨σ',H',I,q⟩:=h;exact ⟨σ',H',I.unwish,q⟩
 | cont=>obtain ⟨σ',H',I,q⟩:=h;exact ⟨σ',H',I.unwish,q⟩
 | ret u=>obtain ⟨v,σ',H',I,r,q⟩:=h;exact ⟨v,σ',H',I.unwish,r,q⟩
theorem PE.nox {e:Expr} {t:TE} (h:PE X.nox e t):PE X e t:=fun pins s σ H Q I hw =>
 wpAny_mono (h pins s σ H Q (I.wish _) hw) (fun _ _ ⟨v,H',I',r,q⟩=>⟨v,H',I'.unwish,r,q⟩) fun _ _ z=>False.elim z
theorem PT.nox {e:Expr} {t:TT} (h:PT X.nox e t):PT X e t:=fun pins s σ H Q I hw =>
 wpAny_mono (h pins s σ H Q (I.wish _) hw) (fun _ _ ⟨H',I',q⟩=>⟨H',I'.unwish,q⟩) fun _ _ z=>False.elim z
theorem PSs.nox {st:List Stmt} {t:TS} (h:PSs X.nox st t):PSs X st t:=fun pins s σ H D I hw =>
 wpAny_mono (h pins s σ H D (I.wish _) hw) (fun _ _ q=>q.unwish) fun _ _ z=>False.elim z
end
section
variable {X:Cx} {st:Stmt} {ZV:List Stmt} {t u:TS} {e:Expr} {te:TE} {pos:Pos}
def Zp8:TS:=fun D σ H=>D.nx σ H
def Zrf (t u:TS):TS:=fun D σ H=>t { D with nx:=u D } σ H
theorem pss_nil:PSs X [] Zp8:=fun _ _ σ H _ I h=>wpAny_execs_nil ⟨σ,H,I,h⟩
theorem Zmt (h1:PS X st t) (h2:PSs X ZV u):PSs X (st::ZV) (Zrf t u):=by
 intro pins s σ H D I h
 refine wpAny_execs_cons (thn (h1 pins s σ H { D with nx:=u D } I h) fun f s1 q=>?_)
 cases f with
 | next =>
  obtain ⟨σ',H',I',q⟩:=q
  exact h2 pins s1 σ' H' D I' q
 | ret v=>exact q
 | brk=>exact q
 | cont=>exact q
theorem Inv.quiet {pins:List (Addr×Obj)} {σ:St} {H:Hp} {s:Shared} (I:Inv X pins σ H s):interactive X.env=false:=by simp [interactive,I.ok.kind]
def Zqo (te:TE):TS:=fun D σ H=>te σ H fun _ H1=>D.nx σ H1
theorem Zkd (he:PE X e te) (hs:swapsWith e none pos.line X.env=pure false:=by rfl):PS X (.Expr e pos) (Zqo te):=by
 intro pins s σ H D I h
 exact wpAny_Expr_any (thn (he pins s σ H _ I h) fun v s1 ⟨x,H1,I1,r1,q1⟩=>⟨σ,H1,I1,q1⟩) I.quiet hs
def Zrh (te:TE):TS:=fun D σ H=>te σ H D.rt
theorem Zpu (he:PE X e te):PS X (.Return (some e) pos) (Zrh te):=by
 intro pins s σ H D I h
 exact wpAny_Return_some (thn (he pins s σ H _ I h) fun v s1 ⟨x,H1,I1,r1,q1⟩=>⟨x,σ,H1,I1,r1,q1⟩)
def Zrn (c:TT) (t u:TS):TS:=fun D σ H=>c σ H fun b H1=>if b=true then t D σ H1 else u D σ H1
theorem ZqD {c:Expr} {a b:List Stmt} {tc:TT} (hc:PT X c tc) (ha:PSs X a t) (hb:PSs X b u):PS X (.If c a b pos) (Zrn tc t u):=by
 intro pins s σ H D I h
 refine wpAny_If (thn (hc pins s σ H _ I h) fun d s1 ⟨H1,I1,q1⟩=>?_)
 cases d with
 | true=>exact ha pins s1 σ H1 D I1 q1
 | false=>exact hb pins s1 σ H1 D I1 q1
end
abbrev TG:=V→St→Hp→(St→Hp→Prop)→Prop
abbrev TGs:=List V→St→Hp→(St→Hp→Prop)→Prop
def PG (X:Cx) (target:Expr) (t:TG):Prop :=
 ∀ (pins:List (Addr×Obj)) (s:Shared) (σ:St) (H:Hp) (v:V) (u:Value) (Q:St→Hp→Prop),Inv X pins σ H s→RelV v u→t v σ H Q →
  wpAny (model X.prog X.w) X.A (assign target X.env u) (fun _ s'=>∃ σ' H',Inv X pins σ' H' s'∧Q σ' H') X.xe s
def PGs (X:Cx) (ts:List Expr) (t:TGs):Prop :=
 ∀ (pins:List (Addr×Obj)) (s:Shared) (σ:St) (H:Hp) (vs:List V) (us:List Value) (Q:St→Hp→Prop),Inv X pins σ H s→Vals vs us→t vs σ H Q →
  wpAny (model X.prog X.w) X.A (assignInOrder ((assignEach ts X.env).map (·.2)) us) (fun _ s'=>∃ σ' H',Inv X pins σ' H' s'∧Q σ' H') X.xe s
section
variable {X:Cx} {pos:Pos}
def Zgy (i:Nat):TG:=fun v σ H Q=>Q (σ.set i (some v)) H
theorem Zob {i:Nat} {x:Str} (hN:X.N.Nodup) (hi:X.N[i]?=some x) (hx:Loc X.env.scope x) (hf:X.fn x=true∨X.env.scope.names.lookup x=some .local:=by first | exact .inl rfl | exact .inr rfl | assumption):PG X (.Name x pos) (Zgy i):=by
 intro pins s σ H v u Q I r h
 exact wpAny_assign_Name (Zg6 I hN hi hx r (fun s' I'=>⟨_,H,I',h⟩) hf)
def Zrp:TGs:=fun vs σ H Q=>vs=[]∧Q σ H
def Zqe (t:TG) (u:TGs):TGs:=fun vs σ H Q=>∃ v r,vs=v::r∧t v σ H fun σ' H'=>u r σ' H' Q
theorem Zny:PGs X [] Zrp:=by
 intro pins s σ H vs us Q I r h
 obtain ⟨e,h⟩:=h
 subst e
 cases r
 exact assignInOrder_nil ⟨σ,H,I,h⟩
theorem Zmh {e:Expr} {es:List Expr} {t:TG} {u:TGs} (h1:PG X e t) (h2:PGs X es u)
  (hs:(assignEach (e::es) X.env).map (·.2)=assign e X.env::(assignEach es X.env).map (·.2):=by rfl):PGs X (e::es) (Zqe t u):=by
 intro pins s σ H vs us Q I r h
 obtain ⟨v,vr,e1,h⟩:=h
 subst e1
 cases r with
 | cons r rr =>
  rw [hs]
  refine assignInOrder_cons (thn (h1 pins s σ H _ _ _ I r h) fun _ s1 ⟨σ1,H1,I1,q1⟩=>?_)
  exact h2 pins s1 σ1 H1 _ _ Q I1 rr q1
def Zq9 (K:PySem.W.Frag) (n:Nat) (t:TGs):TG:=fun v σ H Q=>∃ a xs,v=.ref a∧SqT K H a xs∧xs.length=n∧t xs σ H Q
theorem ZoH {es:List Expr} {k:Nat} {t:TGs} {n:Nat} (hc:X.calm=true) (h:PGs X es t)
  (hn:(assignEach es X.env).length=n:=by rfl) (hst:(assignEach es X.env).findIdx? (·.1)=none:=by rfl):PG X (.Tuple es k pos) (Zq9 X.K n t):=by
 intro pins s σ H v u Q I r hw
 obtain ⟨a,xs,e1,hq,hl,hw⟩:=hw
 subst e1
 cases r
 obtain ⟨its,rv,ht,hz⟩:=I.tuple hq
 refine assign_Tuple_tuple (I.ok.hd hc) ht (by simp [hn,← hl,rv.length]) hst fun h' hx=>?_
 have I1:Inv X pins σ H { s with heap:=h' }:=I.kept (t':=s.toks) fun b o e=>hx b o (Nat.ne_of_lt (Heap.lt_size e)) e
 exact h pins _ σ H xs _ Q I1 (by simpa using rv) hw
def ZkX (te:TE) (g:TG):TS:=fun D σ H=>te σ H fun x H1=>g x σ H1 D.nx
theorem Zlk {i:Nat} {x:Str} {e:Expr} {te:TE} {pos':Pos} (hN:X.N.Nodup) (hi:X.N[i]?=some x) (hx:Loc X.env.scope x) (he:PE X e te) (hs:swapsWith e (some (.Name x pos')) pos.line X.env=pure false:=by rfl) (hf:X.fn x=true∨X.env.scope.names.lookup x=some .local:=by first | exact .inl rfl | exact .inr rfl | assumption) :
  PS X (.Assign [.Name x pos'] e pos) (ZkX te (Zgy i)):=by
 intro pins s σ H D I h
 refine wpAny_Assign_Name (thn (he pins s σ H _ I h) fun v s1 ⟨y,H1,I1,r1,q1⟩=>?_) hs
 exact Zg6 I1 hN hi hx r1 (fun s2 I2=>⟨_,H1,I2,q1⟩) hf
end
section
variable {X:Cx} {pos:Pos}
def Zpe (c:TT) (tb:TS):TS:=fun D σ H=>∃ W:Nat→St→Hp→Prop,(∃ m,W m σ H)∧∀ m σ H,W m σ H →
 c σ H fun b H1=>if b=true then ∃ N:St→Hp→Prop,(∀ σ' H',N σ' H'→∃ m',m'<m∧W m' σ' H')∧tb { D with nx:=N,ct:=N,bk:=D.nx } σ H1 else D.nx σ H1
theorem ZmX {c:Expr} {body:List Stmt} {tc:TT} {tb:TS} (hp:PassesOwn (model X.prog X.w) X.A X.env X.xe) (hc:PT X c tc) (hb:PSs X body tb):PS X (.While c body [] pos) (Zpe tc tb):=by
 intro pins s σ H D I h
 obtain ⟨W,⟨m0,w0⟩,turn⟩:=h
 refine wpAny_While (codeAny_whileLoop (fun n s'=>∃ σ' H',Inv X pins σ' H' s'∧W n σ' H') ?_ m0 ⟨σ,H,I,w0⟩)
 rintro n s1 ⟨σ1,H1,I1,w1⟩
 refine wpAny_passesOwn hp (thn (hc pins s1 σ1 H1 _ I1 (turn n σ1 H1 w1)) fun b s2 ⟨H2,I2,q2⟩=>?_)
 cases b with
 | true =>
  obtain ⟨N,hN,q2⟩:=q2
  rw [if_pos rfl]
  refine wpAny_passesOwn hp (thn (hb pins s2 σ1 H2 _ I2 q2) fun f s3 q3=>?_)
  cases f with
  | next =>
   obtain ⟨σ3,H3,I3,n3⟩:=q3
   obtain ⟨m',hm,w3⟩:=hN σ3 H3 n3
   exact ⟨m',hm,σ3,H3,I3,w3⟩
  | cont =>
   obtain ⟨σ3,H3,I3,n3⟩:=q3
   obtain ⟨m',hm,w3⟩:=hN σ3 H3 n3
   exact ⟨m',hm,σ3,H3,I3,w3⟩
  | brk=>exact q3
  | ret v=>exact q3
 | false =>
  rw [if_neg Bool.false_ne_true]
  exact wpAny_execs_nil ⟨σ1,H2,I2,q2⟩
end
structure It where
 go:Nat→Hp→Prop
 yld:Nat→Hp→V→Hp→Prop
 stop:Nat→Hp→Prop
def Zdp (X:Cx) (pins:List (Addr×Obj)) (H:Hp) (b:Addr):Prop :=
 H b=none∧b≠X.env.locals∧b∉X.fs∧(b∈X.ex∨X.s₀.heap.objs.size≤b)∧(∀ x c,X.env.cells.lookup x=some c→c≠b)∧∀ p∈X.pn++pins,p.1≠b
theorem Inv.fpOk {X:Cx} {pins:List (Addr×Obj)} {σ:St} {H H':Hp} {s:Shared} {b:Addr} (I:Inv X pins σ H s) (hb:s.heap.objs.size≤b) (hn:H' b=none):Zdp X pins H' b:=by
 refine ⟨hn,Nat.ne_of_gt (Nat.lt_of_lt_of_le I.lt hb),I.nofs hb,.inr (Nat.le_trans I.sz hb),fun x c e z=>?_,fun p hp z=>?_⟩
 ·obtain ⟨v,q⟩:=I.cell x c e
  exact absurd (Nat.lt_of_lt_of_le q.lt (by rw [z];exact hb)) (Nat.lt_irrefl _)
 ·exact absurd (Nat.lt_of_lt_of_le (Heap.lt_size (I.pin p hp).1) (by rw [z];exact hb)) (Nat.lt_irrefl _)
structure ZfK (P:Program) (w:World) (K:PySem.W.Frag) (tg:Expr) (J:It) (fp:List Addr) (it:Addr) (tn:Nat→Heap→Prop):Prop where
 mem:it∈fp
 obj:∀ i h,tn i h→∀ b∈fp,∃ o,h.get? b=some o∧∀ v,o.data≠.cell v
 keep:∀ i h h',tn i h→(∀ b∈fp,∀ o,h.get? b=some o→h'.get? b=some o)→tn i h'
 item:∀ (X:Cx),X.prog=P→X.w=w→X.K=K→X.calm=true→∀ (i:Nat) (pins:List (Addr×Obj)) (s:Shared) (σ:St) (H:Hp) (E:Value→Shared→Prop),Inv X pins σ H s→(∀ b∈fp,Zdp X pins H b)→tn i s.heap→J.go i H →
  wpAny (model P w) X.A (pyNext (.ref it)) (fun r s1=>∃ u,r=some u ∧
   wpAny (model P w) X.A (letOwnedTupleGo tg (.ref it) u) (fun _ s2=>∃ x H',Inv X pins σ H' s2∧RelV x u∧J.yld i H x H'∧tn (i+1) s2.heap∧∀ b∈fp,H' b=none) E s1) E s
 done:∀ (X:Cx),X.prog=P→X.w=w→X.K=K→X.calm=true→∀ (i:Nat) (pins:List (Addr×Obj)) (s:Shared) (σ:St) (H:Hp) (E:Value→Shared→Prop),Inv X pins σ H s→(∀ b∈fp,Zdp X pins H b)→tn i s.heap→J.stop i H →
  wpAny (model P w) X.A (pyNext (.ref it)) (fun r s1=>r=none∧Inv X pins σ H s1) E s
 self:∀ (A:Around) (i:Nat) (s:Shared) (Q:Value→Shared→Prop) (E:Value→Shared→Prop),tn i s.heap→Q (.ref it) s→wpAny (model P w) A (pyIter (.ref it)) Q E s
abbrev TI:=St→Hp→(It→Hp→Prop)→Prop
def PIE (X:Cx) (pins:List (Addr×Obj)) (σ:St) (tg:Expr) (R:It→Hp→Prop) (itv:Value) (s2:Shared):Prop :=
 ∃ (it:Addr) (fp:List Addr) (tn:Nat→Heap→Prop) (J:It) (H':Hp),itv=.ref it∧Inv X pins σ H' s2∧ZfK X.prog X.w X.K tg J fp it tn∧tn 0 s2.heap∧(∀ b∈fp,Zdp X pins H' b)∧R J H'
def PI (X:Cx) (tg iter:Expr) (wi:TI):Prop :=
 ∀ (pins:List (Addr×Obj)) (s:Shared) (σ:St) (H:Hp) (R:It→Hp→Prop),Inv X pins σ H s→wi σ H R →
  wpAny (model X.prog X.w) X.A (eval iter X.env) (fun v s1=>wpAny (model X.prog X.w) X.A (pyIter v) (PIE X pins σ tg R) X.xe s1) X.xe s
theorem ZhL {M:Model} {A:Around} {E:Value→Shared→Prop} {s:Shared} {tg:Expr} {it:Addr} {u:Value} {o:Obj} {n:String} {vs:Array Value} {Q:Unit→Shared→Prop} (ho:s.heap.get? it=some o) (hc:o.cls=.type n) (hd:o.data=.fields vs)
  (hn:["enumerate","zip","dict_itemiterator","dict_reverseitemiterator","odict_iterator","itertools.zip_longest","itertools.pairwise"].contains n=false) (hQ:Q () s):wpAny M A (letOwnedTupleGo tg (.ref it) u) Q E s:=by
 unfold letOwnedTupleGo
 cases tg<;>first
  | exact wpAny_pure hQ
  | (cases u<;>first
    | exact wpAny_pure hQ
    | (refine wpAny_bind (wpAny_load ho ?_)
       rw [hc,hd]
       show wpAny M A (if (["enumerate","zip","dict_itemiterator","dict_reverseitemiterator","odict_iterator","itertools.zip_longest","itertools.pairwise"].contains n&&vs[0]?==some (rawInt _))=true then _ else _) Q E s
       rw [if_neg (by intro h;rw [hn,Bool.false_and] at h;cases h)]
       exact wpAny_pure hQ))
def Itl (K:PySem.W.Frag) (a:Addr):It :=
 ⟨fun i H=>∃ xs x,SqL K H a xs∧xs[i]?=some x,fun i H x H'=>H'=H∧∀ xs,SqL K H a xs→xs[i]?=some x,fun i H=>∃ xs,SqL K H a xs∧xs.length≤i⟩
def Itt (K:PySem.W.Frag) (a:Addr):It :=
 ⟨fun i H=>∃ xs x,SqT K H a xs∧xs[i]?=some x,fun i H x H'=>H'=H∧∀ xs,SqT K H a xs→xs[i]?=some x,fun i H=>∃ xs,SqT K H a xs∧xs.length≤i⟩
def Itr (lo:Int) (n:Nat):It:=⟨fun i _=>i<n,fun i H x H'=>H'=H∧x=.int (lo+i),fun i _=>n≤i⟩
theorem Zlz {P:Program} {w:World} {K:PySem.W.Frag} {tg:Expr} (a it:Addr):ZfK P w K tg (Itl K a) [it] it (fun i h=>h.IsListIter it a i) where
 mem:=by simp
 obj:=fun i h st b hb=>by
  have e:b=it:=by simpa using hb
  subst e
  obtain ⟨o,e,c,d⟩:=st
  exact ⟨o,e,fun v z=>by rw [d] at z;cases z⟩
 keep:=fun i h h' st k=>st.at fun o e=>k it (by simp) o e
 item:=by
  intro X hP hw hK hc i pins s σ H E I hf st hg
  subst hP hw hK
  obtain ⟨xs,x,hq,hx⟩:=hg
  obtain ⟨its,rv,p,hz⟩:=I.list hq
  obtain ⟨u,hu,ru⟩:=rv.get hx
  obtain ⟨f0,f1,f2,f3,f4,f5⟩:=hf it (by simp)
  refine wpAny_pyNext_list_item st p.isList (x:=u) (by simpa using hu) fun h' st' sb=>?_
  have I1:Inv X pins σ H { s with heap:=h' }:=I.turned (t':=s.toks) (fun b o hb e=>(sb.2 b hb).trans e) f0 f1 f3 f4 f5
  obtain ⟨o,e,c,d⟩:=id st'
  exact ⟨u,rfl,ZhL (s:={ s with heap:=h' }) e c d (by decide) ⟨x,H,I1,ru,⟨rfl,fun ys hy=>by rw [I.list_inj hy hq];exact hx⟩,st',fun b hb=>(hf b hb).1⟩⟩
 done:=by
  intro X hP hw hK hc i pins s σ H E I hf st hg
  subst hP hw hK
  obtain ⟨xs,hq,hx⟩:=hg
  obtain ⟨its,rv,p,hz⟩:=I.list hq
  obtain ⟨f0,f1,f2,f3,f4,f5⟩:=hf it (by simp)
  have hl:=rv.length
  exact wpAny_pyNext_list_end (I.ok.hd hc) st p.isList (by simp;omega) fun h' eb=>⟨rfl,I.turned (t':=s.toks) (fun b o hb e=>eb b o hb e) f0 f1 f3 f4 f5⟩
 self:=fun _ _ _ _ _ st h=>wpAny_pyIter_listiter st h
theorem ZkP {P:Program} {w:World} {K:PySem.W.Frag} {tg:Expr} (a it:Addr):ZfK P w K tg (Itt K a) [it] it (fun i h=>h.IsTupleIter it a i) where
 mem:=by simp
 obj:=fun i h st b hb=>by
  have e:b=it:=by simpa using hb
  subst e
  obtain ⟨o,e,c,d⟩:=st
  exact ⟨o,e,fun v z=>by rw [d] at z;cases z⟩
 keep:=fun i h h' st k=>st.at fun o e=>k it (by simp) o e
 item:=by
  intro X hP hw hK hc i pins s σ H E I hf st hg
  subst hP hw hK
  obtain ⟨xs,x,hq,hx⟩:=hg
  obtain ⟨its,rv,p,hz⟩:=I.tuple hq
  obtain ⟨u,hu,ru⟩:=rv.get hx
  obtain ⟨f0,f1,f2,f3,f4,f5⟩:=hf it (by simp)
  refine wpAny_pyNext_tuple_item st (show s.heap.IsTuple a its.toArray from p) (x:=u) (by simpa using hu) fun h' st' sb=>?_
  have I1:Inv X pins σ H { s with heap:=h' }:=I.turned (t':=s.toks) (fun b o hb e=>(sb.2 b hb).trans e) f0 f1 f3 f4 f5
  obtain ⟨o,e,c,d⟩:=id st'
  exact ⟨u,rfl,ZhL (s:={ s with heap:=h' }) e c d (by decide) ⟨x,H,I1,ru,⟨rfl,fun ys hy=>by rw [I.tuple_inj hy hq];exact hx⟩,st',fun b hb=>(hf b hb).1⟩⟩
 done:=by
  intro X hP hw hK hc i pins s σ H E I hf st hg
  subst hP hw hK
  obtain ⟨xs,hq,hx⟩:=hg
  obtain ⟨its,rv,p,hz⟩:=I.tuple hq
  obtain ⟨f0,f1,f2,f3,f4,f5⟩:=hf it (by simp)
  have hl:=rv.length
  exact wpAny_pyNext_tuple_end (I.ok.hd hc) st (show s.heap.IsTuple a its.toArray from p) (by simp;omega) fun h' eb=>⟨rfl,I.turned (t':=s.toks) (fun b o hb e=>eb b o hb e) f0 f1 f3 f4 f5⟩
 self:=fun _ _ _ _ _ st h=>wpAny_pyIter_tupleiter st h
theorem Zkv {P:Program} {w:World} {K:PySem.W.Frag} {tg:Expr} (it:Addr) (lo:Int) (n:Nat):ZfK P w K tg (Itr lo n) [it] it (fun i h=>IsRangeIter h it (lo+(i:Nat) * 1) ((n:Int)-(i:Nat)) 1) where
 mem:=by simp
 obj:=fun i h st b hb=>by
  have e:b=it:=by simpa using hb
  subst e
  exact ⟨_,st,fun v z=>by
   have z':Data.fields _=Data.cell v:=z
   cases z'⟩
 keep:=fun i h h' st k=>k it (by simp) _ st
 item:=by
  intro X hP hw hK hc i pins s σ H E I hf st hg
  subst hP hw hK
  obtain ⟨f0,f1,f2,f3,f4,f5⟩:=hf it (by simp)
  have W:=Walks.range (prog:=X.prog) (w:=X.w) (I.ok.hd hc) it lo 1 n
  refine W.item i s _ _ hg st fun v h' tk hv st' kk=>?_
  obtain ⟨t,rfl⟩:=hv
  have I1:Inv X pins σ H { s with heap:=h',toks:=tk }:=I.turned (fun b o hb e=>kk b o (by simpa using hb) e) f0 f1 f3 f4 f5
  refine ⟨_,rfl,ZhL (s:={ s with heap:=h',toks:=tk }) (n:="range_iterator") st' rfl rfl (by decide) ⟨.int (lo+i),H,I1,⟨t,?_⟩,⟨rfl,rfl⟩,st',fun b hb=>(hf b hb).1⟩⟩
  rw [Int.mul_one]
 done:=by
  intro X hP hw hK hc i pins s σ H E I hf st hg
  subst hP hw hK
  obtain ⟨f0,f1,f2,f3,f4,f5⟩:=hf it (by simp)
  exact wpAny_pyNext_range_end (I.ok.hd hc) st (by have:n≤i:=hg;omega) fun h' eb=>⟨rfl,I.turned (t':=s.toks) (fun b o hb e=>eb b o hb e) f0 f1 f3 f4 f5⟩
 self:=fun _ _ _ _ _ st h=>wpAny_pyIter_rangeiter st h
end L2
namespace L2
open PySem PySem.Spec PyProof.Rows
section
variable {X:Cx} {tg:Expr}
def Zp6 (K:PySem.W.Frag) (tl:TE):TI:=fun σ H R=>tl σ H fun x H1=>∃ a,x=.ref a∧(∃ xs,SqL K H1 a xs)∧R (Itl K a) H1
def Zrk (K:PySem.W.Frag) (tl:TE):TI:=fun σ H R=>tl σ H fun x H1=>∃ a,x=.ref a∧(∃ xs,SqT K H1 a xs)∧R (Itt K a) H1
theorem ZnX {l:Expr} {tl:TE} (hl:PE X l tl):PI X tg l (Zp6 X.K tl):=by
 intro pins s σ H R I h
 refine thn (hl pins s σ H _ I h) fun v s1 ⟨x,H1,I1,r1,q1⟩=>?_
 obtain ⟨a,e,⟨xs,hq⟩,q⟩:=q1
 subst e
 cases r1
 obtain ⟨its,rv,p,hz⟩:=I1.list hq
 refine wpAny_pyIter_list p.isList ?_
 refine ⟨s1.heap.objs.size,[s1.heap.objs.size],_,_,H1,rfl,I1.kept (t':=s1.toks) fun b o e=>Heap.get?_push_of_some _ e,Zlz a _,⟨_,Heap.get?_push_size _ rfl,rfl,rfl⟩,fun b hb=>?_,q⟩
 have e:b=s1.heap.objs.size:=by simpa using hb
 subst e
 exact I1.fpOk (Nat.le_refl _) (I1.hok.fresh (Nat.le_refl _))
theorem Zpl {l:Expr} {tl:TE} (hl:PE X l tl):PI X tg l (Zrk X.K tl):=by
 intro pins s σ H R I h
 refine thn (hl pins s σ H _ I h) fun v s1 ⟨x,H1,I1,r1,q1⟩=>?_
 obtain ⟨a,e,⟨xs,hq⟩,q⟩:=q1
 subst e
 cases r1
 obtain ⟨its,rv,p,hz⟩:=I1.tuple hq
 refine wpAny_pyIter_tuple (show s1.heap.IsTuple a its.toArray from p) ?_
 refine ⟨s1.heap.objs.size,[s1.heap.objs.size],_,_,H1,rfl,I1.kept (t':=s1.toks) fun b o e=>Heap.get?_push_of_some _ e,ZkP a _,⟨_,Heap.get?_push_size _ rfl,rfl,rfl⟩,fun b hb=>?_,q⟩
 have e:b=s1.heap.objs.size:=by simpa using hb
 subst e
 exact I1.fpOk (Nat.le_refl _) (I1.hok.fresh (Nat.le_refl _))
theorem ZmE {pins:List (Addr×Obj)} {σ:St} {H:Hp} {s:Shared} {R:It→Hp→Prop} {E:Value→Shared→Prop} {lo hi:Int} {t u v:Tok} {tk:Nat} (I:Inv X pins σ H s) (h1 : -(2^62)≤lo) (h2:lo<2^62) (h3 : -(2^62)≤hi) (h4:hi<2^62)
  (q:R (Itr lo (hi-lo).toNat) H):wpAny (model X.prog X.w) X.A (pyIter (.ref s.heap.objs.size)) (PIE X pins σ tg R) E { s with heap:=s.heap.push { cls:=.type "range",data:=.fields #[.int lo t,.int hi u,.int 1 v] },toks:=tk }:=by
 refine wpAny_pyIter_range (IsRange.new ..) (small_one h1 h2 h3 h4) ?_
 have I1:Inv X pins σ H { s with heap:=s.heap.push { cls:=.type "range",data:=.fields #[.int lo t,.int hi u,.int 1 v] },toks:=tk }:=I.kept fun b o e=>Heap.get?_push_of_some _ e
 refine ⟨(s.heap.push { cls:=.type "range",data:=.fields #[.int lo t,.int hi u,.int 1 v] }).objs.size,[(s.heap.push { cls:=.type "range",data:=.fields #[.int lo t,.int hi u,.int 1 v] }).objs.size],_,_,H,rfl,
  I1.kept (t':=tk) fun b o e=>Heap.get?_push_of_some _ e,Zkv _ lo (hi-lo).toNat,?_,fun b hb=>?_,q⟩
 ·have e1:lo+((0:Nat):Int) * 1=lo:=by simp
  have e2:(((hi-lo).toNat:Nat):Int)-((0:Nat):Int)=Builtin.Range.rangeSize lo hi 1:=by rw [rangeSize_one];split<;>omega
  show IsRangeIter _ _ (lo+((0:Nat):Int) * 1) ((((hi-lo).toNat:Nat):Int)-((0:Nat):Int)) 1
  rw [e1,e2]
  exact Heap.get?_push_size _ rfl
 ·have e:b=(s.heap.push { cls:=.type "range",data:=.fields #[.int lo t,.int hi u,.int 1 v] }).objs.size:=by simpa using hb
  subst e
  exact I1.fpOk (Nat.le_refl _) (I1.hok.fresh (Nat.le_refl _))
def Zqc (ta:TA):TI:=fun σ H R=>ta σ H fun vs H1=>∃ j:Int,vs=[.int j] ∧ -(2^62)≤j∧j<2^62∧R (Itr 0 j.toNat) H1
theorem ZlZ {a:Expr} {ta:TA} {p pos:Pos} (hg:Gl X "range") (hm:X.mg "range"=none) (ha:PA X [a] ta) (hs:starEach [a] X.env=[(false,eval a X.env)]:=by rfl):PI X tg (.Call (.Name "range" p) [a] [] pos) (Zqc ta):=by
 intro pins s σ H R I h
 refine Call_ (Ze7 I hg hm boot_range (PyProof.Rows.callWith_type1 (thn (ha pos pins s σ H _ I h) fun us s1 ⟨vs,H1,I1,r1,q1⟩=>?_) hs rfl))
 obtain ⟨j,e,q1,q2,q⟩:=q1
 subst e
 cases r1 with
 | cons r rr =>
  cases rr
  obtain ⟨t,rfl⟩:=r
  exact call_range_1 (ZmE I1 (by omega) (by omega) q1 q2 (by simpa using q))
def ZpH (wi:TI) (g:TG) (tb:TS):TS:=fun D σ H=>wi σ H fun J H1=>∃ W:Nat→Nat→St→Hp→Prop,(∃ m,W 0 m σ H1)∧∀ i m σ H,W i m σ H →
 (J.stop i H∧D.nx σ H)∨(J.go i H∧∃ N:St→Hp→Prop,(∀ σ' H',N σ' H'→∃ m',m'<m∧W (i+1) m' σ' H')∧∀ x H',J.yld i H x H'→g x σ H' fun σ2 H2=>tb { D with nx:=N,ct:=N,bk:=D.nx } σ2 H2)
def ZcL (fp:List Addr) (h:Heap):List (Addr×Obj):=fp.filterMap fun b=>(h.get? b).map fun o=>(b,o)
theorem Zcs {fp:List Addr} {h:Heap} {b:Addr} {o:Obj} (hb:b∈fp) (e:h.get? b=some o):(b,o)∈ZcL fp h:=List.mem_filterMap.mpr ⟨b,hb,by rw [e];rfl⟩
theorem Zgg {fp:List Addr} {h:Heap} {p:Addr×Obj} (hp:p∈ZcL fp h):p.1∈fp∧h.get? p.1=some p.2:=by
 obtain ⟨b,hb,e⟩:=List.mem_filterMap.mp hp
 cases q:h.get? b with
 | none=>rw [q] at e;cases e
 | some o =>
  rw [q] at e
  have e':(b,o)=p:=Option.some.inj e
  subst e'
  exact ⟨hb,q⟩
theorem Inv.pinned {pins:List (Addr×Obj)} {σ:St} {H:Hp} {s:Shared} {fp:List Addr} (I:Inv X pins σ H s) (hf:∀ b∈fp,Zdp X pins H b) (ho:∀ b∈fp,∃ o,s.heap.get? b=some o∧∀ v,o.data≠.cell v):Inv X (pins++ZcL fp s.heap) σ H s :=
 I.pins_of fun p hp=>(List.mem_append.mp hp).elim (fun z=>I.pin p (List.mem_append_right _ z)) fun z=>by
  obtain ⟨hb,e⟩:=Zgg z
  obtain ⟨f0,f1,f2,_⟩:=hf p.1 hb
  obtain ⟨o,e',d⟩:=ho p.1 hb
  rw [e] at e';cases e'
  exact ⟨e,f0,f1,f2,d⟩
theorem Inv.unpinned {pins pl:List (Addr×Obj)} {σ:St} {H:Hp} {s:Shared} (I:Inv X (pins++pl) σ H s):Inv X pins σ H s:=I.pins_of fun p hp=>I.pin p (List.mem_append_right _ (List.mem_append_left _ hp))
theorem ZpX {iter:Expr} {body:List Stmt} {wi:TI} {g:TG} {tb:TS} {pos:Pos} (hp:PassesOwn (model X.prog X.w) X.A X.env X.xe) (hc:X.calm=true) (hi:PI X tg iter wi) (hg:PG X tg g) (hb:PSs X body tb)
  (hs:∀ x,foldedSetIterable iter X.env x=pure x:=by intro _;rfl):PS X (.For tg iter body [] pos) (ZpH wi g tb):=by
 intro pins s σ H D I h
 refine wpAny_For (thn (hi pins s σ H _ I h) fun v s1 h1=>thn h1 fun itv s2 h2=>?_) hs
 obtain ⟨it,fp,tn,J,H2,e,I2,T,st2,f2,W,⟨m0,w0⟩,turn⟩:=h2
 subst e
 -- what stays true of the iterator's objects through the loop
 have stat:∀ {H':Hp},(∀ b∈fp,H' b=none)→∀ b∈fp,Zdp X pins H' b:=fun hn b hb=>⟨hn b hb,(f2 b hb).2⟩
 refine codeAny_forLoop_any (fun n s'=>∃ i σ' H',Inv X pins σ' H' s'∧tn i s'.heap∧(∀ b∈fp,H' b=none)∧W i n σ' H') ?_ m0 ⟨0,σ,H2,I2,st2,fun b hb=>(f2 b hb).1,w0⟩
 rintro n s3 ⟨i,σ3,H3,I3,st3,fr3,w3⟩
 rcases turn i n σ3 H3 w3 with ⟨stop,qn⟩ | ⟨go,N,hN,step⟩
 ·refine wpAny_passesOwn hp (thn (T.done X rfl rfl rfl hc i pins s3 σ3 H3 X.xe I3 (stat fr3) st3 stop) fun r s4 ⟨hr,I4⟩=>?_)
  subst hr
  exact wpAny_execs_nil ⟨σ3,H3,I4,qn⟩
 ·refine wpAny_passesOwn hp (thn (T.item X rfl rfl rfl hc i pins s3 σ3 H3 X.xe I3 (stat fr3) st3 go) fun r s4 ⟨u,hr,h4⟩=>?_)
  subst hr
  refine wpAny_passesOwn hp (thn h4 fun _ s5 ⟨x,H5,I5,r5,y5,st5,fr5⟩=>?_)
  have I5':=I5.pinned (stat fr5) (T.obj _ _ st5)
  refine wpAny_passesOwn hp (thn (hg _ s5 σ3 H5 x u _ I5' r5 (step x H5 y5)) fun _ s6 ⟨σ6,H6,I6,q6⟩=>?_)
  refine wpAny_passesOwn hp (thn (hb _ s6 σ6 H6 _ I6 q6) fun f s7 q7=>?_)
  have again:∀ {σ7:St} {H7:Hp},Inv X (pins++ZcL fp s5.heap) σ7 H7 s7→N σ7 H7→∃ m,m<n∧∃ i σ' H',Inv X pins σ' H' s7∧tn i s7.heap∧(∀ b∈fp,H' b=none)∧W i m σ' H':=fun {σ7 H7} I7 n7=>by
   obtain ⟨m',hm,w7⟩:=hN σ7 H7 n7
   refine ⟨m',hm,i+1,σ7,H7,I7.unpinned,T.keep _ _ _ st5 fun b hb o e=>(I7.pin (b,o) (List.mem_append_right _ (List.mem_append_right _ (Zcs hb e)))).1,fun b hb=>?_,w7⟩
   obtain ⟨o,e,d⟩:=T.obj _ _ st5 b hb
   exact (I7.pin (b,o) (List.mem_append_right _ (List.mem_append_right _ (Zcs hb e)))).2.1
  cases f with
  | next=>obtain ⟨σ7,H7,I7,n7⟩:=q7;exact again I7 n7
  | cont=>obtain ⟨σ7,H7,I7,n7⟩:=q7;exact again I7 n7
  | brk=>obtain ⟨σ7,H7,I7,q7⟩:=q7;exact ⟨σ7,H7,I7.unpinned,q7⟩
  | ret v=>obtain ⟨x7,σ7,H7,I7,r7,q7⟩:=q7;exact ⟨x7,σ7,H7,I7.unpinned,r7,q7⟩
end
end L2
namespace L2
open PySem PySem.Spec PyProof.Rows
abbrev R2:=V→V→Hp→VK→Prop
def OpR (X:Cx) (f:Value→Value→Sem Value) (r:R2):Prop :=
 ∀ (pins:List (Addr×Obj)) (s:Shared) (σ:St) (H:Hp) (x y:V) (v u:Value) (Q:VK),Inv X pins σ H s→RelV x v→RelV y u→r x y H Q →
  wpAny (model X.prog X.w) X.A (f v u) (EP X pins σ Q) X.xe s
def CallR (X:Cx) (f:Value) (r:List V→Hp→VK→Prop):Prop :=
 ∀ (pins:List (Addr×Obj)) (s:Shared) (σ:St) (H:Hp) (xs:List V) (us:List Value) (Q:VK),Inv X pins σ H s→Vals xs us→r xs H Q →
  wpAny (model X.prog X.w) X.A (call f us) (EP X pins σ Q) X.xe s
def ZqW (X:Cx) (r:V→Hp→(Bool→Hp→Prop)→Prop):Prop :=
 ∀ (pins:List (Addr×Obj)) (s:Shared) (σ:St) (H:Hp) (x:V) (v:Value) (Q:Bool→Hp→Prop),Inv X pins σ H s→RelV x v→r x H Q →
  wpAny (model X.prog X.w) X.A (truthy v) (TP X pins σ Q) X.xe s
def tOp (r:R2) (ta tb:TE):TE:=fun σ H Q=>ta σ H fun x H1=>tb σ H1 fun y H2=>r x y H2 Q
def rI (C:Int→Int→Prop) (g:Int→Int→V):R2:=fun x y H Q=>∃ i j,x=.int i∧y=.int j∧C i j∧Q (g i j) H
def rI0 (g:Int→Int→V):R2:=fun x y H Q=>∃ i j,x=.int i∧y=.int j∧Q (g i j) H
section
variable {X:Cx} {a b c:Expr} {ta tb tc:TE} {pos:Pos}
theorem ZmL (ha:PE X a ta) (hb:PE X b tb) {pins:List (Addr×Obj)} {s:Shared} {σ:St} {H:Hp} {R:V→V→Hp→Prop} (I:Inv X pins σ H s)
  (h:ta σ H fun x H1=>tb σ H1 fun y H2=>R x y H2) {Q:Value→Shared→Prop} {f:Value→Value→Sem Value}
  (hf:∀ v u s2 x y H2,Inv X pins σ H2 s2→RelV x v→RelV y u→R x y H2→wpAny (model X.prog X.w) X.A (f v u) Q X.xe s2) :
  wpAny (model X.prog X.w) X.A (eval a X.env) (fun v s₁=>wpAny (model X.prog X.w) X.A (eval b X.env) (fun u s₂=>wpAny (model X.prog X.w) X.A (f v u) Q X.xe s₂) X.xe s₁) X.xe s:=by
 refine thn (ha pins s σ H _ I h) fun v s1 ⟨x,H1,I1,r1,q1⟩=>?_
 refine thn (hb pins s1 σ H1 _ I1 q1) fun u s2 ⟨y,H2,I2,r2,q2⟩=>?_
 exact hf v u s2 x y H2 I2 r1 r2 q2
theorem Zql {op:Operator} {r:R2} (ho:OpR X (binaryOp op) r) (ha:PE X a ta) (hb:PE X b tb):PE X (.BinOp a op b pos) (tOp r ta tb):=by
 intro pins s σ H Q I h
 exact wpAny_BinOp (ZmL ha hb I h fun v u s2 x y H2 I2 rx ry q=>ho pins s2 σ H2 x y v u Q I2 rx ry q)
theorem opI {f:Value→Value→Sem Value} {C:Int→Int→Prop} {g:Int→Int→Int}
  (rule:∀ (i j:Int) (t u:Tok) (s:Shared) (Q:Value→Shared→Prop) (E:Value→Shared→Prop),C i j→Q (.int (g i j) s.toks) { s with toks:=s.toks+1 }→wpAny (model X.prog X.w) X.A (f (.int i t) (.int j u)) Q E s) :
  OpR X f (rI C fun i j=>.int (g i j)):=by
 intro pins s σ H x y v u Q I rx ry h
 obtain ⟨i,j,rfl,rfl,hc,q⟩:=h
 obtain ⟨t,rfl⟩:=rx
 obtain ⟨t',rfl⟩:=ry
 exact rule i j t t' s _ _ hc ⟨.int (g i j),H,I.tok _,⟨_,rfl⟩,q⟩
theorem Zof {f:Value→Value→Sem Value} {g:Int→Int→Int}
  (rule:∀ (i j:Int) (t u:Tok) (s:Shared) (Q:Value→Shared→Prop) (E:Value→Shared→Prop),Q (.int (g i j) s.toks) { s with toks:=s.toks+1 }→wpAny (model X.prog X.w) X.A (f (.int i t) (.int j u)) Q E s) :
  OpR X f (rI0 fun i j=>.int (g i j)):=by
 intro pins s σ H x y v u Q I rx ry h
 obtain ⟨i,j,rfl,rfl,q⟩:=h
 obtain ⟨t,rfl⟩:=rx
 obtain ⟨t',rfl⟩:=ry
 exact rule i j t t' s _ _ ⟨.int (g i j),H,I.tok _,⟨_,rfl⟩,q⟩
theorem Zo3 {f:Value→Value→Sem Value} {g:Int→Int→Bool}
  (rule:∀ (i j:Int) (t u:Tok) (s:Shared) (Q:Value→Shared→Prop) (E:Value→Shared→Prop),Q (.bool (g i j)) s→wpAny (model X.prog X.w) X.A (f (.int i t) (.int j u)) Q E s) :
  OpR X f (rI0 fun i j=>.bl (g i j)):=by
 intro pins s σ H x y v u Q I rx ry h
 obtain ⟨i,j,rfl,rfl,q⟩:=h
 obtain ⟨t,rfl⟩:=rx
 obtain ⟨t',rfl⟩:=ry
 exact rule i j t t' s _ _ ⟨.bl (g i j),H,I,rfl,q⟩
def Zgm (i j:Int):Prop:=0<j∧j<1073741824
def Zjf (i j:Int):Prop:=0≤j∧j≤1000000∧i.natAbs<2^64
def CMul (i j:Int):Prop:=(-(2^64)<i∧i<2^64)∨(-(2^64)<j∧j<2^64)
theorem CMul.ok {i j:Int} (h:CMul i j):IntMulOk i j:=by
 rcases h with ⟨h1,h2⟩ | ⟨h1,h2⟩
 ·exact .of_left (intBits_le_64 h1 h2)
 ·exact .of_right (intBits_le_64 h1 h2)
theorem op_add:OpR X (binaryOp .Add) (rI0 fun i j=>.int (i+j)):=Zof fun _ _ _ _ _ _ _ q=>add_int q
theorem ZpK:OpR X (binaryOp .Sub) (rI0 fun i j=>.int (i-j)):=Zof fun _ _ _ _ _ _ _ q=>sub_int q
theorem ZoR:OpR X (binaryOp .Mult) (rI CMul fun i j=>.int (i * j)):=opI fun _ _ _ _ _ _ _ hc q=>mul_int q hc.ok
theorem ZnJ:OpR X (binaryOp .FloorDiv) (rI Zgm fun i j=>.int (i / j)):=opI fun i j _ _ _ _ _ hc q=>by
 have h1:(0:Int)<j:=hc.1
 have h2:j<1073741824:=hc.2
 exact floordiv_int (by omega) (by rw [Int.fdiv_eq_ediv_of_nonneg i (by omega)];exact q) (.inl (PyProof.noPylong_small (by omega)))
theorem ZpL:OpR X (binaryOp .Mod) (rI (fun _ j=>0<j) fun i j=>.int (i%j)):=opI fun i j _ _ _ _ _ hc q=>by
 have h1:(0:Int)<j:=hc
 exact mod_int' (by omega) (by rw [Int.fmod_eq_emod_of_nonneg i (by omega)];exact q)
theorem ZoB:OpR X (binaryOp .Pow) (rI Zjf fun i j=>.int (i^j.toNat)):=opI fun _ _ _ _ _ _ _ hc q=>pow_int_small hc.1 hc.2.1 hc.2.2 q
end
section
variable {X:Cx} {a b c:Expr} {ta tb tc:TE} {pos:Pos}
theorem ZpN {pins:List (Addr×Obj)} {σ:St} {H:Hp} {s:Shared} {Q:VK} {k k':Bool} (I:Inv X pins σ H s) (q:Q (.bl k) H) (e:k=k'):EP X pins σ Q (.bool k') s:=by
 subst e
 exact ⟨.bl k,H,I,rfl,q⟩
theorem Zqs:OpR X (compareOp .Gt) (rI0 fun i j=>.bl (decide (j<i))):=Zo3 fun _ _ _ _ _ _ _ q=>gt_int q
theorem ZqB:OpR X (compareOp .GtE) (rI0 fun i j=>.bl (decide (j≤i))):=Zo3 fun _ _ _ _ _ _ _ q=>ge_int q
theorem ZlC:OpR X (compareOp .In) (fun x y H Q=>∃ i j,x=.str i∧y=.str j∧Q (.bl (!(Builtin.Str.occurrences j i 0 j.length 1).isEmpty)) H):=by
 intro pins s σ H x y v u Q I rx ry h
 obtain ⟨i,j,rfl,rfl,q⟩:=h
 obtain ⟨t,rfl⟩:=rx
 obtain ⟨t',rfl⟩:=ry
 exact in_str (ZpN I q rfl)
theorem OpR.or {f:Value→Value→Sem Value} {r r':R2} (h:OpR X f r) (h':OpR X f r'):OpR X f (fun x y H Q=>r x y H Q∨r' x y H Q):=by
 intro pins s σ H x y v u Q I rx ry q
 rcases q with q | q
 ·exact h pins s σ H x y v u Q I rx ry q
 ·exact h' pins s σ H x y v u Q I rx ry q
theorem ZnR {op:CmpOp} {r:R2} (ho:OpR X (compareOp op) r) (ha:PE X a ta) (hb:PE X b tb) (hm:behindInMarks op b=false):PE X (.Compare a [op] [b] pos) (tOp r ta tb):=by
 intro pins s σ H Q I h
 exact wpAny_Compare1 (ZmL ha hb I h fun v u s2 x y H2 I2 rx ry q=>ho pins s2 σ H2 x y v u Q I2 rx ry q) hm
def Zqy (t:TE):TT:=fun σ H Q=>t σ H fun x H'=>∃ k,x=.bl k∧Q k H'
theorem ZnP {op:CmpOp} {r:R2} (ho:OpR X (compareOp op) r) (ha:PE X a ta) (hb:PE X b tb) (hm:behindInMarks op b=false):PT X (.Compare a [op] [b] pos) (Zqy (tOp r ta tb)):=by
 intro pins s σ H Q I h
 refine wpAny_isTrue_Compare1 (thn (ha pins s σ H _ I h) fun v s1 ⟨x,H1,I1,r1,q1⟩=>thn (hb pins s1 σ H1 _ I1 q1) fun u s2 ⟨y,H2,I2,r2,q2⟩ =>
  thn (ho pins s2 σ H2 x y v u _ I2 r1 r2 q2) fun c s3 ⟨z,H3,I3,r3,k,e,q3⟩=>?_) hm
 subst e
 cases r3
 exact wpAny_truthy_bool ⟨H3,I3,q3⟩
def Zpr (K:PySem.W.Frag) (x:V) (H:Hp) (k:Bool):Prop :=
 match x with
 | .non=>k=false
 | .bl b=>k=b
 | .int i=>k=(i != 0)
 | .str y=>y.length≤sizeLine∧k=((y.length:Int) != 0)
 | .byt y=>y.size≤sizeLine∧k=((y.size:Int) != 0)
 | .ref p=>(∃ xs,SqL K H p xs∧k=!xs.isEmpty)∨(∃ xs,SqT K H p xs∧k=!xs.isEmpty)∨∃ kvs,H p=some (.dK kvs)∧k=!kvs.isEmpty
 | _=>False
theorem Zky {κ:Type} {kvs:List (κ×V)} {vs:List (κ×Value)} (r:KV kvs vs):(!vs.isEmpty)=!kvs.isEmpty:=by
 cases r<;>rfl
theorem Zhn {xs:List V} {its:List Value} (r:Vals xs its):(!its.toArray.isEmpty)=!xs.isEmpty:=by
 cases r<;>simp
theorem Zgj:(sizeLine:Nat)<2^63:=by rw [sizeLine_eq];decide
theorem Zov:ZqW X (fun x H Q=>∃ k,Zpr X.K x H k∧Q k H):=by
 intro pins s σ H x v Q I rx h
 obtain ⟨k,e,q⟩:=h
 have hl:=Zgj
 have hs:sizeLine=16777216:=sizeLine_eq
 cases x with
 | non =>
  cases rx
  have e':k=false:=e
  subst e'
  exact truthy_none ⟨H,I,q⟩
 | bl b =>
  cases rx
  have e':k=b:=e
  subst e'
  exact wpAny_truthy_bool ⟨H,I,q⟩
 | int i =>
  obtain ⟨t,rfl⟩:=rx
  have e':k=(i != 0):=e
  subst e'
  exact PySem.P.truthy_int ⟨H,I,q⟩
 | str y =>
  obtain ⟨t,rfl⟩:=rx
  obtain ⟨hy,e'⟩:y.length≤sizeLine∧k=((y.length:Int) != 0):=e
  subst e'
  exact PySem.P.truthy_str (by omega) ⟨H,I.tok _,q⟩
 | byt y =>
  obtain ⟨t,rfl⟩:=rx
  obtain ⟨hy,e'⟩:y.size≤sizeLine∧k=((y.size:Int) != 0):=e
  subst e'
  exact PySem.W.truthy_bytes (by omega) ⟨H,I.tok _,q⟩
 | ref p =>
  cases rx
  have e':(∃ xs,SqL X.K H p xs∧k=!xs.isEmpty)∨(∃ xs,SqT X.K H p xs∧k=!xs.isEmpty)∨∃ kvs,H p=some (.dK kvs)∧k=!kvs.isEmpty:=e
  rcases e' with ⟨xs,hx,e'⟩ | ⟨xs,hx,e'⟩ | ⟨kvs,hx,e'⟩
  ·subst e'
   obtain ⟨its,r,pl,hz⟩:=I.list hx
   have hlen:=r.length
   exact wpAny_truthy_list pl.isList (by simp only [List.size_toArray];omega) ⟨H,I.tok _,by rw [Zhn r];exact q⟩
  ·subst e'
   obtain ⟨its,r,pl,hz⟩:=I.tuple hx
   have hlen:=r.length
   exact truthy_tuple pl (by simp only [List.size_toArray];omega) ⟨H,I.tok _,by rw [Zhn r];exact q⟩
  ·subst e'
   obtain ⟨hz,hS,vs,r,m⟩:kvs.length≤sizeLine∧(p==sysModules)=false∧∃ vs,KV kvs vs∧s.heap.DictOf (ZhQ X.prog X.w) p vs:=I.hok p _ hx
   have hlen:kvs.length=vs.length:=Paired.length r
   exact wpAny_truthy_dict hS m (by omega) ⟨H,I.tok _,by rw [Zky r];exact q⟩
 | _=>exact (show False from e).elim
theorem ZmQ (ha:PE X a ta) (he:∀ whole,isTrue a X.env whole=(do let v ← whole;standAt a.pos;holding [v] (truthy v))) :
  PT X a (fun σ H Q=>ta σ H fun x H'=>∃ k,Zpr X.K x H' k∧Q k H'):=by
 intro pins s σ H Q I h
 exact isTrue_plain (thn (ha pins s σ H _ I h) fun v s1 ⟨x,H1,I1,r1,q1⟩=>Zov pins s1 σ H1 x v Q I1 r1 q1) (he _)
theorem op_add_str:OpR X (binaryOp .Add) (fun x y H Q=>∃ i j,x=.str i∧y=.str j∧i.length+j.length≤sizeLine∧Q (.str (i++j)) H):=by
 intro pins s σ H x y v u Q I rx ry h
 obtain ⟨i,j,rfl,rfl,hz,q⟩:=h
 obtain ⟨t,rfl⟩:=rx
 obtain ⟨t',rfl⟩:=ry
 exact add_str (fun t' tk=>⟨.str (i++j),H,I.tok _,⟨_,rfl⟩,q⟩) hz
theorem Zep {x:V} {us:List Value} (r:Vals [x] us):∃ u,us=[u]∧RelV x u:=by
 cases r with
 | cons r1 r2=>cases r2;exact ⟨_,rfl,r1⟩
theorem Znk {x y:V} {us:List Value} (r:Vals [x,y] us):∃ u w',us=[u,w']∧RelV x u∧RelV y w':=by
 cases r with
 | cons r1 r2 =>
  cases r2 with
  | cons r3 r4=>cases r4;exact ⟨_,_,rfl,r1,r3⟩
theorem Zmp:CallR X (.builtin "abs") (fun xs H Q=>∃ i,xs=[.int i]∧Q (.int (if i<0 then -i else i)) H):=by
 intro pins s σ H xs us Q I r h
 obtain ⟨i,rfl,q⟩:=h
 obtain ⟨u,rfl,t,rfl⟩:=Zep r
 exact call_abs_int fun u tk=>⟨.int (if i<0 then -i else i),H,I.tok _,⟨_,rfl⟩,q⟩
def Zpg (K:PySem.W.Frag) (x:V) (H:Hp) (n:Nat):Prop :=
 match x with
 | .str y=>y.length≤sizeLine∧n=y.length
 | .byt y=>y.size≤sizeLine∧n=y.size
 | .ref p=>(∃ xs,SqL K H p xs∧n=xs.length)∨∃ xs,SqT K H p xs∧n=xs.length
 | _=>False
theorem Z8:CallR X (.builtin "len") (fun xs H Q=>∃ x n,xs=[x]∧Zpg X.K x H n∧Q (.int n) H):=by
 intro pins s σ H xs us Q I r h
 obtain ⟨x,n,rfl,e,q⟩:=h
 obtain ⟨u,rfl,rx⟩:=Zep r
 have hl:=Zgj
 have hs:sizeLine=16777216:=sizeLine_eq
 cases x with
 | str y =>
  obtain ⟨t,rfl⟩:=rx
  obtain ⟨hy,e'⟩:y.length≤sizeLine∧n=y.length:=e
  subst e'
  exact len_str (by omega) ⟨.int _,H,I.tok _,⟨_,rfl⟩,q⟩
 | byt y =>
  obtain ⟨t,rfl⟩:=rx
  obtain ⟨hy,e'⟩:y.size≤sizeLine∧n=y.size:=e
  subst e'
  exact PySem.W.len_bytes (by omega) ⟨.int _,H,I.tok _,⟨_,rfl⟩,q⟩
 | ref p =>
  cases rx
  have e':(∃ xs,SqL X.K H p xs∧n=xs.length)∨∃ xs,SqT X.K H p xs∧n=xs.length:=e
  rcases e' with ⟨xs,hx,e'⟩ | ⟨xs,hx,e'⟩
  ·subst e'
   obtain ⟨its,r',pl,hz⟩:=I.list hx
   have hlen:=r'.length
   exact Calls.call_len_list pl.isList (by simp only [List.size_toArray];omega) ⟨.int xs.length,H,I.tok _,⟨_,by simp only [List.size_toArray];rw [hlen]⟩,q⟩
  ·subst e'
   obtain ⟨its,r',pl,hz⟩:=I.tuple hx
   have hlen:=r'.length
   exact len_tuple pl (by simp only [List.size_toArray];omega) ⟨.int xs.length,H,I.tok _,⟨_,by simp only [List.size_toArray];rw [hlen]⟩,q⟩
 | _=>exact (show False from e).elim
end
end L2
namespace L2
open PySem PySem.Spec PyProof.Rows
section
variable {prog:Program} {w:World} {A:Around} {E:Value→Shared→Prop} {s:Shared} {K:PySem.W.Frag} {x dx C f:Addr} {mA:Str→Option Value} {name:Str} {v:Value}
end
section
variable {P:Program} {w:World} {H H':Hp} {h h':Heap} {a C dx:Addr} {fs fs':List (Str×V)}
end
structure Cls (K:PySem.W.Frag) (C:Addr):Prop where
 pg:PySem.W.plainGet K C Str.empty=true
 hd:PySem.W.hasDictIn K C=true
 po:PySem.W.plainOver K C=true
 sa:PySem.W.findIn K (.ref C) "__setattr__"=some (some (.builtin "object.__setattr__"))
theorem Cls.get {K:PySem.W.Frag} {C:Addr} (c:Cls K C) (f:Str):PySem.W.plainGet K C f=true:=c.pg
section
variable {X:Cx} {pins:List (Addr×Obj)} {σ:St} {H:Hp} {s:Shared} {a C dx:Addr} {fs:List (Str×V)} {f:Str} {v:V} {A:Around} {E:Value→Shared→Prop}
end
section
variable {X:Cx} {o e value:Expr} {f:Str} {pos pos' tpos:Pos} {ta tv:TE}
end
section
variable {X:Cx} {pins:List (Addr×Obj)} {σ:St} {H:Hp} {s:Shared} {A:Around} {E:Value→Shared→Prop} {Q:Value→Shared→Prop} {c:Value} {b:Bool}
end
end L2
namespace L2
open PySem PySem.Spec PyProof.Rows
structure Room (k:Nat) (A:Around):Prop where
 hd:A.handled=none
 dp:A.depth+3 * k+5<recursionLimit
 un:A.units+16 * k+200<cLine
theorem Room.mono {j k:Nat} {A:Around} (r:Room k A) (h:j≤k):Room j A:=⟨r.hd,by have:=r.dp;omega,by have:=r.un;omega⟩
theorem Room.deeper {k:Nat} {A:Around} (r:Room (k+1) A) (env:Env):Room k (A.deeper env) :=
 ⟨r.hd,by have:=r.dp;show A.depth+1+3 * k+5<_;omega,by have:=r.un;show A.units+3+16 * k+200<_;omega⟩
theorem Room.in1 {k:Nat} {A:Around} (r:Room (k+1) A):Room k A.in1 :=
 ⟨r.hd,by have:=r.dp;show A.depth+3 * k+5<_;omega,by have:=r.un;show A.units+1+16 * k+200<_;omega⟩
theorem Room.depth {k:Nat} {A:Around} (r:Room k A):A.depth<recursionLimit:=by have:=r.dp;omega
theorem Room.units {k:Nat} {A:Around} (r:Room k A):A.units+64<cLine:=by have:=r.un;omega
def ZqT:TA:=fun _ H Q=>Q [] H
def ZqK (ta:TE) (tr:TA):TA:=fun σ H Q=>ta σ H fun x H1=>tr σ H1 fun xs H2=>Q (x::xs) H2
section
variable {X:Cx} {e:Expr} {es:List Expr} {te:TE} {t:TA} {pos:Pos}
theorem pa_nil:PA X [] ZqT:=fun _ _ _ _ H Q I h=>Calls.spliced_nil ⟨[],H,I,.nil,h⟩
theorem Zfl (ha:PE X e te) (hr:PA X es t) (hs:starEach (e::es) X.env=(false,eval e X.env)::starEach es X.env:=by rfl):PA X (e::es) (ZqK te t):=by
 intro pos pins s σ H Q I h
 rw [hs]
 show wpAny _ _ (spliced ((false,eval e X.env)::backTo pos (starEach es X.env))) _ _ s
 refine Calls.spliced_cons (thn (ha pins s σ H _ I h) fun u s1 ⟨x,H1,I1,r1,q1⟩=>?_)
 exact thn (hr pos pins s1 σ H1 _ I1 q1) fun us s2 ⟨xs,H2,I2,r2,q2⟩=>⟨x::xs,H2,I2,.cons r1 r2,q2⟩
def ZqV (t:TA):TE:=fun σ H Q=>t σ H fun xs H1=>xs.length≤sizeLine∧∀ p,H1 p=none→Q (.ref p) (upd H1 p (.tup xs))
def Zq4 (t:TA):TE:=fun σ H Q=>t σ H fun xs H1=>xs.length≤sizeLine∧∀ p,H1 p=none→Q (.ref p) (upd H1 p (.lst xs))
theorem ZoG {x1} (h:PA X es t):PE X (.Tuple es x1 pos) (ZqV t):=by
 intro pins s σ H Q I hq
 refine wpAny_Tuple_spliced (thn (h pos pins s σ H _ I hq) fun us s1 ⟨xs,H1,I1,r,z,q⟩=>⟨by rw [← r.length];exact z,?_⟩)
 have hf:H1 s1.heap.objs.size=none:=I1.hok.fresh (Nat.le_refl _)
 refine ⟨.ref s1.heap.objs.size,upd H1 s1.heap.objs.size (.tup xs),I1.laid (t':=s1.toks) (fun b u e=>Heap.get?_push_of_some _ e) (Nat.le_refl _) ?_,rfl,q _ hf⟩
 exact ⟨z,us,r,⟨_,Heap.get?_push_size _ rfl,rfl,_,rfl⟩⟩
theorem ZoA (h:PA X es t):PE X (.List es pos) (Zq4 t):=by
 intro pins s σ H Q I hq
 refine wpAny_List_spliced (thn (h pos pins s σ H _ I hq) fun us s1 ⟨xs,H1,I1,r,z,q⟩=>⟨by rw [← r.length];exact z,?_⟩)
 have hf:H1 s1.heap.objs.size=none:=I1.hok.fresh (Nat.le_refl _)
 refine ⟨.ref s1.heap.objs.size,upd H1 s1.heap.objs.size (.lst xs),I1.laid (t':=s1.toks) (fun b u e=>Heap.get?_push_of_some _ e) (Nat.le_refl _) ?_,rfl,q _ hf⟩
 exact ⟨z,us,0,r,Heap.get?_push_size _ rfl⟩
end
abbrev Sp:=List V→Hp→VK→XK→Prop
abbrev CXT:=List Env→Hp→Shared→XK→Value→Shared→Prop
structure Env0 (P:Program) (w:World) (K:PySem.W.Frag) (mg:Str→Option Value) (base:Heap) (A:Around) (outer:List Env) (s:Shared) (H:Hp):Prop where
 frames:A.frames=some outer
 mod:Mod K mg base
 bs:∀ b o,base.get? b=some o→s.heap.get? b=some o∧H b=none
 bsz:base.objs.size≤s.heap.objs.size
 funs:s.heap.FunFrames base outer
 frf:∀ b∈frs outer,H b=none
 hok:HOk P w H s.heap
 bare:AllBare s.gens
def CE (outer:List Env) (P:Program) (w:World) (H:Hp) (s:Shared) (Q:VK) (u:Value) (s':Shared):Prop :=
 ∃ v H',s'.os=s.os∧AllBare s'.gens∧Un (frs outer) [] H H' s.heap s'.heap∧HOk P w H' s'.heap∧RelV v u∧Q v H'
def CR (CX:CXT) (outer:List Env) (P:Program) (w:World) (H:Hp) (s:Shared) (Q:VK) (E:XK) (r:Result) (s':Shared):Prop :=
 match r with
 | .ok (.ret u)=>CE outer P w H s Q u s'
 | .ok _=>False
 | .error e=>CX outer H s E e s'
structure FnOk (P:Program) (w:World) (K:PySem.W.Frag) (mg:Str→Option Value) (base:Heap) (CX:CXT) (k:Nat) (f:Addr) (fd:FuncData) (ps:List Str) (sp:Sp):Prop where
 len:∀ vs H Q E,sp vs H Q E→vs.length=ps.length
 run:∀ (A:Around) (outer:List Env) (s:Shared) (H:Hp) (args:Args) (us:List Value) (vs:List V) (Q:VK) (E:XK),Room k A→Env0 P w K mg base A outer s H→BindsTo s fd args (ps.zip us)→Vals vs us→sp vs H Q E →
  codeAny (model P w) A (.call (.ref f) args) (CR CX outer P w H s Q E) s
theorem FnOk.mono {P:Program} {w:World} {K:PySem.W.Frag} {mg:Str→Option Value} {base:Heap} {CX:CXT} {j k:Nat} {f:Addr} {fd:FuncData} {ps:List Str} {sp:Sp} (F:FnOk P w K mg base CX j f fd ps sp) (h:j≤k) :
  FnOk P w K mg base CX k f fd ps sp:=⟨F.len,fun A outer s H args us vs Q E hr=>F.run A outer s H args us vs Q E (hr.mono h)⟩
theorem FnOk.imp {P:Program} {w:World} {K:PySem.W.Frag} {mg:Str→Option Value} {base:Heap} {CX:CXT} {k:Nat} {f:Addr} {fd:FuncData} {ps:List Str} {sp sp':Sp} (F:FnOk P w K mg base CX k f fd ps sp)
  (h:∀ vs H Q E,sp' vs H Q E→sp vs H Q E):FnOk P w K mg base CX k f fd ps sp' :=
 ⟨fun vs H Q E q=>F.len vs H Q E (h _ _ _ _ q),fun A outer s H args us vs Q E hr he hb hv hs=>F.run A outer s H args us vs Q E hr he hb hv (h _ _ _ _ hs)⟩
theorem Env0.in1 {P:Program} {w:World} {K:PySem.W.Frag} {mg:Str→Option Value} {base:Heap} {A:Around} {outer:List Env} {s:Shared} {H:Hp} (e:Env0 P w K mg base A outer s H) :
  Env0 P w K mg base A.in1 outer s H:=⟨e.frames,e.mod,e.bs,e.bsz,e.funs,e.frf,e.hok,e.bare⟩
section
variable {X:Cx} {pins:List (Addr×Obj)} {σ:St} {H:Hp} {s s':Shared}
theorem Inv.env0 (I:Inv X pins σ H s):Env0 X.prog X.w X.K X.mg X.base X.A X.stack s H :=
 ⟨I.ok.frames,I.ok.mod,I.bs,Nat.le_trans I.ok.bsz I.sz,I.stack,I.stkFree,I.hok,I.bare⟩
theorem Inv.after {Q:VK} {u:Value} (I:Inv X pins σ H s) (h:CE X.stack X.prog X.w H s Q u s'):EP X pins σ Q u s':=by
 obtain ⟨v,H',os,bare,un,hok,r,q⟩:=h
 obtain ⟨hh,g,d,t,os'⟩:=s'
 obtain rfl:os'=s.os:=os
 exact ⟨v,H',I.call (h':=hh) (g':=g) (d':=d) (t':=t) (ch:=[]) un hok bare (fun b z=>absurd z (by simp)),r,q⟩
end
def Zna (sp:Sp) (dvs:List V) (E:XK) (t:TA):TE:=fun σ H Q=>t σ H fun vs H1=>sp (vs++dvs) H1 Q E
def Binds (K:PySem.W.Frag) (fd:FuncData) (ps:List Str) (ds:List Value):Prop :=
 ∀ (s:Shared) (us:List Value),K.In s.heap→(us++ds).length=ps.length→BindsTo s fd ⟨us,[]⟩ (ps.zip (us++ds))
theorem Binds.all {K:PySem.W.Frag} {fd:FuncData} {ps:List Str} (h:∀ us:List Value,us.length=ps.length→bindArgs fd ⟨us,[]⟩=pure (ps.zip us)):Binds K fd ps []:=fun s us _ hl=>by
 rw [List.append_nil] at hl ⊢
 exact .of_eq (h us hl)
def ZhB (CX:CXT) (X:Cx) (E:XK):Prop:=∀ (pins:List (Addr×Obj)) (σ:St) (H:Hp) (s:Shared) (e:Value) (s':Shared),Inv X pins σ H s→CX X.stack H s E e s'→X.xe e s'
section
variable {X:Cx} {CX:CXT} {k:Nat} {f C:Addr} {fd:FuncData} {ps:List Str} {sp:Sp} {dvs:List V} {ds:List Value} {E:XK} {x m:Str} {p pos apos:Pos} {e o:Expr} {es:List Expr} {ta:TE} {t:TA}
theorem Zp0 {pins:List (Addr×Obj)} {σ:St} {H:Hp} {s:Shared} {Q:VK} {us:List Value} {vs:List V} (F:FnOk X.prog X.w X.K X.mg X.base CX k f fd ps sp) (hr:Room k X.A) (hb:Binds X.K fd ps ds) (hd:Vals dvs ds) (hx:ZhB CX X E)
  (I:Inv X pins σ H s) (r:Vals vs us) (h:sp (vs++dvs) H Q E):wpAny (model X.prog X.w) X.A (call (.ref f) us) (EP X pins σ Q) X.xe s:=by
 have r2:Vals (vs++dvs) (us++ds):=r.append hd
 have hl:(us++ds).length=ps.length:=by rw [← r2.length];exact F.len _ _ _ _ h
 refine wpAny_call (codeAny_mono (F.run X.A X.stack s H ⟨us,[]⟩ (us++ds) (vs++dvs) Q E hr I.env0 (hb s us I.kIn hl) r2 h) fun r s' hq=>?_)
 cases r with
 | error e=>exact hx pins σ H s e s' I hq
 | ok fl =>
  cases fl with
  | ret u=>exact I.after hq
  | next=>exact False.elim hq
  | brk=>exact False.elim hq
  | cont=>exact False.elim hq
theorem ZnU (F:FnOk X.prog X.w X.K X.mg X.base CX k f fd ps sp) (hr:Room k X.A) (hg:Gl X x) (hm:X.mg x=some (.ref f)) (hk:PySem.W.keepIn X.K (.ref f)=true) (hb:Binds X.K fd ps ds) (hd:Vals dvs ds) (hx:ZhB CX X E)
  (ha:PA X (e::es) t) (hdb:(x==("__debug__":Str))=false:=by decide) (he:starEach (e::es) X.env=(false,eval e X.env)::starEach es X.env:=by rfl) (hpl:(backTo pos (starEach es X.env)).any (·.1)=false:=by rfl) :
  PE X (.Call (.Name x p) (e::es) [] pos) (Zna sp dvs E t):=by
 intro pins s σ H Q I h
 refine wpAny_Call_Name_kw (Zfh I hg hm ?_ hdb)
 refine PySem.W.callWith_K (h₀:=X.base) I.ok.mod.kin hk (thn (ha pos pins s σ H _ I h) fun us s1 ⟨vs,H1,I1,r,q⟩=>⟨I1.kIn,?_⟩) he hpl
 exact Zp0 F hr hb hd hx I1 r q
end
section
variable {X:Cx} {CX:CXT} {k:Nat} {f C:Addr} {fd:FuncData} {ps ks:List Str} {sp:Sp} {E:XK} {x m:Str} {p pos apos kpos:Pos} {e o:Expr} {es:List Expr} {kws:List Keyword} {te ta:TE} {t tk:TA} {nm:Option Str}
variable {g:List Value→List Value→List Value} {gV:List V→List V→List V}
end
structure ZI (N P:List Str) (sc:Scope):Prop where
 kind:sc.kind=.function
 co:sc.isCoroutine=false
 gen:sc.isGenerator=false
 nd:N.Nodup
 pre:N.take P.length=P
 par:∀ x∈P,sc.names.lookup x=some .local∨sc.names.lookup x=some .cell
 nofree:∀ y∈sc.names,y.2≠.free
theorem Zip {kindOf:Str→Option NameKind} {x:Str}:∀ {binds:List (Str×Value)} {m:Str→Option Value},(∀ v,(x,v)∉binds)→bindL kindOf binds m x=m x
 | [],_,_=>rfl
 | (n,v)::r,m,h=>by
  unfold bindL
  rw [Zip fun w hw=>h w (List.mem_cons_of_mem _ hw)]
  split
  ·have:x≠n:=by rintro rfl;exact h v List.mem_cons_self
   simp [this]
  ·rfl
theorem Zim {kindOf:Str→Option NameKind} {x:Str}:∀ {binds:List (Str×Value)} {m:Str→Option Value},(∀ v,(x,v)∉binds)→bindC kindOf binds m x=m x
 | [],_,_=>rfl
 | (n,v)::r,m,h=>by
  unfold bindC
  rw [Zim fun w hw=>h w (List.mem_cons_of_mem _ hw)]
  split
  ·rfl
  ·have:x≠n:=by rintro rfl;exact h v List.mem_cons_self
   simp [this]
theorem Zij {kindOf:Str→Option NameKind} {x:Str} {v:Value}:∀ {P:List Str} {vs:List Value} {i:Nat} {m:Str→Option Value},P.Nodup→P[i]?=some x→vs[i]?=some v→kindOf x=some .local →
  bindL kindOf (P.zip vs) m x=some v
 | [],_,_,_,_,h,_,_=>by simp at h
 | _::_,[],_,_,_,_,h,_=>by simp at h
 | p::P,w::vs,0,m,nd,h1,h2,hk=>by
  simp at h1 h2;subst h1;subst h2
  show bindL kindOf ((p,w)::P.zip vs) m p=_
  unfold bindL
  rw [Zip fun v hv=>(List.nodup_cons.mp nd).1 (List.of_mem_zip hv).1,if_pos hk]
  simp
 | p::P,w::vs,i+1,m,nd,h1,h2,hk=>by
  show bindL kindOf ((p,w)::P.zip vs) m x=_
  unfold bindL
  exact Zij (i:=i) (List.nodup_cons.mp nd).2 (by simpa using h1) (by simpa using h2) hk
theorem Ziw {kindOf:Str→Option NameKind} {x:Str} {v:Value}:∀ {P:List Str} {vs:List Value} {i:Nat} {m:Str→Option Value},P.Nodup→P[i]?=some x→vs[i]?=some v→kindOf x≠some .local →
  bindC kindOf (P.zip vs) m x=some v
 | [],_,_,_,_,h,_,_=>by simp at h
 | _::_,[],_,_,_,_,h,_=>by simp at h
 | p::P,w::vs,0,m,nd,h1,h2,hk=>by
  simp at h1 h2;subst h1;subst h2
  show bindC kindOf ((p,w)::P.zip vs) m p=_
  unfold bindC
  rw [Zim fun v hv=>(List.nodup_cons.mp nd).1 (List.of_mem_zip hv).1,if_neg hk]
  simp
 | p::P,w::vs,i+1,m,nd,h1,h2,hk=>by
  show bindC kindOf ((p,w)::P.zip vs) m x=_
  unfold bindC
  exact Ziw (i:=i) (List.nodup_cons.mp nd).2 (by simpa using h1) (by simpa using h2) hk
def Zcf (N:List Str) (vs:List V):St:=vs.map some++List.replicate (N.length-vs.length) none
def ZeZ (CX:CXT) (P:Program) (w:World) (K:PySem.W.Frag) (mg:Str→Option Value) (base:Heap) (N:List Str) (qual:Str) (scope:Scope) (f:Addr) (cd:Value) (A:Around) (outer:List Env) (s:Shared) (H:Hp) (E:XK):Cx where
 prog:=P
 w:=w
 K:=K
 mg:=mg
 base:=base
 A:=A.deeper (envOfC qual scope s.heap.objs.size f cd)
 N:=N
 s₀:=s
 H₀:=H
 env:=envOfC qual scope s.heap.objs.size f cd
 outer:=outer
 stack:=envOfC qual scope s.heap.objs.size f cd::outer
 ex:=[]
 calm:=true
 fn:=fun _=>true
 pn:=[]
 xe:=fun e s'=>wpAny (model P w) (A.deeper (envOfC qual scope s.heap.objs.size f cd)) (leaving (envOfC qual scope s.heap.objs.size f cd) e) (fun _ s''=>CX outer H s E e s'') (fun e' s''=>CX outer H s E e' s'') s'
theorem ZjB {sc:Scope} {n:Nat} {x:Str} (h:sc.names.lookup x=some .cell):∃ c,(cellsFrom n sc.names []).lookup x=some c:=by
 have q:=PySem.W.cellsFrom_some sc.names n [] (.inl h)
 exact Option.isSome_iff_exists.mp q
theorem ZlU {CX:CXT} {P:Program} {w:World} {K:PySem.W.Frag} {mg:Str→Option Value} {base:Heap} {N ps:List Str} {qual:Str} {scope:Scope} {f:Addr} {cd:Value} {A:Around} {outer:List Env} {s s1:Shared} {H:Hp} {E:XK} {us:List Value} {vs:List V}
  (S:ZI N ps scope) (hd:A.handled=none) (e0:Env0 P w K mg base A outer s H) (hl:vs.length=ps.length) (r:Vals vs us)
  (x:InCallC s s.heap.objs.size (bindL (envOfC qual scope s.heap.objs.size f cd).kindOf (ps.zip us) fun _=>none) (cellsFrom (s.heap.objs.size+1) scope.names []) (bindC (envOfC qual scope s.heap.objs.size f cd).kindOf (ps.zip us) fun _=>none) s1) :
  Inv (ZeZ CX P w K mg base N qual scope f cd A outer s H E) [] (Zcf N vs) H s1:=by
 have hpl:ps.length≤N.length:=by have:=congrArg List.length S.pre;rw [List.length_take] at this;omega
 obtain ⟨h1,tk,rfl,hk⟩:=x.done
 have noA:∀ b:Addr,b∉(ZeZ CX P w K mg base N qual scope f cd A outer s H E).ex:=fun b z=>absurd (show b∈([]:List Addr) from z) (by simp)
 refine ⟨⟨e0.mod,S.kind,rfl,rfl,Nat.le_refl _,fun y z c h1 h2=>?_,fun y hy=>?_,fun y c _ h=>?_,fun _=>hd,Around.frames_deeper e0.frames,.inr ⟨rfl,rfl⟩,fun b z=>absurd z (noA b),e0.bs,e0.bsz,fun b _ _=>noA b,fun b z=>absurd z (noA b),e0.funs,e0.frf⟩,
  rfl,e0.bare,Un.kept hk,⟨_,x.toInCall.ns,fun i y v h1 h2 h3=>?_⟩,fun y c h=>⟨_,x.cell y c h⟩,e0.hok.fresh (Nat.le_refl _),fun y c h=>?_,fun p hp=>absurd (show p∈([]:List (Addr×Obj)) from hp) (by simp),e0.hok.kept hk,?_⟩
 ·exact name_of_addr x.apart (PySem.mem_of_lookup h1) (PySem.mem_of_lookup h2)
 ·have hy:scope.names.lookup y=some .cell∨scope.names.lookup y=some .free:=hy
  rcases hy with hy | hy
  ·exact ZjB hy
  ·exact absurd rfl (S.nofree _ (PySem.mem_of_lookup hy))
 ·exact Nat.le_of_lt (x.above y c (PySem.mem_of_lookup h))
 ·have hi:i<vs.length:=by
   unfold Zcf at h2
   by_cases hi:i<vs.length
   ·exact hi
   ·rw [List.getElem?_append_right (by simpa using hi)] at h2
    rw [List.getElem?_replicate] at h2
    split at h2<;>cases h2
  have ha:vs[i]?=some v:=by
   unfold Zcf at h2
   rw [List.getElem?_append_left (by simpa using hi),List.getElem?_map] at h2
   cases e:vs[i]? with
   | none=>rw [e] at h2;cases h2
   | some a=>rw [e] at h2;cases h2;rfl
  obtain ⟨u,hu,rv⟩:=r.get ha
  have hp:ps[i]?=some y:=by
   rw [← S.pre,List.getElem?_take_of_lt (by omega)];exact h1
  have ndP:ps.Nodup:=by rw [← S.pre];exact S.nd.sublist (List.take_sublist _ _)
  refine ⟨u,rv,?_⟩
  rcases S.par y (List.mem_of_getElem? hp) with k | k
  ·exact .inl ⟨k,Zij ndP hp hu k⟩
  ·obtain ⟨c,e⟩:=ZjB (n:=s.heap.objs.size+1) k
   refine .inr ⟨.inl k,c,e,?_⟩
   have q:=x.cell y c e
   rw [Ziw ndP hp hu (by show scope.names.lookup y≠_;rw [k];decide)] at q
   exact q
 ·exact e0.hok.fresh (Nat.le_of_lt (x.above y c (PySem.mem_of_lookup h)))
 ·unfold Zcf
  show _=N.length
  rw [List.length_append,List.length_map,List.length_replicate]
  omega
theorem Znq {CX:CXT} {P:Program} {w:World} {K:PySem.W.Frag} {mg:Str→Option Value} {base:Heap} {k:Nat} {f:Addr} {name qual:Str} {params:Arguments} {body:List Stmt} {scope:Scope} {dV kV doc pm cdv ct oc:Value} {an od:Option Addr}
  {osl:Array (Option Value)} {N ps:List Str} {sp:Sp} (lk:K.lookup f=some ⟨oc,od,.func (PySem.W.fnOf name qual params body scope dV kV doc pm an cdv ct),osl⟩) (hcd:PySem.W.codeIn K cdv qual=true) (S:ZI N ps scope)
  (len:∀ vs H Q E,sp vs H Q E→vs.length=ps.length)
  (hbody:∀ (A:Around) (outer:List Env) (s:Shared) (H:Hp) (vs:List V) (Q:VK) (E:XK),Room k (A.deeper (envOfC qual scope s.heap.objs.size f cdv))→sp vs H Q E →
   ∃ t,PSs (ZeZ CX P w K mg base N qual scope f cdv A outer s H E) body t∧t { nx:=fun _ H'=>Q .non H',rt:=Q } (Zcf N vs) H) :
  FnOk P w K mg base CX (k+1) f (PySem.W.fnOf name qual params body scope dV kV doc pm an cdv ct) ps sp:=by
 refine ⟨len,fun A outer s H args us vs Q E hr e0 hb r hsp=>?_⟩
 have hl:=len _ _ _ _ hsp
 have KX:K.In s.heap:=e0.mod.kin.keeps fun b o e=>(e0.bs b o e).1
 have lim:s.heap.NoLimit:=e0.mod.nolimit.keeps fun b o e=>(e0.bs b o e).1
 have hkind:∀ y∈ps.zip us,scope.names.lookup y.1=some .local∨(scope.names.lookup y.1=some .cell∧((cellsFrom (s.heap.objs.size+1) scope.names []).lookup y.1).isSome=true):=fun ⟨n,v⟩ hy=>by
  rcases S.par n (List.of_mem_zip hy).1 with q | q
  ·exact .inl q
  ·exact .inr ⟨q,PySem.W.cellsFrom_some _ _ _ (.inl q)⟩
 refine codeAny_call_function hr.depth (KX _ _ lk) rfl S.co S.gen rfl (PySem.W.codeRec_of KX hcd) (hb _ _ _ _ ?_)
 refine wpAny_newFunctionEnv_cells S.kind hkind fun env he s1 x=>?_
 subst he
 refine ⟨lim.keeps x.toInCall.keep,codeAny_func ?_⟩
 obtain ⟨t,ht,hq⟩:=hbody A outer s H vs Q E (hr.deeper _) hsp
 have I:Inv (ZeZ CX P w K mg base N qual scope f cdv A outer s H E) [] (Zcf N vs) H s1:=ZlU S hr.hd e0 hl r x
 refine wpAny_mono (ht [] s1 (Zcf N vs) H _ I hq) (fun fl s' hs=>?_) fun e s' hs=>hs
 have fin:∀ {σ':St} {H':Hp} {v:V} {u:Value},Inv (ZeZ CX P w K mg base N qual scope f cdv A outer s H E) [] σ' H' s'→RelV v u→Q v H'→CE outer P w H s Q u s' :=
  fun {σ' H' v u} J rv q=>⟨v,H',J.os,J.bare,J.base,J.hok,rv,q⟩
 cases fl with
 | ret u =>
  obtain ⟨v,σ',H',J,rv,q⟩:=hs
  exact fin J rv q
 | next =>
  obtain ⟨σ',H',J,q⟩:=hs
  exact fin (v:=V.non) (u:=Value.none) J rfl q
 | brk =>
  obtain ⟨_,_,_,q⟩:=hs
  exact False.elim q
 | cont =>
  obtain ⟨_,_,_,q⟩:=hs
  exact False.elim q
end L2
namespace L2
open PySem PySem.Spec PyProof.Rows
section
variable {X:Cx} {x:Str} {p pos:Pos} {e:Expr} {es:List Expr} {t:TA} {id T:String} {r:List V→Hp→VK→Prop}
def tCB (r:List V→Hp→VK→Prop) (t:TA):TE:=fun σ H Q=>t σ H fun vs H1=>r vs H1 Q
theorem Zg9 (hc:CallR X (.builtin id) r) (hg:Gl X x) (hm:X.mg x=none) (hv:bootBuiltins x=some (.builtin id)) (ha:PA X (e::es) t) (hn:x≠"__name__":=by decide) (hdb:(x==("__debug__":Str))=false:=by decide)
  (he:starEach (e::es) X.env=(false,eval e X.env)::starEach es X.env:=by rfl) (hpl:(backTo pos (starEach es X.env)).any (·.1)=false:=by rfl):PE X (.Call (.Name x p) (e::es) [] pos) (tCB r t):=by
 intro pins s σ H Q I h
 refine wpAny_Call_Name_kw (Ze7 I hg hm hv ?_ hn hdb)
 exact PyProof.Rows.callWith_builtin1 (thn (ha pos pins s σ H _ I h) fun us s1 ⟨vs,H1,I1,r1,q1⟩=>hc pins s1 σ H1 vs us Q I1 r1 q1) he hpl
theorem ZlO (hc:CallR X (.type T) r) (hg:Gl X x) (hm:X.mg x=none) (hv:bootBuiltins x=some (.type T)) (ha:PA X (e::es) t) (hn:x≠"__name__":=by decide) (hdb:(x==("__debug__":Str))=false:=by decide)
  (he:starEach (e::es) X.env=(false,eval e X.env)::starEach es X.env:=by rfl) (hpl:(backTo pos (starEach es X.env)).any (·.1)=false:=by rfl):PE X (.Call (.Name x p) (e::es) [] pos) (tCB r t):=by
 intro pins s σ H Q I h
 refine wpAny_Call_Name_kw (Ze7 I hg hm hv ?_ hn hdb)
 exact PyProof.Rows.callWith_type1 (thn (ha pos pins s σ H _ I h) fun us s1 ⟨vs,H1,I1,r1,q1⟩=>hc pins s1 σ H1 vs us Q I1 r1 q1) he hpl
end
end L2
namespace HT
open PySem PyProof.Rows
theorem rcLt_int (A:Around) (s:Shared) (a:Int) (t:Tok) (c:Int) (u:Tok) (prog:Program) (w:World) (E:Value→Shared→Prop) (Q:Value→Shared→Prop) (h:Q (.bool (decide (a<c))) s) :
  wpAny (model prog w) A (richCompare .Lt (.int a t) (.int c u)) Q E s :=
 (PyProof.Rows.lt_int h:wpAny (model prog w) A (compareOp .Lt (.int a t) (.int c u)) Q E s)
section
open PySem.SeqAt
open PySem.AutoSeq1 (wpAny_loadPart')
open PySem.MeetsSeq PySem.MeetsSeq2 PySem.MeetsSeq3
end
section
variable {prog:Program} {w:World} {A:Around} {E:Value→Shared→Prop} {s:Shared}
def sIx (n d:Nat):Option Int→Nat
 | none=>d
 | some v=>if v<0 then (v+(n:Int)).toNat else min v.toNat n
theorem Zpk (n d:Nat) (hd:d≤n) (o:Option Int):sIx n d o≤n:=by
 cases o with
 | none=>exact hd
 | some v =>
  show (if v<0 then (v+(n:Int)).toNat else min v.toNat n)≤n
  by_cases hv:v<0
  ·rw [if_pos hv];omega
  ·rw [if_neg hv];exact Nat.min_le_right _ _
theorem Zkm (v:Int) (n d:Nat):(if v<0 then max (v+(n:Int)) 0 else min v (n:Int))=((sIx n d (some v):Nat):Int):=by
 show (if v<0 then max (v+(n:Int)) 0 else min v (n:Int))=(((if v<0 then (v+(n:Int)).toNat else min v.toNat n):Nat):Int)
 by_cases hv:v<0
 ·simp only [if_pos hv];omega
 ·simp only [if_neg hv];omega
theorem Zks (lo hi:Option Int) (n:Nat):Builtin.Slice.sliceAdjust lo hi 1 (n:Int)=(((sIx n 0 lo:Nat):Int),((sIx n n hi:Nat):Int)):=by
 have h1:¬ ((1:Int)<0):=by omega
 unfold Builtin.Slice.sliceAdjust
 simp only [h1,if_false]
 refine Prod.ext ?_ ?_
 ·cases lo with
  | none=>rfl
  | some v=>exact Zkm v n 0
 ·cases hi with
  | none=>rfl
  | some v=>exact Zkm v n n
theorem Zkw (i j:Nat):Builtin.Slice.slicePlaces (i:Int) (j:Int) 1=j-i:=by
 unfold Builtin.Slice.slicePlaces
 have h1:(1:Int) > 0:=by omega
 simp only [h1,if_true,Int.ediv_one]
 split<;>omega
theorem ZhC {v:Value} {o:Option Int} {Q:Option Int→Shared→Prop} (p:IsPart v o) (h:Q o s):wpAny (model prog w) A (Builtin.Slice.slicePartIndex v) Q E s:=by
 cases p with
 | none=>exact slicePart_none h
 | int i t=>exact slicePart_int h
theorem sliceApplied_gen {sl:Addr} {vl vu:Value} {lo hi:Option Int} {n:Nat} {Q:Int×Int×Nat→Shared→Prop} (hs:s.heap.IsSliceOf sl vl vu .none) (pl:IsPart vl lo) (pu:IsPart vu hi)
  (h:Q (((sIx n 0 lo:Nat):Int),1,sIx n n hi-sIx n 0 lo) s):wpAny (model prog w) A (Builtin.Slice.sliceApplied (.ref sl) (pure (n:Int))) Q E s:=by
 obtain ⟨os,hos,hcs,hds⟩:=id hs
 unfold Builtin.Slice.sliceApplied Builtin.Slice.sliceFields
 refine wpAny_bind (wpAny_bind (wpAny_field hos hds (x:=vl) rfl (wpAny_bind (wpAny_field hos hds (x:=vu) rfl (wpAny_bind (wpAny_field hos hds (x:=.none) rfl (wpAny_pure ?_)))))))
 refine wpAny_bind (slicePart_none ?_)
 show wpAny _ _ (if ((1:Int)==0)=true then _ else _) _ _ s
 rw [if_neg (by decide)]
 refine wpAny_bind (ZhC pl (wpAny_bind (ZhC pu (wpAny_bind (wpAny_pure ?_)))))
 show wpAny _ _ (match Builtin.Slice.sliceAdjust lo hi 1 (n:Int) with | (lo,hi)=>pure (lo,(1:Int),Builtin.Slice.slicePlaces lo hi 1)) _ _ s
 rw [Zks lo hi n]
 show wpAny _ _ (pure (((sIx n 0 lo:Nat):Int),(1:Int),Builtin.Slice.slicePlaces ((sIx n 0 lo:Nat):Int) ((sIx n n hi:Nat):Int) 1)) _ _ s
 rw [Zkw]
 exact wpAny_pure h
theorem ZmM (xs:Array Value) (i k:Nat):((List.range k).filterMap fun (m:Nat)=>xs[((i:Int)+(m:Int) * 1).toNat]?).toArray=((xs.toList.drop i).take k).toArray:=by
 have e:(fun (m:Nat)=>xs[((i:Int)+(m:Int) * 1).toNat]?)=fun m=>xs[i+m]?:=by
  funext m
  have:((i:Int)+(m:Int) * 1).toNat=i+m:=by omega
  rw [this]
 rw [e]
 have:=pick_run xs i k
 rw [List.filterMap_map] at this
 have e2:((fun x=>xs[x]?)∘fun x=>i+x)=fun m=>xs[i+m]?:=rfl
 rw [e2] at this
 rw [this]
theorem getItem_tuple_cut {t sl:Addr} {items:Array Value} {vl vu:Value} {lo hi:Option Int} {Q:Value→Shared→Prop} (ht:IsTup s.heap t items) (hs:s.heap.IsSliceOf sl vl vu .none) (pl:IsPart vl lo) (pu:IsPart vu hi)
  (hw:¬ (sIx items.size 0 lo=0∧sIx items.size items.size hi=items.size))
  (h:Q (.ref s.heap.objs.size) { s with heap:=s.heap.push { cls:=.type "tuple",data:=.seq ((items.toList.drop (sIx items.size 0 lo)).take (sIx items.size items.size hi-sIx items.size 0 lo)).toArray } })
  (hsz:items.size≤sizeLine):wpAny (model prog w) A (getItem (.ref t) (.ref sl)) Q E s:=by
 have htake:sizeOk (.seq ((items.toList.drop (sIx items.size 0 lo)).take (sIx items.size items.size hi-sIx items.size 0 lo)).toArray):=by
  show ((items.toList.drop (sIx items.size 0 lo)).take (sIx items.size items.size hi-sIx items.size 0 lo)).toArray.size≤sizeLine
  rw [List.size_toArray,List.length_take,List.length_drop,Array.length_toList]
  omega
 have hj:sIx items.size items.size hi≤items.size:=Zpk _ _ (Nat.le_refl _) hi
 obtain ⟨os,hos,hcs,hds⟩:=id hs
 have hTs:s.TypeIs (.ref sl) "slice":=⟨os,hos,hcs⟩
 unfold getItem
 try with_reducible refine wpAny_holding ?_
 first | refine wpAny_bind (wpAny_pure ?_) | skip
 refine wpAny_bind (wpAny_sequenceKey ht.typeIs (by decide) ?_)
 refine wpAny_bind (wpAny_callSpecial?_slot (name:=Str.ofString "__getitem__") ht.typeIs PyProof.Rows.slot_tuple_getitem
  (wpAny_call_entry PyProof.Rows.slot_tuple_getitem ht.typeIs entry_tuple_getitem ?_ (args_tuple_getitem _ _)))
 show wpAny _ _ (Builtin.Tuple.tupleItemsOf (.ref t) >>= _) _ _ s
 refine wpAny_bind (tupleItemsOf_ ht ?_)
 refine wpAny_bind (wpAny_typeOf hTs ?_)
 rw [if_pos (by decide)]
 refine wpAny_bind (sliceApplied_gen hs pl pu ?_)
 have hno:¬ ((((sIx items.size 0 lo:Nat):Int)==0&&(1:Int)==1&&(sIx items.size items.size hi-sIx items.size 0 lo)==items.size)=true):=by
  intro q
  rw [Bool.and_eq_true,Bool.and_eq_true] at q
  have q1:((sIx items.size 0 lo:Nat):Int)=0:=eq_of_beq q.1.1
  have q2:sIx items.size items.size hi-sIx items.size 0 lo=items.size:=eq_of_beq q.2
  exact hw ⟨by omega,by omega⟩
 show wpAny _ _ (if (((sIx items.size 0 lo:Nat):Int)==0&&(1:Int)==1&&(sIx items.size items.size hi-sIx items.size 0 lo)==items.size)=true then _ else _) _ _ s
 rw [if_neg hno,ZmM]
 first
  | exact wpAny_bind (m:=Builtin.Tuple.tupleExact _) (wpAny_newObj_type (wpAny_pure ⟨_,rfl,wpAny_pure h⟩) htake)
  | exact wpAny_bind (m:=Builtin.Tuple.tupleExact _) (wpAny_newObj_type (wpAny_bind (wpAny_pure (wpAny_pure ⟨_,rfl,wpAny_pure h⟩))) htake)
  | exact wpAny_bind (wpAny_bind (m:=Builtin.Tuple.tupleExact _) (wpAny_newObj_type (wpAny_pure (wpAny_pure ⟨_,rfl,wpAny_pure h⟩)) htake))
  | exact wpAny_bind (wpAny_bind (m:=Builtin.Tuple.tupleExact _) (wpAny_newObj_type (wpAny_pure ⟨_,rfl,wpAny_pure h⟩) htake))
end
end HT
namespace L2
open PySem PySem.Spec PyProof.Rows
abbrev TO:=St→Hp→(Option Int→Hp→Prop)→Prop
def PO (X:Cx) (e:Option Expr) (t:TO):Prop :=
 ∀ (pins:List (Addr×Obj)) (s:Shared) (σ:St) (H:Hp) (Q:Option Int→Hp→Prop),Inv X pins σ H s→t σ H Q →
  wpAny (model X.prog X.w) X.A (evalPart e X.env) (fun u s'=>∃ o H',Inv X pins σ H' s'∧IsPart u o∧Q o H') X.xe s
def ZnV:TO:=fun _ H Q=>Q none H
def Zqm (t:TE):TO:=fun σ H Q=>t σ H fun x H1=>∃ i,x=.int i∧Q (some i) H1
section
variable {X:Cx} {e:Expr} {te:TE} {lo hi:Option Expr} {tl th:TO} {pos p2:Pos}
theorem ZnA:PO X none ZnV:=by
 intro pins s σ H Q I h
 rw [evalPart_none]
 exact wpAny_pure ⟨none,H,I,.none,h⟩
theorem Zoa (h:PE X e te):PO X (some e) (Zqm te):=by
 intro pins s σ H Q I hw
 rw [evalPart_some]
 refine thn (h pins s σ H _ I hw) fun u s1 ⟨x,H1,I1,r1,q1⟩=>?_
 obtain ⟨i,rfl,q⟩:=q1
 obtain ⟨t,rfl⟩:=r1
 exact ⟨some i,H1,I1,.int i t,q⟩
def SlR (X:Cx) (r:V→Option Int→Option Int→Hp→VK→Prop):Prop :=
 ∀ (pins:List (Addr×Obj)) (s:Shared) (σ:St) (H:Hp) (x:V) (v vl vu:Value) (lo hi:Option Int) (sl:Addr) (Q:VK),Inv X pins σ H s→RelV x v→s.heap.IsSliceOf sl vl vu .none→IsPart vl lo→IsPart vu hi→r x lo hi H Q →
  ∃ T id,typeLookup (.type T) "__getitem__"=pure (some (.builtin id))∧s.TypeIs v T∧wpAny (model X.prog X.w) X.A (getItem v (.ref sl)) (EP X pins σ Q) X.xe s
theorem SlR.or {r r':V→Option Int→Option Int→Hp→VK→Prop} (h:SlR X r) (h':SlR X r'):SlR X (fun x lo hi H Q=>r x lo hi H Q∨r' x lo hi H Q):=by
 intro pins s σ H x v vl vu lo hi sl Q I rx hs pl pu q
 rcases q with q | q
 ·exact h pins s σ H x v vl vu lo hi sl Q I rx hs pl pu q
 ·exact h' pins s σ H x v vl vu lo hi sl Q I rx hs pl pu q
def tSl (r:V→Option Int→Option Int→Hp→VK→Prop) (te:TE) (tl th:TO):TE:=fun σ H Q=>te σ H fun x H1=>tl σ H1 fun l H2=>th σ H2 fun u H3=>r x l u H3 Q
theorem Zm5 {r:V→Option Int→Option Int→Hp→VK→Prop} (hr:SlR X r) (he:PE X e te) (hl:PO X lo tl) (hu:PO X hi th):PE X (.Subscript e (.Slice lo hi none p2) pos) (tSl r te tl th):=by
 intro pins s σ H Q I h
 refine Subscript_ (thn (he pins s σ H _ I h) fun v s1 ⟨x,H1,I1,r1,q1⟩=>?_)
 refine wpAny_Slice (thn (hl pins s1 σ H1 _ I1 q1) fun vl s2 ⟨l,H2,I2,pl,q2⟩=>thn (hu pins s2 σ H2 _ I2 q2) fun vu s3 ⟨u,H3,I3,pu,q3⟩=>?_)
 rw [evalPart_none]
 refine wpAny_pure ?_
 have I4:Inv X pins σ H3 { s3 with heap:=s3.heap.push { cls:=.type "slice",data:=.fields #[vl,vu,.none] } }:=I3.kept (t':=s3.toks) fun b ob q=>Heap.get?_push_of_some _ q
 obtain ⟨T,id,hT,ht,hg⟩:=hr pins { s3 with heap:=s3.heap.push { cls:=.type "slice",data:=.fields #[vl,vu,.none] } } σ H3 x v vl vu l u s3.heap.objs.size Q I4 r1 (Heap.IsSliceOf.new ..) pl pu q3
 show wpAny (model X.prog X.w) X.A (subscriptTail e (.Slice lo hi none p2) v (.ref s3.heap.objs.size)) (EP X pins σ Q) X.xe { s3 with heap:=s3.heap.push { cls:=.type "slice",data:=.fields #[vl,vu,.none] } }
 exact tail_any (ops:=[.ref s3.heap.objs.size,v]) ht hT hg (by with_unfolding_all rfl)
def ZeA (xs:List V) (lo hi:Option Int):List V:=(xs.drop (HT.sIx xs.length 0 lo)).take (HT.sIx xs.length xs.length hi-HT.sIx xs.length 0 lo)
theorem ZgP (xs:List V) (lo hi:Option Int):(ZeA xs lo hi).length≤xs.length:=by
 unfold ZeA
 rw [List.length_take,List.length_drop]
 omega
def ZqZ (K:PySem.W.Frag):V→Option Int→Option Int→Hp→VK→Prop:=fun x lo hi H Q=>∃ a xs,x=.ref a∧SqT K H a xs ∧
 ¬ (HT.sIx xs.length 0 lo=0∧HT.sIx xs.length xs.length hi=xs.length)∧∀ p,H p=none→Q (.ref p) (upd H p (.tup (ZeA xs lo hi)))
theorem Zoz:SlR X (ZqZ X.K):=by
 intro pins s σ H x v vl vu lo hi sl Q I rx hs pl pu h
 obtain ⟨a,xs,rfl,hx,hw,q⟩:=h
 cases rx
 obtain ⟨its,r,ht,hz⟩:=I.tuple hx
 have hlen:its.toArray.size=xs.length:=by rw [List.size_toArray];exact r.length.symm
 refine ⟨"tuple",_,PyProof.Rows.slot_tuple_getitem.lookup,ht.typeIs,?_⟩
 refine HT.getItem_tuple_cut ht hs pl pu (by rw [hlen];exact hw) ?_ (by rw [hlen];exact hz)
 rw [hlen]
 refine ⟨.ref s.heap.objs.size,_,I.laid (t':=s.toks) (o:=.tup (ZeA xs lo hi)) (fun b ob q=>Heap.get?_push_of_some _ q) (Nat.le_refl _) ?_,rfl,q _ (I.hok.fresh (Nat.le_refl _))⟩
 exact ⟨Nat.le_trans (ZgP xs lo hi) hz,_,(r.drop (HT.sIx xs.length 0 lo)).take (HT.sIx xs.length xs.length hi-HT.sIx xs.length 0 lo),IsTup.new _ _⟩
end
end L2
namespace L2
open PySem PySem.Spec PyProof.Rows
def ixN (n:Nat) (i:Int):Option Nat:=if 0≤i then (if i<n then some i.toNat else none) else if -(n:Int)≤i then some (i+n).toNat else none
def atI {α:Type} (xs:List α) (i:Int):Option α:=(ixN xs.length i).bind fun j=>xs[j]?
theorem Zn5 {n:Nat} {i:Int} {j:Nat} (h:ixN n i=some j):seqIndex? i n=some j∧j<n ∧ -(n:Int)≤i∧i<n:=by
 unfold ixN at h
 by_cases h0:0≤i
 ·rw [if_pos h0] at h
  by_cases h1:i<n
  ·rw [if_pos h1] at h
   have e:i.toNat=j:=Option.some.inj h
   exact ⟨by rw [seqIndex_of h0 h1,e],by omega,by omega,h1⟩
  ·rw [if_neg h1] at h;cases h
 ·rw [if_neg h0] at h
  by_cases h1 : -(n:Int)≤i
  ·rw [if_pos h1] at h
   have e:(i+n).toNat=j:=Option.some.inj h
   exact ⟨by rw [seqIndex_neg (by omega) h1,e],by omega,h1,by omega⟩
  ·rw [if_neg h1] at h;cases h
theorem ZhS {α:Type} {xs:List α} {i:Int} {v:α} (h:atI xs i=some v):∃ j,seqIndex? i xs.length=some j∧xs[j]?=some v∧j<xs.length ∧ -(xs.length:Int)≤i∧i<xs.length:=by
 unfold atI at h
 cases e:ixN xs.length i with
 | none=>rw [e] at h;cases h
 | some j =>
  rw [e] at h
  obtain ⟨h1,h2,h3,h4⟩:=Zn5 e
  exact ⟨j,h1,h,h2,h3,h4⟩
theorem Zfn {α:Type} {xs:List α} {j:Nat} {v:α} (h:xs[j]?=some v):atI xs (j:Int)=some v:=by
 have hj:j<xs.length:=(List.getElem?_eq_some_iff.mp h).1
 have e:ixN xs.length (j:Int)=some j:=by
  unfold ixN
  rw [if_pos (by omega),if_pos (by omega)];simp
 unfold atI;rw [e];exact h
def ZhU (b:Expr):Prop:=∀ o i,subscripted b false o i=operate [o,i] (getItem o i)
def IxR (X:Cx) (r:R2):Prop :=
 ∀ (value slice:Expr) (pins:List (Addr×Obj)) (s:Shared) (σ:St) (H:Hp) (x y:V) (v u:Value) (Q:VK),Inv X pins σ H s→RelV x v→RelV y u→r x y H Q →
  subscripted slice false v u=operate [v,u] (getItem v u)→wpAny (model X.prog X.w) X.A (subscriptTail value slice v u) (EP X pins σ Q) X.xe s
def MtR (X:Cx) (id:String) (r:V→List V→Hp→VK→Prop):Prop :=
 ∀ (pins:List (Addr×Obj)) (s:Shared) (σ:St) (H:Hp) (x:V) (xs:List V) (v:Value) (us:List Value) (Q:VK),Inv X pins σ H s→RelV x v→Vals xs us→r x xs H Q →
  wpAny (model X.prog X.w) X.A (call (.builtin id) (v::us)) (EP X pins σ Q) X.xe s
section
variable {X:Cx} {a b:Expr} {ta tb:TE} {pos:Pos}
theorem IxR.or {r r':R2} (h:IxR X r) (h':IxR X r'):IxR X (fun x y H Q=>r x y H Q∨r' x y H Q):=by
 intro value slice pins s σ H x y v u Q I rx ry q hs
 rcases q with q | q
 ·exact h value slice pins s σ H x y v u Q I rx ry q hs
 ·exact h' value slice pins s σ H x y v u Q I rx ry q hs
theorem MtR.or {id:String} {r r':V→List V→Hp→VK→Prop} (h:MtR X id r) (h':MtR X id r'):MtR X id (fun x xs H Q=>r x xs H Q∨r' x xs H Q):=by
 intro pins s σ H x xs v us Q I rx rs q
 rcases q with q | q
 ·exact h pins s σ H x xs v us Q I rx rs q
 ·exact h' pins s σ H x xs v us Q I rx rs q
theorem Zqp {r:R2} (hr:IxR X r) (ha:PE X a ta) (hb:PE X b tb) (hs:ZhU b):PE X (.Subscript a b pos) (tOp r ta tb):=by
 intro pins s σ H Q I h
 exact Subscript_ (ZmL ha hb I h fun v u s2 x y H2 I2 rx ry q=>hr a b pins s2 σ H2 x y v u Q I2 rx ry q (hs _ _))
def ZpD (K:PySem.W.Frag):R2:=fun x y H Q=>∃ p xs i v,x=.ref p∧y=.int i∧SqL K H p xs∧atI xs i=some v∧Q v H
def ZoQ (K:PySem.W.Frag):R2:=fun x y H Q=>∃ p xs i v,x=.ref p∧y=.int i∧SqT K H p xs∧atI xs i=some v∧Q v H
def Zoo:R2:=fun x y H Q=>∃ z i c,x=.str z∧y=.int i∧z.length≤sizeLine∧atI z.cps.toList i=some c∧Q (.str ⟨#[c]⟩) H
theorem ix_list:IxR X (ZpD X.K):=by
 intro value slice pins s σ H x y v u Q I rx ry h hs
 obtain ⟨p,xs,i,z,rfl,rfl,hq,he,q⟩:=h
 cases rx
 obtain ⟨t,rfl⟩:=ry
 obtain ⟨its,r,pl,hz⟩:=I.list hq
 obtain ⟨j,h1,h2,h3,h4,h5⟩:=ZhS he
 obtain ⟨w,ew,rw'⟩:=r.get h2
 have hl:=r.length
 have hn:=Zgj
 have fin:EP X pins σ Q w s:=⟨z,H,I,rw',q⟩
 by_cases h0:0≤i
 ·have hj:i.toNat=j:=by
   rw [seqIndex_of h0 h5] at h1
   exact Option.some.inj h1
  exact item_listR pl.isList h0 (by omega) (by rw [hj];simpa using ew) fin hs
 ·have hj:(i+(its.toArray.size:Int)).toNat=j:=by
   rw [seqIndex_neg (by omega) h4] at h1
   rw [List.size_toArray,← hl]
   exact Option.some.inj h1
  exact subscriptTail_builtinR (x:=w) pl.isList.typeIs slot_list_getitem.lookup
   (wpAny_getItem_list_neg (Q:=fun r s'=>r=w∧EP X pins σ Q r s') pl.isList (by omega) (by rw [List.size_toArray]<;>omega) (by omega) (by rw [hj];simpa using ew) ⟨rfl,fin⟩) hs
theorem ix_tup:IxR X (ZoQ X.K):=by
 intro value slice pins s σ H x y v u Q I rx ry h hs
 obtain ⟨p,xs,i,z,rfl,rfl,hq,he,q⟩:=h
 cases rx
 obtain ⟨t,rfl⟩:=ry
 obtain ⟨its,r,pl,hz⟩:=I.tuple hq
 obtain ⟨j,h1,h2,h3,h4,h5⟩:=ZhS he
 obtain ⟨w,ew,rw'⟩:=r.get h2
 have hl:=r.length
 have hn:=Zgj
 have fin:EP X pins σ Q w s:=⟨z,H,I,rw',q⟩
 exact subscriptTail_builtinR (x:=w) pl.typeIs slot_tuple_getitem.lookup
  (getItem_tuple (j:=j) (Q:=fun r s'=>r=w∧EP X pins σ Q r s') pl (by omega) (by omega) (by rw [List.size_toArray,← hl];exact h1) (by simpa using ew) ⟨rfl,fin⟩) hs
theorem ZpE:IxR X Zoo:=by
 intro value slice pins s σ H x y v u Q I rx ry h hs
 obtain ⟨z,i,c,rfl,rfl,hz,he,q⟩:=h
 obtain ⟨t,rfl⟩:=rx
 obtain ⟨t',rfl⟩:=ry
 obtain ⟨j,h1,h2,h3,h4,h5⟩:=ZhS he
 have hl:z.cps.toList.length=z.length:=by simp [Str.length]
 rw [hl] at h1 h4 h5
 have hn:=Zgj
 exact tail_any (typeIs_str s z t) slot_str_getitem.lookup (getItem_str (c:=c) (by
  have e1:decide (i < -(2^63:Int))=false:=decide_eq_false (by omega)
  have e2:decide (i≥2^63)=false:=decide_eq_false (by omega)
  rw [e1,e2,Bool.or_false]) (by rw [h1];simpa using h2) ⟨.str ⟨#[c]⟩,H,I.tok _,⟨_,rfl⟩,q⟩) hs
def rIx (K:PySem.W.Frag):R2:=fun x y H Q=>ZpD K x y H Q∨ZoQ K x y H Q∨Zoo x y H Q
theorem ZoK:IxR X (rIx X.K):=ix_list.or (ix_tup.or ZpE)
theorem Inv.lst {pins:List (Addr×Obj)} {σ:St} {H:Hp} {s:Shared} {p:Addr} {xs:List V} (I:Inv X pins σ H s) (h:H p=some (.lst xs)) :
  ∃ (its:List Value) (n:Nat),Vals xs its∧s.heap.get? p=some { cls:=.type "list",data:=.seq its.toArray n }∧xs.length≤sizeLine:=by
 obtain ⟨z,its,n,r,e⟩:=I.hok p _ h
 exact ⟨its,n,r,e,z⟩
theorem Zjr (lo hi:Option Int) (n:Nat):(sliceBounds lo hi none n).1=((HT.sIx n 0 lo:Nat):Int)∧(sliceBounds lo hi none n).2.1=((HT.sIx n n hi:Nat):Int)∧(sliceBounds lo hi none n).2.2=1:=by
 refine ⟨?_,?_,rfl⟩
 ·cases lo with
  | none=>simp [sliceBounds,HT.sIx]
  | some i =>
   simp only [sliceBounds,HT.sIx,Option.getD_none,show (1:Int) > 0 by decide,if_true]
   by_cases h:i<0
   ·simp only [h,if_true]<;>omega
   ·simp only [h,if_false]<;>omega
 ·cases hi with
  | none=>simp [sliceBounds,HT.sIx]
  | some i =>
   simp only [sliceBounds,HT.sIx,Option.getD_none,show (1:Int) > 0 by decide,if_true]
   by_cases h:i<0
   ·simp only [h,if_true]<;>omega
   ·simp only [h,if_false]<;>omega
theorem ZiA (its:List Value) (lo hi:Option Int):slicePick its.toArray lo hi none=((its.drop (HT.sIx its.length 0 lo)).take (HT.sIx its.length its.length hi-HT.sIx its.length 0 lo)).toArray:=by
 obtain ⟨h1,h2,h3⟩:=Zjr lo hi its.toArray.size
 unfold slicePick
 rw [h1,h2,h3]
 simp only [sliceRange_one,pick_run,List.size_toArray]<;>rfl
def Zri (K:PySem.W.Frag):V→Option Int→Option Int→Hp→VK→Prop:=fun x lo hi H Q=>∃ a xs,x=.ref a∧SqL K H a xs∧∀ p,H p=none→Q (.ref p) (upd H p (.lst (ZeA xs lo hi)))
theorem sl_list:SlR X (Zri X.K):=by
 intro pins s σ H x v vl vu lo hi sl Q I rx hs pl pu h
 obtain ⟨a,xs,rfl,hx,q⟩:=h
 cases rx
 obtain ⟨its,r,ht,hz⟩:=I.list hx
 have hlen:=r.length
 refine ⟨"list",_,slot_list_getitem.lookup,ht.isList.typeIs,?_⟩
 refine wpAny_getItem_list_slice ht.isList hs pl pu .none (by simp) ?_ (by rw [List.size_toArray]<;>omega)
 rw [ZiA,← hlen]
 refine ⟨.ref s.heap.objs.size,_,I.laid (t':=s.toks) (o:=.lst (ZeA xs lo hi)) (fun b ob q=>Heap.get?_push_of_some _ q) (Nat.le_refl _) ?_,rfl,q _ (I.hok.fresh (Nat.le_refl _))⟩
 exact ⟨Nat.le_trans (ZgP xs lo hi) hz,_,0,(r.drop (HT.sIx xs.length 0 lo)).take (HT.sIx xs.length xs.length hi-HT.sIx xs.length 0 lo),Heap.get?_push_size _ rfl⟩
theorem CallR.or {f:Value} {r r':List V→Hp→VK→Prop} (h:CallR X f r) (h':CallR X f r'):CallR X f (fun xs H Q=>r xs H Q∨r' xs H Q):=by
 intro pins s σ H xs us Q I rs q
 rcases q with q | q
 ·exact h pins s σ H xs us Q I rs q
 ·exact h' pins s σ H xs us Q I rs q
theorem Zd2:CallR X (.type "tuple") (fun xs H Q=>∃ p ys,xs=[.ref p]∧((SqL X.K H p ys∧∀ l,H l=none→Q (.ref l) (upd H l (.tup ys)))∨(SqT X.K H p ys∧Q (.ref p) H))):=by
 intro pins s σ H xs us Q I r h
 obtain ⟨p,ys,rfl,h⟩:=h
 obtain ⟨u,rfl,rx⟩:=Zep r
 cases rx
 rcases h with ⟨hq,q⟩ | ⟨hq,q⟩
 ·obtain ⟨its,r',pl,hz⟩:=I.list hq
  have hlen:=r'.length
  refine call_tuple_list pl.isList (fun h' kp=>?_) (by simp only [List.size_toArray]<;>omega)
  have I1:Inv X pins σ H { s with heap:=h' }:=I.kept (t':=s.toks) kp
  have I2:Inv X pins σ (upd H h'.objs.size (.tup ys)) { s with heap:=h'.push { cls:=.type "tuple",data:=.seq its.toArray } } :=
   I1.laid (t':=s.toks) (fun b o e=>Heap.get?_push_of_some _ e) (Nat.le_refl _) (show ObjOk X.prog X.w _ _ _ (.tup ys) from ⟨hz,its,r',IsTup.new _ _⟩)
  exact ⟨.ref h'.objs.size,_,I2,rfl,q _ (I1.hok.fresh (Nat.le_refl _))⟩
 ·obtain ⟨its,r',pl,hz⟩:=I.tuple hq
  exact call_tuple_same pl ⟨.ref p,H,I,rfl,q⟩
def tyV (K:PySem.W.Frag) (T:String) (x:V) (H:Hp):Prop:=match x with
 | .str _=>T="str"
 | .int _=>T="int"
 | .ref p=>(T="list"∧∃ xs,SqL K H p xs)∨(T="tuple"∧∃ o,K.lookup p=some o∧o.cls=.type "tuple"∧o.dict=none) ∨
   (T="dict"∧((∃ kvs,H p=some (.dK kvs))∨(∃ kvs,H p=some (.dT kvs))∨∃ ks vs,Rd H p (.dct ks vs)))∨(T="set"∧∃ S n,H p=some (.set S n))
 | _=>False
theorem Zl4 {pins:List (Addr×Obj)} {σ:St} {H:Hp} {s:Shared} {T:String} {x:V} {v:Value} (I:Inv X pins σ H s) (r:RelV x v) (ty:tyV X.K T x H) :
  s.TypeIs v T∧∀ a,v=.ref a→∃ ob,s.heap.get? a=some ob∧ob.dict=none:=by
 cases x with
 | str z =>
  obtain ⟨t,rfl⟩:=r
  cases (show T="str" from ty)
  exact ⟨typeIs_str s z t,fun _ e=>nomatch e⟩
 | int i =>
  obtain ⟨t,rfl⟩:=r
  cases (show T="int" from ty)
  exact ⟨typeIs_int s i t,fun _ e=>nomatch e⟩
 | ref p =>
  cases r
  rcases ty with ⟨rfl,xs,hq⟩ | ⟨rfl,o,hk,hc,hd⟩ | ⟨rfl,hk⟩ | ⟨rfl,S,n,hk⟩
  ·obtain ⟨its,_,pl,_⟩:=I.list hq
   refine ⟨pl.isList.typeIs,fun a e=>?_⟩
   cases e
   obtain ⟨o,n,e,c,hd,_⟩:=pl
   exact ⟨o,e,hd⟩
  ·refine ⟨⟨o,I.kIn p o hk,hc⟩,fun a e=>?_⟩
   cases e
   exact ⟨o,I.kIn _ o hk,hd⟩
  ·have z:∃ o,s.heap.get? p=some o∧o.ExactDict:=by
    rcases hk with ⟨kvs,hk⟩ | ⟨kvs,hk⟩ | ⟨ks,vs,hk⟩
    ·obtain ⟨_,_,_,_,o,_,_,e,ex,_⟩:=I.hok p _ hk
     exact ⟨o,e,ex⟩
    ·obtain ⟨_,_,_,_,o,_,_,e,ex,_⟩:=I.hok p _ hk
     exact ⟨o,e,ex⟩
    ·obtain ⟨_,_,_,o,_,_,e,ex,_⟩:=hk.ok I.hok
     exact ⟨o,e,ex⟩
   obtain ⟨o,e,ex⟩:=z
   refine ⟨⟨o,e,ex.1⟩,fun a e2=>?_⟩
   cases e2
   exact ⟨o,e,ex.2.1⟩
  ·obtain ⟨o,_,_,_,e,ex,_⟩:=I.hok p _ hk
   refine ⟨⟨o,e,ex.1⟩,fun a e2=>?_⟩
   cases e2
   exact ⟨o,e,ex.2.1⟩
 | _=>exact False.elim ty
def Zq0 (K:PySem.W.Frag) (T:String) (r:V→List V→Hp→VK→Prop) (to:TE):TE:=fun σ H Q=>to σ H fun x H1=>tyV K T x H1∧r x [] H1 Q
def tBM (K:PySem.W.Frag) (T:String) (r:V→List V→Hp→VK→Prop) (to:TE) (t:TA):TE:=fun σ H Q=>to σ H fun x H1=>tyV K T x H1∧t σ H1 fun xs H2=>r x xs H2 Q
variable {o e:Expr} {es:List Expr} {to:TE} {t:TA} {name:Str} {apos cpos:Pos} {T id:String} {r:V→List V→Hp→VK→Prop}
theorem Zp4 (pa:PlainAttrs T) (slot:Slot T name id) (hty:typeOf (.builtin id)=pure (.type "method_descriptor")) (hm:MtR X id r) (ho:PE X o to)
  (hbase:attributeBase o name X.env (eval o X.env)=eval o X.env:=by rfl) (hline:(apos.endLine==cpos.line)=true:=by rfl):PE X (.Call (.Attribute o name apos) [] [] cpos) (Zq0 X.K T r to):=by
 intro pins s σ H Q I h
 refine wpAny_Call_method0_late hbase hline (thn (ho pins s σ H _ I h) fun v s1 ⟨x,H1,I1,r1,ty,q1⟩=>?_)
 obtain ⟨h1,h2⟩:=Zl4 I1 r1 ty
 exact ⟨T,id,pa,slot,hty,h1,h2,Calls.callWith_builtin rfl (PySem.evalArgs_none (hm pins s1 σ H1 x [] v [] Q I1 r1 .nil q1))⟩
theorem Znd (pa:PlainAttrs T) (slot:Slot T name id) (hty:typeOf (.builtin id)=pure (.type "method_descriptor")) (hm:MtR X id r) (ho:PE X o to) (ha:PA X (e::es) t)
  (hbase:attributeBase o name X.env (eval o X.env)=eval o X.env:=by rfl)
  (hfew:((backTo cpos (starEach (e::es) X.env)).all (fun x=>!x.1)&&(backToKw cpos (keywordEach [] X.env)).all (fun x=>x.1.isSome)
   && decide ((e::es).length+([]:List Keyword).length+(if ([]:List Keyword).isEmpty then 0 else 1)<30))=true:=by rfl)
  (hline:(apos.endLine==cpos.line)=true:=by rfl) (hs:starEach (e::es) X.env=(false,eval e X.env)::starEach es X.env:=by rfl) (hplain:(backTo cpos (starEach es X.env)).any (·.1)=false:=by rfl) :
  PE X (.Call (.Attribute o name apos) (e::es) [] cpos) (tBM X.K T r to t):=by
 intro pins s σ H Q I h
 refine wpAny_Call_method_late hbase hfew hline rfl (thn (ho pins s σ H _ I h) fun v s1 ⟨x,H1,I1,r1,ty,q1⟩=>?_)
 obtain ⟨h1,h2⟩:=Zl4 I1 r1 ty
 refine ⟨T,id,pa,slot,hty,h1,h2,?_⟩
 have hA:=ha cpos pins s1 σ H1 _ I1 q1
 rw [hs] at hA ⊢
 refine Calls.callWith_builtin (by show (false||(backTo cpos (starEach es X.env)).any (·.1))=false;rw [hplain]<;>rfl) (Calls.evalArgs_plain ?_)
 exact thn hA fun us s2 ⟨vs,H2,I2,r2,q2⟩=>hm pins s2 σ H2 x vs v us Q I2 r1 r2 q2
end
end L2
namespace L2
open PySem PySem.Spec PyProof.Rows
def MtM (X:Cx) (id:String) (r:V→List V→Hp→VK→Prop):Prop :=
 ∀ (pins:List (Addr×Obj)) (s:Shared) (σ:St) (H:Hp) (x:V) (xs:List V) (v:Value) (us:List Value) (Q:VK),Inv X pins σ H s→RelV x v→Vals xs us→r x xs H Q →
  wpAny (model X.prog X.w) X.A (call (.builtin id) (v::us)) (EP X pins σ Q) X.xe s
theorem Vals.one:∀ {x:V} {us:List Value},Vals [x] us→∃ u,us=[u]∧RelV x u
 | _,_,.cons r .nil=>⟨_,rfl,r⟩
theorem Vals.dropLast {xs:List V} {us:List Value} (h:Vals xs us):Vals xs.dropLast us.dropLast:=by
 induction h with
 | nil=>exact .nil
 | cons r t ih =>
  cases t with
  | nil=>exact .nil
  | cons q t'=>exact .cons r ih
theorem Vals.reverse {xs:List V} {us:List Value} (h:Vals xs us):Vals xs.reverse us.reverse:=by
 induction h with
 | nil=>exact .nil
 | cons r t ih=>rw [List.reverse_cons,List.reverse_cons];exact Vals.append ih (.cons r .nil)
theorem Vals.rep {xs:List V} {us:List Value} (h:Vals xs us):∀ k:Nat,Vals (List.replicate k xs).flatten (List.replicate k us).flatten
 | 0=>.nil
 | k+1=>by
  rw [List.replicate_succ,List.replicate_succ,List.flatten_cons,List.flatten_cons]
  exact Vals.append h (Vals.rep h k)
section
variable {X:Cx} {pins:List (Addr×Obj)} {σ:St} {H:Hp} {s:Shared} {l b:Addr} {xs ys zs:List V}
theorem Inv.lset {its its':List Value} {n:Nat} {f:Array Value→Array Value} {t':Nat} (I:Inv X pins σ H s) (hH:H l=some (.lst xs))
  (e:s.heap.get? l=some { cls:=.type "list",data:=.seq its.toArray n }) (hf:f its.toArray=its'.toArray) (hv:Vals ys its') (hz:ys.length≤sizeLine) :
  Inv X pins σ (upd H l (.lst ys)) { s with heap:=s.heap.update l (Obj.mapSeq f),toks:=t' }:=by
 have q:=PySem.IsL.update e f
 rw [hf] at q
 refine I.write (x:=l) (e:=l) (by rw [hH];exact trivial) (.inl rfl) (fun b' u hb hu=>(Heap.get?_update_other s.heap (Obj.mapSeq f) (Ne.symm hb)).trans hu) ⟨_,q⟩ ?_
 exact ⟨hz,its',_,hv,q⟩
theorem Inv.lnew {its:List Value} {t':Nat} (I:Inv X pins σ H s) (hv:Vals ys its) (hz:ys.length≤sizeLine) :
  Inv X pins σ (upd H s.heap.objs.size (.lst ys)) { s with heap:=s.heap.push { cls:=.type "list",data:=.seq its.toArray },toks:=t' } :=
 I.laid (fun _ _ q=>Heap.get?_push_of_some _ q) (Nat.le_refl _) ⟨hz,its,0,hv,Heap.get?_push_size _ rfl⟩
theorem Inv.fresh (I:Inv X pins σ H s):H s.heap.objs.size=none:=I.hok.fresh (Nat.le_refl _)
theorem Inv.lstM (I:Inv X pins σ H s) (hH:H l=some (.lst xs)):xs.length≤sizeLine∧∃ (its:List Value) (n:Nat),Vals xs its∧xs.length=its.length∧s.heap.get? l=some { cls:=.type "list",data:=.seq its.toArray n }:=by
 obtain ⟨z,its,n,r,e⟩:=I.hok l _ hH
 exact ⟨z,its,n,r,r.length,e⟩
end
section
variable {X:Cx}
def Zns:V→List V→Hp→VK→Prop:=fun x vs H Q=>∃ l xs y,x=.ref l∧vs=[y]∧H l=some (.lst xs)∧xs.length<sizeLine∧Q .non (upd H l (.lst (xs++[y])))
theorem ZlY:MtM X "list.append" Zns:=by
 intro pins s σ H x vs v us Q I rx rv h
 obtain ⟨l,xs,y,rfl,rfl,hH,hz,q⟩:=h
 cases rx
 obtain ⟨u,rfl,ru⟩:=rv.one
 obtain ⟨z,its,n,r,hl,e⟩:=I.lstM hH
 refine call_meets F.slot_list_append ⟨_,e,rfl⟩ F.entry_list_append (F.args_list_append_2 _ _) (PySem.list_append l its.toArray n u (by rw [List.size_toArray];omega)) ⟨e,?_⟩
 refine ⟨.non,_,I.lset (its':=its++[u]) hH e (by simp) (r.append (.cons ru .nil)) ?_,rfl,q⟩
 rw [List.length_append,List.length_singleton]
 omega
end
section
variable {prog:Program} {w:World} {A:Around} {E:Value→Shared→Prop} {s:Shared}
set_option maxRecDepth 100000 in
end
section
variable {X:Cx}
end
end L2
namespace Att
open PySem PySem.W PySem.Calls PyProof.Rows
theorem ZhG {P:Params} {h:Heap}:∀ (ns:List Int) (vs:List Value),WellAll P h vs (ns.map WData.int)→IntsAre vs ns:=by
 intro ns
 induction ns with
 | nil =>
  intro vs w
  rw [List.map_nil] at w
  cases w
  exact .nil
 | cons n ns ih =>
  intro vs w
  rw [List.map_cons] at w
  cases w with
  | cons a b =>
   cases a
   exact .cons _ _ (ih _ b)
theorem Zli {l:OpenLaw} {n:Nat} (hn:l.most=some n) {P:Params} {h:Heap} {args:List WData} {ZP:List Value}
  (hpre:l.row.toRowW.claim.pre args=true) (hwl:WellAll P h ZP args) :
  ∃ a vs ns,ZP=[Value.ref a]∧args=[WData.list (ns.map WData.int)]∧h.get? a=some { cls:=.type "list",data:=.seq vs.toArray }∧IntsAre vs ns∧ns.length≤n:=by
 have hsh:WShape.hasAll [] args [.list .int]=true:=(pre_splitW hpre).1
 have hc:l.pre.holds [] { args:=args }=true:=(pre_splitW hpre).2
 obtain ⟨d,r,rfl,h1,h2⟩:=hasAllW_cons hsh
 obtain rfl:=hasAllW_nil h2
 obtain ⟨xs,rfl,h3⟩:=hasW_list h1
 obtain ⟨ns,rfl⟩:=items_int h3
 have hlen:ns.length≤n:=by
  unfold OpenLaw.pre at hc
  have h4:(WTm.not (.lt (.lit (.int (n:Int))) (.len (.arg 0)))).holds [] { args:=[.list (ns.map .int)] }=true:=by
   have h4:=(holds_andW hc).1
   rw [hn] at h4
   exact h4
  have h5:=condW_of h4 (w_not (w_lt w_lit (w_len_list (w_arg rfl))))
  rw [List.length_map] at h5
  refine Nat.le_of_not_lt fun q=>?_
  have q':(n:Int)<((ns.length:Nat):Int):=by omega
  first
   | (rw [decide_eq_true q'] at h5;exact absurd h5 (by decide))
   | (simp at h5;omega)
 cases hwl with
 | cons w1 w2 =>
  cases w2
  cases w1 with
  | list ho hall=>exact ⟨_,_,ns,rfl,rfl,ho,ZhG ns _ hall,hlen⟩
theorem ZlW (l:OpenLaw) (args:List WData):l.row.toRowW.claim.post args (.bool true) args=true :=
 postW_of (r:=l.row.toRowW) (X:=(true==true))
  (show WShape.has [] (.bool true) .bool=true by first | rfl | decide | simp [WShape.has,WShape.arms,WShape.armsAll])
  (show (WTm.eq .res (.lit (.bool true))).value [] { args:=args,res:=some (.bool true),after:=args }=some (.bool (true==true)) from w_eq_bool (w_res rfl) w_lit) rfl
theorem attach_call {l:OpenLaw} {n:Nat} {q:Program} {loose:List Str} {XP:(Str→Option Value)→Heap→Prop} {YP:World→Heap→Prop} {d:DefRec}
  (hn:l.most=some n) (hdf:d.params.defaults=[])
  (call:∀ (w:World) (s₀ s₁:Shared) (mg mb:Str→Option Value) (fa:Addr) (o:Obj) (pm cd doc:Value) (a:Addr) (vs:List Value) (ns:List Int),
   Ground q loose [] XP w s₀ mg mb s₁.heap→YP w s₁.heap →
   s₁.heap.get? fa=some o→o.data=.func (docDef d.name d.params d.body d.scope pm cd doc)→s₁.heap.CodeRec cd d.name→mg d.name=some (.ref fa) →
   s₁.heap.get? a=some { cls:=.type "list",data:=.seq vs.toArray }→IntsAre vs ns→ns.length≤n→s₁.gens=#[] →
   codeAny (model l.prog w) callerA (.call (.ref fa) ⟨[.ref a],[]⟩) (fun r s'=>r=.ok (.ret (.bool true))∧OldK s₁.heap s'.heap∧s'.os=s₁.os∧AllBare s'.gens) s₁) :
  WalkO q loose XP YP l.row.toRowW d [] (fun f vs=>PySem.call f vs):=by
 intro w s₀ s₁ mg mb G Y fa o pm cd doc dV kV ho hd hcd hD hmg hg args ZP as hpre hlay hrd hwl hlo
 obtain rfl:dV=.none:=Dflts.none hD hdf
 obtain rfl:kV=.none:=Dflts.noKw hD
 obtain ⟨a,vs,ns,rfl,rfl,hobj,hints,hlen⟩:=Zli hn hpre hwl
 refine enter_call (codeAny_mono (call w s₀ s₁ mg mb fa o pm cd doc a vs ns G Y ho (fd_plain hd) hcd hmg hobj hints hlen hg) fun r s' hq=>?_)
 obtain ⟨rfl,h2,h3,h4⟩:=hq
 exact ⟨.inl ⟨.bool true,.bool true,[],rfl,fun _=>rfl,.bool true,ZlW l _,fun _=>⟨List.Pairwise.nil,fun _ hm=>(nomatch hm)⟩⟩,h2,h3,h4⟩
section
variable {prog:Program} {w:World} {A:Around} {E:Value→Shared→Prop} {s:Shared} {K:Frag}
end
end Att
namespace L2
open PySem PySem.Spec PyProof.Rows
theorem Zif:∀ {vs:List Value} {ns:List Int},IntsAre vs ns→Vals (ns.map V.int) vs
 | _,_,.nil=>.nil
 | _,_,.cons n t h=>.cons ⟨t,rfl⟩ (Zif h)
def Zms (H:Hp):Prop:=∀ b,H b=none∨∃ o xs,H b=some (.frz o (.lst xs))
theorem Zmd {P:Program} {w:World} {K:PySem.W.Frag} {mg mb:Str→Option Value} {CX:CXT} {k:Nat} {fa a:Addr} {fd:FuncData} {x:Str} {sp:Sp} {s₁:Shared} {vs:List Value} {ns:List Int}
  (KX:K.In s₁.heap) (hns:s₁.heap.Ns mainGlobals mg) (hb:s₁.heap.Ns builtinsNs mb) (hbb:∀ x:Str,x≠"__name__"→mb x=bootBuiltins x) (hlim:s₁.heap.NoLimit) (hg:s₁.gens=#[])
  (ha:s₁.heap.get? a=some { cls:=.type "list",data:=.seq vs.toArray }) (hi:IntsAre vs ns) (hl:ns.length≤sizeLine) (hr:Room k callerA)
  (F:∀ base:Heap,K.In base→base.Ns mainGlobals mg→FnOk P w K mg base CX k fa fd [x] sp) (hbind:∀ (s:Shared) (u:Value),BindsTo s fd ⟨[u],[]⟩ [(x,u)])
  (hsp:∀ H:Hp,Zms H→SqL K H a (ns.map V.int)→sp [.ref a] H (fun v _=>v=.bl true) fun _ _ _=>False)
  (hCX:∀ H e s',CX [] H s₁ (fun _ _ _=>False) e s'→False) :
  codeAny (model P w) callerA (.call (.ref fa) ⟨[.ref a],[]⟩) (fun r s'=>r=.ok (.ret (.bool true))∧OldK s₁.heap s'.heap∧s'.os=s₁.os∧AllBare s'.gens) s₁:=by
 have rv:=Zif hi
 have lenV:=hi.length
 -- from an abstract heap in which nothing but the script may be tracked
 have core:∀ H:Hp,Zms H→SqL K H a (ns.map V.int)→HOk P w H s₁.heap→(∀ b,H b≠none→b=a)→(H a≠none→K.lookup a=none) →
   codeAny (model P w) callerA (.call (.ref fa) ⟨[.ref a],[]⟩) (fun r s'=>r=.ok (.ret (.bool true))∧OldK s₁.heap s'.heap∧s'.os=s₁.os∧AllBare s'.gens) s₁:=by
  intro H hO hS hok hA hK
  have base_of:∀ {b:Addr} {o:Obj},s₁.heap.get? b=some o→H b=none→(ZfE s₁.heap H).get? b=some o:=fun e n=>ZmH e n
  have noA:∀ {b:Addr} {o:Obj} {es:Array DictEntry} {ep:Nat},s₁.heap.get? b=some o→o.data=.dict es ep→H b=none:=fun {b o es ep} e d=>by
   cases q:H b with
   | none=>rfl
   | some u =>
    have e':b=a:=hA b (by rw [q];simp)
    subst e'
    rw [ha] at e;cases e
    have d':Data.seq vs.toArray _=Data.dict es ep:=d
    cases d'
  have nsK:∀ {b:Addr} {m:Str→Option Value},s₁.heap.Ns b m→(ZfE s₁.heap H).Ns b m:=fun {b m} ⟨o,es,ep,e,d,r⟩=>⟨o,es,ep,base_of e (noA e d),d,r⟩
  have hKb:K.In (ZfE s₁.heap H):=fun b o e=>base_of (KX b o e) (by
   cases q:H b with
   | none=>rfl
   | some u =>
    have e':b=a:=hA b (by rw [q];simp)
    subst e'
    rw [hK (by rw [q];simp)] at e;cases e)
  have hM:Mod K mg (ZfE s₁.heap H):=⟨hKb,nsK hns,⟨mb,nsK hb,hbb⟩,let ⟨mc,h1,h2⟩:=hlim;⟨mc,nsK h1,h2⟩⟩
  have e0:Env0 P w K mg (ZfE s₁.heap H) callerA [] s₁ H:=⟨rfl,hM,fun b o e=>ZnI e,Nat.le_of_eq (Zlw _ _),trivial,fun b hb=>absurd (show b∈([]:List Addr) from hb) (by simp),hok,.of_eq hg⟩
  refine codeAny_mono ((F _ hKb (nsK hns)).run callerA [] s₁ H ⟨[.ref a],[]⟩ [.ref a] [.ref a] _ _ hr e0 (hbind s₁ (.ref a)) (.cons rfl .nil) (hsp H hO hS)) fun r s' h=>?_
  cases r with
  | error e=>exact (hCX H e s' h).elim
  | ok fl =>
   cases fl with
   | next=>exact False.elim h
   | brk=>exact False.elim h
   | cont=>exact False.elim h
   | ret u =>
    obtain ⟨v,H',os,bare,un,hok',r',q⟩:=h
    have q':v=.bl true:=q
    subst q'
    obtain rfl:u=Value.bool true:=r'
    refine ⟨rfl,OldK.of_keep fun b o e=>?_,os,bare⟩
    cases q:H b with
    | none=>exact un.keep b o e q (by intro z;exact absurd (show b∈([]:List Addr) from z) (by simp)) (by simp)
    | some u =>
     rcases hO b with z | ⟨ob,xs,z⟩
     ·rw [q] at z;cases z
     ·have z2:=un.frzs b ob _ z
      obtain ⟨e1,_⟩:=hok b _ z
      obtain ⟨e2,_⟩:=hok' b _ z2
      rw [e] at e1;cases e1
      exact e2
 cases hk:K.lookup a with
 | some o =>
  -- the script is one of the module's own objects
  have e:=KX a o hk
  rw [ha] at e
  cases e
  refine core (fun _=>none) (fun _=>.inl rfl) (.inr ⟨_,vs.toArray,_,hk,rfl,rfl,rfl,by rw [List.size_toArray,lenV];exact hl,by simpa using rv⟩) (fun b u z=>by have z':(none:Option HO)=some u:=z;cases z') (fun b z=>absurd rfl z) fun z=>absurd rfl z
 | none =>
  refine core (fun b=>if b=a then some (.frz { cls:=.type "list",data:=.seq vs.toArray } (.lst (ns.map V.int))) else none) (fun b=>?_) (.inl (.inr ⟨{ cls:=.type "list",data:=.seq vs.toArray },if_pos rfl⟩)) (fun b u z=>?_) (fun b z=>?_) fun _=>hk
  ·by_cases hb:b=a
   ·exact .inr ⟨_,_,if_pos hb⟩
   ·exact .inl (if_neg hb)
  ·by_cases hb:b=a
   ·have z':=(if_pos hb).symm.trans z
    cases z'
    subst hb
    exact ⟨ha,by rw [List.length_map];exact hl,vs,_,rv,ha⟩
   ·have z':=(if_neg hb).symm.trans z
    cases z'
  ·by_cases hb:b=a
   ·exact hb
   ·exact absurd (if_neg hb) z
end L2
namespace L2
open PySem PySem.Spec PyProof.Rows
theorem walk_of {l:PySem.W.OpenLaw} {n k:Nat} {q:Program} {loose:List Str} {XP:(Str→Option Value)→Heap→Prop} {YP:World→Heap→Prop} {d:DefRec} {K:Params→PySem.W.Frag} {CX:World→CXT} {sp:World→Sp} {x:Str}
  (hn:l.most=some n) (hn2:n≤sizeLine) (hdf:d.params.defaults=[]) (hr:Room k callerA)
  (hY:∀ (w:World) (h:Heap),YP w h→(K w.params).In h)
  (F:∀ (w:World) (mg:Str→Option Value) (fa:Addr) (h:Heap),(K w.params).In h→h.Ns mainGlobals mg→mg d.name=some (.ref fa) →
   ∃ fd:FuncData,(∀ (s:Shared) (u:Value),BindsTo s fd ⟨[u],[]⟩ [(x,u)]) ∧
    ∀ base:Heap,(K w.params).In base→base.Ns mainGlobals mg→FnOk l.prog w (K w.params) mg base (CX w) k fa fd [x] (sp w))
  (hsp:∀ (w:World) (H:Hp) (a:Addr) (ns:List Int),ns.length≤n→Zms H→SqL (K w.params) H a (ns.map V.int)→sp w [.ref a] H (fun v _=>v=.bl true) fun _ _ _=>False)
  (hCX:∀ (w:World) (H:Hp) (s:Shared) (e:Value) (s':Shared),CX w [] H s (fun _ _ _=>False) e s'→False) :
  PySem.W.WalkO q loose XP YP l.row.toRowW d [] (fun f vs=>PySem.call f vs):=by
 refine Att.attach_call hn hdf fun w s₀ s₁ mg mb fa o pm cd doc a vs ns G Y ho hd hcd hmg hobj hints hlen hg=>?_
 have KX:=hY w _ Y
 obtain ⟨fd,hb,hF⟩:=F w mg fa _ KX G.T.g hmg
 exact Zmd KX G.T.g G.T.b G.T.builtins G.T.nolimit hg hobj hints (Nat.le_trans hlen hn2) hr hF hb (fun H hO hS=>hsp w H a ns hlen hO hS) fun H e s'=>hCX w H s₁ e s'
end L2
namespace L2
open PySem PySem.Spec PyProof.Rows
def ZN (s:Stmt):Arguments:=match s with
 | .FunctionDef _ a _ _ _ _ _ _ _ _=>a
 | _=>{ posonlyargs:=[],args:=[],vararg:=none,kwonlyargs:=[],kw_defaults:=[],kwarg:=none,defaults:=[] }
def ZG (s:Stmt):List Stmt:=match s with
 | .FunctionDef _ _ b _ _ _ _ _ _ _=>b
 | _=>[]
def Zn (s:Stmt):Scope:=match s with
 | .FunctionDef _ _ _ _ _ _ sc _ _ _=>sc
 | _=>{ kind:=.function,names:=[],isGenerator:=false,isCoroutine:=false }
abbrev CX0:CXT:=fun _ _ _ _ _ _=>False
abbrev E0:XK:=fun _ _ _=>False
theorem Zw {X:Cx}:ZhB CX0 X E0:=fun _ _ _ _ _ _ _ h=>h.elim
structure Fun (K:PySem.W.Frag) (x qual:Str) (st:Stmt) (f:Addr) (fd:FuncData):Prop where
 ex:∃ (oc:Value) (od:Option Addr) (kV doc pm:Value) (an:Option Addr) (cdv ct:Value) (osl:Array (Option Value)),
  fd=PySem.W.fnOf x qual (ZN st) (ZG st) (Zn st) .none kV doc pm an cdv ct∧K.lookup f=some ⟨oc,od,.func fd,osl⟩∧PySem.W.codeIn K cdv qual=true
 kp:PySem.W.keepIn K (.ref f)=true
section
variable {P:Program} {w:World} {K:PySem.W.Frag} {mg:Str→Option Value} {base:Heap}
theorem Fun.ok {x qual:Str} {st:Stmt} {f:Addr} {fd:FuncData} {N ps:List Str} {k:Nat} {sp:Sp} (F:Fun K x qual st f fd) (S:ZI N ps (Zn st)) (len:∀ vs H Q E,sp vs H Q E→vs.length=ps.length)
  (hbody:∀ (cdv:Value) (A:Around) (outer:List Env) (s:Shared) (H:Hp) (vs:List V) (Q:VK) (E:XK),Room k (A.deeper (envOfC qual (Zn st) s.heap.objs.size f cdv))→sp vs H Q E →
   ∃ t,PSs (ZeZ CX0 P w K mg base N qual (Zn st) f cdv A outer s H E).nox (ZG st) t∧t { nx:=fun _ H'=>Q .non H',rt:=Q } (Zcf N vs) H):FnOk P w K mg base CX0 (k+1) f fd ps sp:=by
 obtain ⟨oc,od,kV,doc,pm,an,cdv,ct,osl,rfl,lk,hcd⟩:=F.ex
 refine Znq lk hcd S len fun A outer s H vs Q E hr hsp=>?_
 obtain ⟨t,h,q⟩:=hbody cdv A outer s H vs Q E hr hsp
 exact ⟨t,h.nox,q⟩
theorem Fun.binds {x qual:Str} {st:Stmt} {f:Addr} {fd:FuncData} {ps:List Str} (F:Fun K x qual st f fd)
  (h:∀ (kV doc pm:Value) (an:Option Addr) (cdv ct:Value) (us:List Value),us.length=ps.length→bindArgs (PySem.W.fnOf x qual (ZN st) (ZG st) (Zn st) .none kV doc pm an cdv ct) ⟨us,[]⟩=pure (ps.zip us)):Binds K fd ps []:=by
 obtain ⟨oc,od,kV,doc,pm,an,cdv,ct,osl,rfl,lk,hcd⟩:=F.ex
 exact .all (h kV doc pm an cdv ct)
theorem Z3 {x qual:Str} {st:Stmt} {f:Addr} {oc:Value} {od an:Option Addr} {osl:Array (Option Value)} {kV doc pm cdv ct:Value} (l:K.lookup f=some ⟨oc,od,.func (PySem.W.fnOf x qual (ZN st) (ZG st) (Zn st) .none kV doc pm an cdv ct),osl⟩)
  (c:PySem.W.codeIn K cdv qual=true) (k:PySem.W.keepIn K (.ref f)=true):Fun K x qual st f (PySem.W.fnOf x qual (ZN st) (ZG st) (Zn st) .none kV doc pm an cdv ct):=⟨⟨oc,od,kV,doc,pm,an,cdv,ct,osl,rfl,l,c⟩,k⟩
end
theorem Zlt {n:Nat} (h:n≤1000):n<sizeLine:=Nat.lt_of_le_of_lt h (by decide)
section
variable {X:Cx}
end
def Same (H H':Hp):Prop:=∀ b o,H b=some o→H' b=some o
theorem Same.refl (H:Hp):Same H H:=fun _ _ h=>h
theorem Same.trans {H H1 H2:Hp} (a:Same H H1) (b:Same H1 H2):Same H H2:=fun c o h=>b c o (a c o h)
theorem Same.free {H H':Hp} (e:Same H H') {l:Addr} (h:H' l=Option.none):H l=Option.none:=by
 cases q:H l with
 | none=>rfl
 | some o =>
  rw [e l o q] at h
  cases h
theorem Same.seq {K:PySem.W.Frag} {H H':Hp} {a:Addr} {xs:List V} (e:Same H H') (h:SqL K H a xs):SqL K H' a xs:=by
 rcases h with (h | ⟨o,h⟩) | h
 ·exact .inl (.inl (e _ _ h))
 ·exact .inl (.inr ⟨o,e _ _ h⟩)
 ·exact .inr h
end L2
namespace L2
open PySem PySem.Spec PyProof.Rows
def ZaS (env:Env):List (Str×NameKind)→List (Str×Addr)→List (Str×Addr)
 | [],cs=>cs
 | (n,k)::r,cs=>if k=NameKind.free then ZaS env r ((n,(env.cells.lookup n).getD 0)::cs) else ZaS env r cs
theorem Zb2 {scope:Scope} {env:Env} (h:∀ x∈scope.names,x.2=.free→∃ c,env.cells.lookup x.1=some c) :
  closureFor scope env=pure (ZaS env scope.names []):=by
 have all:∀ (l:List (Str×NameKind)) (cs:List (Str×Addr)),(∀ x∈l,x.2=.free→∃ c,env.cells.lookup x.1=some c) →
   (forIn l cs (fun (x:Str×NameKind) (cs:List (Str×Addr))=>if (x.2==NameKind.free)=true then (do let a ← cellOf env x.1;pure (ForInStep.yield ((x.1,a)::cs))) else pure (ForInStep.yield cs)):Sem (List (Str×Addr)))=pure (ZaS env l cs):=by
  intro l
  induction l with
  | nil=>intro cs _;rfl
  | cons x l ih =>
   intro cs hx
   obtain ⟨n,k⟩:=x
   rw [List.forIn_cons]
   have hr:=fun cs=>ih cs (fun y hy=>hx y (List.mem_cons_of_mem _ hy))
   by_cases hk:k=.free
   ·subst hk
    obtain ⟨c,hc⟩:=hx (n,.free) List.mem_cons_self rfl
    have e:cellOf env n=pure c:=by unfold cellOf;simp only [hc]
    simp only [beq_self_eq_true,if_true,e,pure_bind,hr,ZaS,hc,Option.getD_some]
   ·have hb:(k==NameKind.free)=false:=by simpa using hk
    simp only [hb,Bool.false_eq_true,if_false,pure_bind,hr,ZaS,hk]
 have:=all scope.names [] h
 simp only [closureFor]
 rw [← bind_pure (pure (ZaS env scope.names []):Sem _),← this]
theorem ZeU {env:Env}:∀ (l:List (Str×NameKind)) (cs:List (Str×Addr)),(∀ x∈l,x.2=.free→∃ c,env.cells.lookup x.1=some c) →
  (∀ p∈cs,env.cells.lookup p.1=some p.2)→∀ p∈ZaS env l cs,env.cells.lookup p.1=some p.2
 | [],cs,_,h=>h
 | (n,k)::r,cs,hx,h=>by
  have hr:∀ x∈r,x.2=.free→∃ c,env.cells.lookup x.1=some c:=fun y hy=>hx y (List.mem_cons_of_mem _ hy)
  by_cases hk:k=.free
  ·subst hk
   obtain ⟨c,hc⟩:=hx (n,.free) List.mem_cons_self rfl
   simp only [ZaS,if_true]
   refine ZeU r _ hr fun p hp=>?_
   rcases List.mem_cons.mp hp with e | hp
   ·subst e;simp only [hc,Option.getD_some]
   ·exact h p hp
  ·simp only [ZaS,hk,if_false]
   exact ZeU r cs hr h
theorem ZeL {env:Env}:∀ (l:List (Str×NameKind)) (cs:List (Str×Addr)) (x:Str),((x,NameKind.free)∈l∨∃ c,(x,c)∈cs)→∃ c,(x,c)∈ZaS env l cs
 | [],cs,x,h=>by
  rcases h with h | h
  ·cases h
  ·exact h
 | (n,k)::r,cs,x,h=>by
  by_cases hk:k=.free
  ·subst hk
   simp only [ZaS,if_true]
   refine ZeL r _ x ?_
   rcases h with h | ⟨c,h⟩
   ·rcases List.mem_cons.mp h with e | h
    ·cases e;exact .inr ⟨_,List.mem_cons_self⟩
    ·exact .inl h
   ·exact .inr ⟨c,List.mem_cons_of_mem _ h⟩
  ·simp only [ZaS,hk,if_false]
   refine ZeL r cs x ?_
   rcases h with h | h
   ·rcases List.mem_cons.mp h with e | h
    ·cases e;exact absurd rfl hk
    ·exact .inl h
   ·exact .inr h
theorem ZfF {β:Type}:∀ {l:List (Str×β)} {x:Str} {c:β},(x,c)∈l→∃ d,l.lookup x=some d
 | [],_,_,h=>by cases h
 | (n,b)::r,x,c,h=>by
  rw [List.lookup_cons]
  cases e:x==n with
  | true=>exact ⟨b,rfl⟩
  | false =>
   rcases List.mem_cons.mp h with z | h
   ·cases z;simp at e
   ·exact ZfF h
structure ZR (own outs:List Str) (sc osc:Scope):Prop where
 kind:sc.kind=.function
 nocell:∀ x∈sc.names,x.2≠.cell
 free:∀ x∈sc.names,x.2=.free→osc.names.lookup x.1=some .cell∨osc.names.lookup x.1=some .free
 loc:∀ x∈sc.names,x.2=.local→sc.names.lookup x.1=some .local
 out:∀ x∈outs,sc.names.lookup x=some .free
 nd:(own++outs).Nodup
theorem relabel_free {env:Env}:∀ {names:List (Str×NameKind)} {x:Str},names.lookup x=some .free →
  ((names.map fun (n,k)=>if (k==NameKind.free&&env.scope.kind==.function&&env.kindOf n==some .cell) then (n,NameKind.cell) else (n,k)).lookup x=some .cell ∨
    (names.map fun (n,k)=>if (k==NameKind.free&&env.scope.kind==.function&&env.kindOf n==some .cell) then (n,NameKind.cell) else (n,k)).lookup x=some .free)
 | [],_,h=>by simp at h
 | (n,k)::r,x,h=>by
  have ih:=@relabel_free env r x
  rw [List.map_cons]
  by_cases hc:(k==NameKind.free&&env.scope.kind==.function&&env.kindOf n==some .cell)=true
  ·rw [show (match ((n,k):Str×NameKind) with | (n,k)=>if (k==NameKind.free&&env.scope.kind==.function&&env.kindOf n==some .cell) then (n,NameKind.cell) else (n,k))=(n,NameKind.cell) from if_pos hc]
   rw [List.lookup_cons] at h ⊢
   cases hx:x==n with
   | true=>exact .inl rfl
   | false=>rw [hx] at h;exact ih h
  ·rw [show (match ((n,k):Str×NameKind) with | (n,k)=>if (k==NameKind.free&&env.scope.kind==.function&&env.kindOf n==some .cell) then (n,NameKind.cell) else (n,k))=(n,k) from if_neg hc]
   rw [List.lookup_cons] at h ⊢
   cases hx:x==n with
   | true=>rw [hx] at h;exact .inr h
   | false=>rw [hx] at h;exact ih h
theorem relabel_mem {env:Env}:∀ {names:List (Str×NameKind)} {x:Str} {k:NameKind},k=.cell∨k=.free→(∀ y∈names,y.2≠.cell) →
  (names.map fun (n,k)=>if (k==NameKind.free&&env.scope.kind==.function&&env.kindOf n==some .cell) then (n,NameKind.cell) else (n,k)).lookup x=some k→(x,NameKind.free)∈names
 | [],_,_,_,_,h=>by simp at h
 | (n,j)::r,x,k,hk,hn,h=>by
  have ih:=@relabel_mem env r x k hk fun y hy=>hn y (List.mem_cons_of_mem _ hy)
  rw [List.map_cons] at h
  by_cases hc:(j==NameKind.free&&env.scope.kind==.function&&env.kindOf n==some .cell)=true
  ·rw [show (match ((n,j):Str×NameKind) with | (n,k)=>if (k==NameKind.free&&env.scope.kind==.function&&env.kindOf n==some .cell) then (n,NameKind.cell) else (n,k))=(n,NameKind.cell) from if_pos hc] at h
   rw [List.lookup_cons] at h
   cases hx:x==n with
   | true =>
    have e:x=n:=by simpa using hx
    have ej:j=.free:=by
     simp only [Bool.and_eq_true,beq_iff_eq] at hc
     exact hc.1.1
    subst e ej
    exact List.mem_cons_self
   | false=>rw [hx] at h;exact List.mem_cons_of_mem _ (ih h)
  ·rw [show (match ((n,j):Str×NameKind) with | (n,k)=>if (k==NameKind.free&&env.scope.kind==.function&&env.kindOf n==some .cell) then (n,NameKind.cell) else (n,k))=(n,j) from if_neg hc] at h
   rw [List.lookup_cons] at h
   cases hx:x==n with
   | true =>
    rw [hx] at h
    have e:x=n:=by simpa using hx
    have ej:j=k:=Option.some.inj h
    subst e ej
    rcases hk with hk | hk
    ·exact absurd hk (hn _ List.mem_cons_self)
    ·subst hk;exact List.mem_cons_self
   | false=>rw [hx] at h;exact List.mem_cons_of_mem _ (ih h)
def cxC (X:Cx) (own outs:List Str) (scope:Scope) (C:Addr) (s2:Shared) (H2:Hp) (fp:List Addr) (pins:List (Addr×Obj)):Cx where
 prog:=X.prog
 w:=X.w
 K:=X.K
 mg:=X.mg
 base:=X.base
 A:=X.A
 N:=own++outs
 s₀:=s2
 H₀:=H2
 env:=compEnvC scope (ZaS X.env scope.names []) C X.env
 outer:=X.stack
 stack:=X.stack
 ex:=fp
 fn:=fun _=>false
 calm:=X.calm
 pn:=X.pn++pins
 xe:=fun _ _=>False
def PFs (X:Cx) (ifs:List Expr) (tt:TT):Prop :=
 ∀ (pins:List (Addr×Obj)) (s:Shared) (σ:St) (H:Hp) (Q:Bool→Hp→Prop),Inv X pins σ H s→tt σ H Q →
  wpAny (model X.prog X.w) X.A (forIn ifs true fun c r=>if r=true then do let ok ← isTrue c X.env (eval c X.env);pure (ForInStep.yield ok) else pure (ForInStep.yield r)) (TP X pins σ Q) X.xe s
def Zrj:TT:=fun _ H Q=>Q true H
theorem Zpa {X:Cx}:PFs X [] Zrj:=fun _ _ _ H _ I h=>wpAny_tests_nil ⟨H,I,h⟩
def Z5 (k:Nat) (oix:List Nat) (σ:St):St:=List.replicate k none++oix.map fun j=>(σ[j]?).join
def Zlh (k:Nat) (oix:List Nat) (g:TG) (tt:TT) (te:TE) (J:It) (σ:St) (H:Hp) (Q:VK):Prop :=
 ∃ (n:Nat) (W:Nat→List V→Hp→Prop),W 0 [] H∧∀ i ys H2,W i ys H2 →
  (J.stop i H2∧ys.length≤sizeLine∧∀ p,H2 p=none→Q (.ref p) (upd H2 p (.lst ys))) ∨
  (J.go i H2∧i<n∧ys.length<sizeLine∧∃ N:List V→Hp→Prop,(∀ ys' H',N ys' H'→W (i+1) ys' H')∧∀ x H3,J.yld i H2 x H3→g x (Z5 k oix σ) H3 fun σ4 H4=>σ4.drop k=(Z5 k oix σ).drop k ∧
   tt σ4 H4 fun b H5=>if b=true then te σ4 H5 fun y H6=>N (ys++[y]) H6 else N ys H5)
def ZkH (k:Nat) (oix:List Nat) (wi:TI) (g:TG) (tt:TT) (te:TE):TE:=fun σ H Q=>wi σ H fun J H1=>Zlh k oix g tt te J σ H1 Q
def ZaF (its:List Value) (n:Nat):Obj:={ cls:=.type "list",data:=.seq its.toArray n }
theorem HOk.track {P:Program} {w:World} {H:Hp} {h:Heap} {a:Addr} {o:HO} (x:HOk P w H h) (hn:H a=none) (new:ObjOk P w (upd H a o) h a o):HOk P w (upd H a o) h:=fun b u e=>by
 by_cases hb:b=a
 ·subst hb;rw [Zaw] at e;cases e;exact new
 ·rw [ZB hb] at e
  exact (x b u e).stay (fun c v _ q=>q) (fun c q=>by rw [ZB (ZX q hn)];exact q) fun c xs q=>by rw [ZB (ZX q hn)];exact q
theorem Zio {X:Cx} {pins:List (Addr×Obj)} {σ:St} {H2:Hp} {s2:Shared} {tg elt iter:Expr} {ifs:List Expr} {scope:Scope} {pos:Pos} {J:It} {fp:List Addr} {it:Addr} {tn:Nat→Heap→Prop}
  {own outs:List Str} {oix:List Nat} {g:TG} {tt:TT} {te:TE} {Q:VK} {E:Value→Shared→Prop} {RR:Value→Addr→Result→Shared→Prop}
  (S:ZR own outs scope X.env.scope) (hox:oix.map (fun j=>X.N[j]?)=outs.map some) (hc:X.calm=true)
  (hg:∀ C s2 H2 fp pins,PG (cxC X own outs scope C s2 H2 fp pins) tg g)
  (ht:∀ C s2 H2 fp pins,PFs (cxC X own outs scope C s2 H2 fp pins) ifs tt)
  (he:∀ C s2 H2 fp pins,PE (cxC X own outs scope C s2 H2 fp pins) elt te)
  (I2:Inv X pins σ H2 s2) (T:ZfK X.prog X.w X.K tg J fp it tn) (st:tn 0 s2.heap) (f2:∀ b∈fp,Zdp X pins H2 b)
  (h:Zlh own.length oix g tt te J σ H2 Q)
  (hRR:∀ (C:Addr) (s':Shared) (m:Str→Option Value) (H':Hp),s'.heap.Ns C m→Inv X pins σ H' s'→H' C=none→C≠X.env.locals→X.s₀.heap.objs.size≤C →
   (∀ x c,X.env.cells.lookup x=some c→c≠C)→(∀ p∈X.pn++pins,p.1≠C)→Q (.ref s2.heap.objs.size) H'→RR (.ref s2.heap.objs.size) C (.ok .next) s') :
  wpAny (model X.prog X.w) X.A (newList []) (fun acc s₃=>wpAny (model X.prog X.w) X.A (newFunctionEnv scope X.env.globals (ZaS X.env scope.names []) [] X.env.qual none .none (some X.env)) (fun cenv s₄ =>
   codeAny (model X.prog X.w) X.A (.compStart (.ListComp elt [⟨tg,iter,ifs,0⟩] scope pos) 0 (.ref it) acc { cenv with scope:=relabel scope X.env }) (RR acc cenv.locals) s₄) E s₃) E s2:=by
 obtain ⟨n,W,w0,turn⟩:=h
 refine wpAny_newObj_type (wpAny_newFunctionEnv S.nocell (by intro y hy;simp at hy) (fun h₁ hns₁ hsb₁=>?_) S.kind)
 dsimp only at hns₁ hsb₁ ⊢
 generalize hP:s2.heap.push { cls:=.type "list",dict:=none,data:=.seq ([]:List Value).toArray }=hp at hns₁ hsb₁ ⊢
 have hC:hp.objs.size=s2.heap.objs.size+1:=by rw [← hP,Heap.size_push]
 generalize hCC:hp.objs.size=C at hns₁ hsb₁ hC ⊢
 have hDC:s2.heap.objs.size≠C:=by rw [hC];exact Nat.ne_of_lt (Nat.lt_succ_self _)
 have hDC':s2.heap.objs.size<C:=by rw [hC];exact Nat.lt_succ_self _
 have old:∀ b o,s2.heap.get? b=some o→h₁.get? b=some o:=fun b o e =>
  hsb₁.extBut b o (Nat.ne_of_lt (Nat.lt_trans (Heap.lt_size e) hDC')) (Heap.get?_push_of_some _ (hP ▸ Heap.get?_push_of_some _ e))
 have hacc:h₁.get? s2.heap.objs.size=some (ZaF [] 0):=hsb₁.extBut _ _ hDC (Heap.get?_push_of_some _ (hP ▸ Heap.get?_push_size _ rfl))
 -- the cells of the closure are cells of the frame
 have hcells:∀ x∈scope.names,x.2=.free→∃ c,X.env.cells.lookup x.1=some c:=fun x hx hf=>I2.ok.has x.1 (S.free x hx hf)
 have clX:∀ x c,(ZaS X.env scope.names []).lookup x=some c→X.env.cells.lookup x=some c:=fun x c e =>
  ZeU scope.names [] hcells (fun p hp=>by cases hp) (x,c) (PySem.mem_of_lookup e)
 have clHas:∀ x,(x,NameKind.free)∈scope.names→∃ c,(ZaS X.env scope.names []).lookup x=some c:=fun x hx=>by
  obtain ⟨c,hc⟩:=ZeL (env:=X.env) scope.names [] x (.inl hx)
  exact ZfF hc
 have fpLt:∀ b∈fp,b<s2.heap.objs.size:=fun b hb=>by
  obtain ⟨o,e,_⟩:=T.obj 0 _ st b hb
  exact Heap.lt_size e
 have cLt:∀ x c,X.env.cells.lookup x=some c→c<s2.heap.objs.size:=fun x c e=>by
  obtain ⟨v,q⟩:=I2.cell x c e
  exact q.lt
 have fpStk:∀ b∈fp,b∉frs X.stack:=fun b hb z=>by
  rcases List.mem_cons.mp (I2.stkSub b z) with e | z
  ·exact (f2 b hb).2.1 e
  ·exact (f2 b hb).2.2.1 z
 have pinLt:∀ p∈X.pn++pins,p.1<s2.heap.objs.size:=fun p hp=>Heap.lt_size (I2.pin p hp).1
 have pinStk:∀ p∈X.pn++pins,p.1∉frs X.stack:=fun p hp z=>by
  rcases List.mem_cons.mp (I2.stkSub _ z) with e | z
  ·exact (I2.pin p hp).2.2.1 e
  ·exact (I2.pin p hp).2.2.2.1 z
 have fsLt:∀ b∈frs X.stack,b<s2.heap.objs.size:=fun b hb=>by
  obtain ⟨_,o,ho,_⟩:=I2.stack.mem hb
  exact Heap.lt_size ho
 let Y:Cx:=cxC X own outs scope C s2 H2 fp pins
 have okY:Y.Ok:={
  mod:=I2.ok.mod
  kind:=S.kind
  glob:=I2.ok.glob
  blt:=I2.ok.blt
  above:=Nat.le_of_lt hDC'
  inj:=fun x y c h1 h2=>I2.ok.inj x y c (clX x c h1) (clX y c h2)
  has:=fun x hx=>by
   refine clHas x ?_
   rcases hx with hx | hx
   ·exact relabel_mem (env:=X.env) (.inl rfl) S.nocell hx
   ·exact relabel_mem (env:=X.env) (.inr rfl) S.nocell hx
  cab:=fun x c hf _=>absurd (show false=true from hf) Bool.false_ne_true
  hd:=I2.ok.hd
  frames:=I2.ok.frames
  stk:=.inl rfl
  exf:=fun b hb=>⟨Nat.ne_of_lt (Nat.lt_trans (fpLt b hb) hDC'),fun x c e=>(f2 b hb).2.2.2.2.1 x c (clX x c e)⟩
  bs:=I2.bs
  bsz:=Nat.le_trans I2.ok.bsz I2.sz
  noex:=fun b o e hb=>by
   rcases (f2 b hb).2.2.2.1 with z | z
   ·exact I2.ok.noex b o e z
   ·exact absurd (Nat.lt_of_lt_of_le (Heap.lt_size e) (Nat.le_trans I2.ok.bsz z)) (Nat.lt_irrefl _)
  exfs:=fpStk
  funs:=I2.stack
  frf:=I2.stkFree }
 have hCH:∀ H':Hp,HOk X.prog X.w H' h₁→True:=fun _ _=>trivial
 have lenS:(Z5 own.length oix σ).length=Y.N.length:=by
  have e:=congrArg List.length hox
  simp only [List.length_map] at e
  show (List.replicate own.length none++oix.map _).length=(own++outs).length
  rw [List.length_append,List.length_append,List.length_replicate,List.length_map,e]
 have I4:Inv Y [(s2.heap.objs.size,ZaF [] 0)] (Z5 own.length oix σ) H2 { s2 with heap:=h₁ }:={
  ok:=okY
  os:=rfl
  bare:=I2.bare
  base:=Un.kept old
  loc:=by
   refine ⟨_,hns₁,fun i x v e1 e2 e3=>?_⟩
   -- an outer name
   have hi:own.length≤i:=by
    apply Nat.le_of_not_lt
    intro hlt
    unfold Z5 at e2
    rw [List.getElem?_append_left (by rw [List.length_replicate];exact hlt),List.getElem?_replicate] at e2
    rw [if_pos hlt] at e2
    cases e2
   unfold Z5 at e2
   rw [List.getElem?_append_right (by rw [List.length_replicate];exact hi),List.length_replicate,List.getElem?_map] at e2
   have e1':outs[i-own.length]?=some x:=by
    have e1:(own++outs)[i]?=some x:=e1
    rwa [List.getElem?_append_right hi] at e1
   cases ej:oix[i-own.length]? with
   | none=>rw [ej] at e2;cases e2
   | some j =>
    rw [ej] at e2
    have e2':(σ[j]?).join=some v:=Option.some.inj e2
    have e2'':σ[j]?=some (some v):=by
     cases eσ:σ[j]? with
     | none=>rw [eσ] at e2';cases e2'
     | some z=>rw [eσ] at e2';exact congrArg some e2'
    have eN:X.N[j]?=some x:=by
     have q:=congrArg (fun l=>l[i-own.length]?) hox
     simp only [List.getElem?_map,ej,e1',Option.map_some] at q
     exact Option.some.inj q
    have hfree:scope.names.lookup x=some .free:=S.out x (List.mem_of_getElem? e1')
    have hmem:(x,NameKind.free)∈scope.names:=PySem.mem_of_lookup hfree
    have hk:X.env.scope.names.lookup x=some .cell∨X.env.scope.names.lookup x=some .free:=S.free (x,.free) hmem rfl
    obtain ⟨m,hn,hl⟩:=I2.loc
    obtain ⟨u,r,l⟩:=hl j x v eN e2'' (by rcases hk with hk | hk;exact .inr (.inl hk);exact .inr (.inr hk))
    refine ⟨u,r,.inr ⟨relabel_free (env:=X.env) hfree,?_⟩⟩
    obtain ⟨c,ec⟩:=clHas x hmem
    refine ⟨c,ec,?_⟩
    have ec':=clX x c ec
    rcases l with ⟨k,_⟩ | ⟨_,c',e',o,ho,hd⟩
    ·rcases hk with hk | hk
     ·exact absurd (k.symm.trans hk) (by decide)
     ·exact absurd (k.symm.trans hk) (by decide)
    ·rw [ec'] at e'
     cases e'
     exact ⟨o,old _ _ ho,hd⟩
  cell:=fun x c e=>by
   obtain ⟨v,o,ho,hd⟩:=I2.cell x c (clX x c e)
   exact ⟨v,o,old _ _ ho,hd⟩
  free:=I2.hok.fresh (Nat.le_of_lt hDC')
  freeC:=fun x c e=>I2.freeC x c (clX x c e)
  pin:=fun p hp=>by
   rcases List.mem_append.mp hp with hp | hp
   ·obtain ⟨e,n,_,_,d⟩:=I2.pin p hp
    exact ⟨old _ _ e,n,Nat.ne_of_lt (Nat.lt_trans (pinLt p hp) hDC'),pinStk p hp,d⟩
   ·have e:p=(s2.heap.objs.size,ZaF [] 0):=by simpa using hp
    subst e
    refine ⟨hacc,I2.hok.fresh (Nat.le_refl _),hDC,fun z=>absurd (fsLt _ z) (Nat.lt_irrefl _),fun v z=>?_⟩
    have z':Data.seq _ _=Data.cell v:=z
    cases z'
  hok:=I2.hok.kept old
  len:=lenS }
 -- what stays of the iterator's records
 have fpY:∀ {H':Hp} {its:List Value} {k:Nat},(∀ b∈fp,H' b=none)→∀ b∈fp,Zdp Y [(s2.heap.objs.size,ZaF its k)] H' b:=fun {H' its k} hn b hb=>by
  refine ⟨hn b hb,Nat.ne_of_lt (Nat.lt_trans (fpLt b hb) hDC'),fpStk b hb,.inl hb,fun x c e=>(f2 b hb).2.2.2.2.1 x c (clX x c e),fun p hp=>?_⟩
  rcases List.mem_append.mp hp with hp | hp
  ·exact (f2 b hb).2.2.2.2.2 p hp
  ·have e:p=(s2.heap.objs.size,ZaF its k):=by simpa using hp
   subst e
   exact Nat.ne_of_gt (fpLt b hb)
 -- the end
 have fin:∀ (i:Nat) (ys:List V) (its:List Value) (k:Nat) (H':Hp) (s':Shared),Inv Y [(s2.heap.objs.size,ZaF its k)] (Z5 own.length oix σ) H' s'→Vals ys its→ys.length≤sizeLine →
   Q (.ref s2.heap.objs.size) (upd H' s2.heap.objs.size (.lst ys))→RR (.ref s2.heap.objs.size) C (.ok .next) s':=fun i ys its k H' s' I' rv hz q=>by
  obtain ⟨m,hn,_⟩:=I'.loc
  obtain ⟨eD,nD,_⟩:=I'.pin (s2.heap.objs.size,ZaF its k) (List.mem_append_right _ (by simp))
  have un:Un (frs X.stack) fp H2 H' s2.heap s'.heap:=I'.base
  have neD:∀ b o,s2.heap.get? b=some o→b≠s2.heap.objs.size:=fun b o e=>Nat.ne_of_lt (Heap.lt_size e)
  have neH:∀ b o,H2 b=some o→b≠s2.heap.objs.size:=fun b o e=>Nat.ne_of_lt (I2.hok.lt e)
  have un':Un (frs X.stack) fp H2 (upd H' s2.heap.objs.size (.lst ys)) s2.heap s'.heap :=
   ⟨un.keep,un.slot,fun b o e n hx=>by rw [ZB (neD b o e)];exact un.free b o e n hx,un.there,fun b xs e=>by rw [ZB (neH b _ e)];exact un.tups b xs e,
    fun b o u e=>by rw [ZB (neH b _ e)];exact un.frzs b o u e,fun b ps e=>by rw [ZB (neH b _ e)];exact un.tbls b ps e⟩
  have hok':HOk X.prog X.w (upd H' s2.heap.objs.size (.lst ys)) s'.heap:=HOk.track I'.hok nD ⟨hz,its,k,rv,eD⟩
  have IX:Inv X pins σ (upd H' s2.heap.objs.size (.lst ys)) s':=I2.call' (ch:=fp) I'.os un' hok' I'.bare fun b hb=>⟨(f2 b hb).2.2.2.1,(f2 b hb).2.1,(f2 b hb).2.2.2.2.1,(f2 b hb).2.2.2.2.2⟩
  refine hRR C s' m _ hn IX ?_ ?_ ?_ ?_ ?_ q
  ·rw [ZB (Ne.symm hDC)];exact I'.free
  ·exact Nat.ne_of_gt (Nat.lt_trans I2.lt hDC')
  ·exact Nat.le_trans I2.sz (Nat.le_of_lt hDC')
  ·exact fun x c e=>Nat.ne_of_lt (Nat.lt_trans (cLt x c e) hDC')
  ·exact fun p hp=>Nat.ne_of_lt (Nat.lt_trans (pinLt p hp) hDC')
 have loop:codeAny (model X.prog X.w) X.A (.compLoop (.ListComp elt [⟨tg,iter,ifs,0⟩] scope pos) 0 (.ref it) (.ref s2.heap.objs.size) Y.env) (RR (.ref s2.heap.objs.size) C) { s2 with heap:=h₁ }:=by
  refine codeAny_loop rfl (fun k s'=>∃ (i:Nat) (ys:List V) (its:List Value) (c:Nat) (H':Hp),Inv Y [(s2.heap.objs.size,ZaF its c)] (Z5 own.length oix σ) H' s'∧Vals ys its∧tn i s'.heap∧(∀ b∈fp,H' b=none)∧W i ys H'∧k=n-i) (fun k s' hI=>?_) n
   ⟨0,[],[],0,H2,I4,.nil,T.keep 0 _ _ st fun b _ o e=>old b o e,fun b hb=>(f2 b hb).1,w0,rfl⟩
  show wpAny _ X.A ((compTurn (.ListComp elt [⟨tg,iter,ifs,0⟩] scope pos) 0 (.ref it) (.ref s2.heap.objs.size) Y.env).onRaise (fun x=>do noteFrame x Y.env;theTreesLotGoes x)) _ _ s'
  refine wpAny_noted ?_
  rw [compTurn_list]
  obtain ⟨i,ys,its,c,H',I',rv,st',fr',w',ek⟩:=hI
  rcases turn i ys H' w' with ⟨stop,hz,q⟩ | ⟨go,hin,hz,N,hN,step⟩
  ·refine wpAny_bind (wpAny_standAt (wpAny_bind (thn (T.done Y rfl rfl rfl hc i _ s' _ H' _ I' (fpY fr') st' stop) fun r s1 ⟨hr,I1⟩=>?_)))
   subst hr
   obtain ⟨_,nD,_⟩:=I1.pin (s2.heap.objs.size,ZaF its c) (List.mem_append_right _ (by simp))
   exact wpAny_pure (fin i ys its c H' s1 I1 rv hz (q _ nD))
  ·refine wpAny_bind (wpAny_standAt (wpAny_bind (thn (T.item Y rfl rfl rfl hc i _ s' _ H' _ I' (fpY fr') st' go) fun r s1 ⟨u,hr,h1⟩=>?_)))
   subst hr
   refine wpAny_bind (thn h1 fun _ s5 ⟨x,H5,I5,r5,y5,st5,fr5⟩=>?_)
   have I5':=I5.pinned (fpY fr5) (T.obj _ _ st5)
   refine wpAny_bind (wpAny_noRaise (thn (hg C s2 H2 fp pins _ s5 _ H5 x u _ I5' r5 (step x H5 y5)) fun _ s6 ⟨σ6,H6,I6,dr6,q6⟩=>?_))
   refine wpAny_bind (wpAny_noRaise (thn (ht C s2 H2 fp pins _ s6 σ6 H6 _ I6 q6) fun ok s7 ⟨H7,I7,q7⟩=>?_))
   -- back to the begin of a turn
   have back:∀ {H8:Hp} {s8:Shared} {its8:List Value} {c8:Nat},Inv Y ([(s2.heap.objs.size,ZaF its8 c8)]++ZcL fp s5.heap) σ6 H8 s8 →
     Inv Y [(s2.heap.objs.size,ZaF its8 c8)] (Z5 own.length oix σ) H8 s8∧tn (i+1) s8.heap∧∀ b∈fp,H8 b=none:=fun {H8 s8 its8 c8} I8=>by
    refine ⟨I8.unpinned.weak ?_ fun j v e=>?_,T.keep _ _ _ st5 fun b hb o e=>(I8.pin (b,o) (List.mem_append_right _ (List.mem_append_right _ (Zcs hb e)))).1,fun b hb=>?_⟩
    ·exact lenS.trans I8.len.symm
    ·have hj:own.length≤j:=by
      apply Nat.le_of_not_lt
      intro hlt
      unfold Z5 at e
      rw [List.getElem?_append_left (by rw [List.length_replicate];exact hlt),List.getElem?_replicate] at e
      rw [if_pos hlt] at e
      cases e
     have e':=congrArg (fun l=>l[j-own.length]?) dr6
     simp only [List.getElem?_drop] at e'
     rw [show own.length+(j-own.length)=j by omega] at e'
     exact e'.trans e
    ·obtain ⟨o,e,d⟩:=T.obj _ _ st5 b hb
     exact (I8.pin (b,o) (List.mem_append_right _ (List.mem_append_right _ (Zcs hb e)))).2.1
   cases ok with
   | false =>
    obtain ⟨I8,st8,fr8⟩:=back I7
    exact wpAny_pure ⟨rfl,n-(i+1),by omega,i+1,ys,its,c,H7,I8,rv,st8,fr8,hN _ _ q7,rfl⟩
   | true =>
    refine wpAny_bind (wpAny_bind (wpAny_noRaise (thn (he C s2 H2 fp pins _ s7 σ6 H7 _ I7 q7) fun y s8 ⟨z,H8,I8,r8,w8⟩=>?_)))
    obtain ⟨eD,nD,neL,nF,dD⟩:=I8.pin (s2.heap.objs.size,ZaF its c) (List.mem_append_right _ (List.mem_append_left _ (by simp)))
    have hl:=rv.length
    refine wpAny_bind (call_meets F.slot_list_append ⟨_,eD,rfl⟩ F.entry_list_append (F.args_list_append_2 _ _) (PySem.list_append _ its.toArray c y (by rw [List.size_toArray];omega)) ⟨eD,?_⟩)
    obtain ⟨n',q⟩:∃ n',(s8.heap.update s2.heap.objs.size (Obj.mapSeq (·.push y))).get? s2.heap.objs.size=some (ZaF (its++[y]) n'):=by
     have q:=PySem.IsL.update eD (·.push y)
     rw [show its.toArray.push y=(its++[y]).toArray by simp] at q
     exact ⟨_,q⟩
    have I9:Inv Y (ZcL fp s5.heap) σ6 H8 { s8 with heap:=s8.heap.update s2.heap.objs.size (Obj.mapSeq (·.push y)) } :=
     (I8.pins_of fun p hp=>I8.pin p (List.mem_append_right _ (List.mem_append_right _ hp))).turned (t':=s8.toks) (it:=s2.heap.objs.size) (fun b o hb e=>(Heap.get?_update_other _ _ (Ne.symm hb)).trans e) nD hDC (.inr (Nat.le_refl _))
      (fun x c' e=>Nat.ne_of_lt (cLt x c' (clX x c' e))) fun p hp=>by
       rcases List.mem_append.mp hp with hp | hp
       ·exact Nat.ne_of_lt (pinLt p hp)
       ·exact Nat.ne_of_lt (fpLt _ (Zgg hp).1)
    have I10:Inv Y ([(s2.heap.objs.size,ZaF (its++[y]) n')]++ZcL fp s5.heap) σ6 H8 { s8 with heap:=s8.heap.update s2.heap.objs.size (Obj.mapSeq (·.push y)) }:=I9.pins_of fun p hp=>by
     rcases List.mem_append.mp hp with hp | hp
     ·have e:p=(s2.heap.objs.size,ZaF (its++[y]) n'):=by simpa using hp
      subst e
      exact ⟨q,nD,neL,nF,fun v z=>by
       have z':Data.seq _ _=Data.cell v:=z
       cases z'⟩
     ·exact I9.pin p (List.mem_append_right _ hp)
    obtain ⟨I11,st11,fr11⟩:=back I10
    exact wpAny_pure (wpAny_pure ⟨rfl,n-(i+1),by omega,i+1,ys++[z],its++[y],_,H8,I11,rv.append (.cons r8 .nil),st11,fr11,hN _ _ w8,rfl⟩)
 exact codeAny_compStart_list loop (T.self _ 0 _ _ _ (T.keep 0 _ _ st fun b _ o e=>old b o e) loop)
section
variable {X:Cx} {tg elt iter:Expr} {ifs:List Expr} {scope:Scope} {pos:Pos} {oix:List Nat} {wi:TI} {g:TG} {tt:TT} {te:TE}
theorem ZnD (own outs:List Str) (oix:List Nat) (S:ZR own outs scope X.env.scope) (hox:oix.map (fun j=>X.N[j]?)=outs.map some) (hc:X.calm=true) (hi:PI X tg iter wi)
  (hg:∀ C s2 H2 fp pins,PG (cxC X own outs scope C s2 H2 fp pins) tg g)
  (ht:∀ C s2 H2 fp pins,PFs (cxC X own outs scope C s2 H2 fp pins) ifs tt)
  (he:∀ C s2 H2 fp pins,PE (cxC X own outs scope C s2 H2 fp pins) elt te)
  (hs:∀ x,foldedSetIterable iter X.env x=pure x:=by intro _;rfl) :
  PE X (.ListComp elt [⟨tg,iter,ifs,0⟩] scope pos) (ZkH own.length oix wi g tt te):=by
 intro pins s σ H Q I h
 rw [eval_ListComp]
 refine wpAny_comprehension_free (use:=none) rfl hs (Zb2 fun x hx hf=>I.ok.has x.1 (S.free x hx hf)) S.kind S.loc (thn (hi pins s σ H _ I h) fun xv s₁ h₁=>thn h₁ fun itv s₂ h₂=>?_)
 obtain ⟨it,fp,tn,J,H2,e,I2,T,st2,f2,turns⟩:=h₂
 subst e
 refine Zio (RR:=fun acc C=>compPost (model X.prog X.w) X.A X.xe none (EP X pins σ Q) acc C) S hox hc hg ht he I2 T st2 f2 turns ?_
 intro C s' m H' hn I' hC hL h0 hcell hpin q
 exact ⟨m,hn,fun h' hs'=>⟨.ref _,H',I'.turned (h':=h') (t':=s'.toks) (it:=C) (fun b o hb e=>hs'.extBut b o hb e) hC hL (.inr h0) hcell hpin,rfl,q⟩⟩
theorem ZkT (own outs:List Str) (oix:List Nat) {i:Nat} {x:Str} {pos' spos:Pos} (S:ZR own outs scope X.env.scope) (hox:oix.map (fun j=>X.N[j]?)=outs.map some) (hc:X.calm=true)
  (hN:X.N.Nodup) (hix:X.N[i]?=some x) (hx:X.env.scope.names.lookup x=some .local) (hi:PI X tg iter wi)
  (hg:∀ C s2 H2 fp pins,PG (cxC X own outs scope C s2 H2 fp pins) tg g)
  (ht:∀ C s2 H2 fp pins,PFs (cxC X own outs scope C s2 H2 fp pins) ifs tt)
  (he:∀ C s2 H2 fp pins,PE (cxC X own outs scope C s2 H2 fp pins) elt te)
  (hsw:swapsWith (.ListComp elt [⟨tg,iter,ifs,0⟩] scope pos) (some (.Name x pos')) spos.line X.env=pure true:=by rfl)
  (hs:∀ x,foldedSetIterable iter X.env x=pure x:=by intro _;rfl) :
  PS X (.Assign [.Name x pos'] (.ListComp elt [⟨tg,iter,ifs,0⟩] scope pos) spos) (ZkX (ZkH own.length oix wi g tt te) (Zgy i)):=by
 intro pins s σ H D I h
 rw [exec_Assign_Name_used _ _ _ _ hsw]
 refine wpAny_bind (wpAny_standAt (wpAny_bind ?_))
 show wpAny _ X.A (do let _ ← comprehension (.ListComp elt [⟨tg,iter,ifs,0⟩] scope pos) scope X.env _ (newList []) false (eval iter X.env) (some (assign (.Name x pos') X.env))) _ _ s
 refine wpAny_bind (wpAny_mono (wpAny_comprehension_free (use:=some (assign (.Name x pos') X.env)) (Q:=fun _ s'=>SP X pins D .next s') rfl hs (Zb2 fun y hy hf=>I.ok.has y.1 (S.free y hy hf)) S.kind S.loc
  (thn (hi pins s σ H _ I h) fun xv s₁ h₁=>thn h₁ fun itv s₂ h₂=>?_)) (fun _ s' hq=>wpAny_pure (wpAny_pure hq)) fun _ _ e=>e)
 obtain ⟨it,fp,tn,J,H2,e,I2,T,st2,f2,turns⟩:=h₂
 subst e
 refine Zio (RR:=fun acc C=>compPost (model X.prog X.w) X.A X.xe (some (assign (.Name x pos') X.env)) (fun _ s'=>SP X pins D .next s') acc C) S hox hc hg ht he I2 T st2 f2 turns ?_
 intro C s' m H' hn I' hC hL h0 hcell hpin q
 show wpAny _ X.A (assign (.Name x pos') X.env (.ref s₂.heap.objs.size)) _ _ s'
 refine wpAny_assign_Name (Zid (v:=.ref s₂.heap.objs.size) I' hN hix (.inl hx) rfl (fun s'' I'' hsb=>?_) (.inr hx))
 obtain ⟨a,hsb,ha⟩:=hsb
 have hCa:C≠a:=by
  rcases ha with e | e
  ·rw [e];exact hL
  ·exact Ne.symm (hcell _ _ e)
 exact ⟨m,hn.sameBut hsb hCa,fun h' hs'=>⟨_,H',I''.turned (h':=h') (t':=s''.toks) (it:=C) (fun b o hb e=>hs'.extBut b o hb e) hC hL (.inr h0) hcell hpin,q⟩⟩
end
section
variable {K:PySem.W.Frag} {k:Nat} {oix:List Nat} {g:TG} {tt:TT} {te:TE} {σ:St} {H:Hp} {Q:VK}
end
def Its (x:Str):It:=⟨fun i _=>i<x.cps.size,fun i H v H'=>H'=H∧∃ c,x.cps[i]?=some c∧v=.str ⟨#[c]⟩,fun i _=>x.cps.size≤i⟩
theorem Zk0 {P:Program} {w:World} {K:PySem.W.Frag} {tg:Expr} (it:Addr) (x:Str) (t:Tok):ZfK P w K tg (Its x) [it] it (fun i h=>h.IsStrIter it "str_ascii_iterator" x t i) where
 mem:=by simp
 obj:=fun i h st b hb=>by
  have e:b=it:=by simpa using hb
  subst e
  obtain ⟨o,e,c,d⟩:=st
  exact ⟨o,e,fun v z=>by rw [d] at z;cases z⟩
 keep:=fun i h h' st k=>by
  obtain ⟨o,e,r⟩:=st
  exact ⟨o,k it (by simp) o e,r⟩
 item:=by
  intro X hP hw hK hc i pins s σ H E I hf st hg
  subst hP hw hK
  obtain ⟨f0,f1,f2,f3,f4,f5⟩:=hf it (by simp)
  have hg':i<x.cps.size:=hg
  refine wpAny_pyNext_ascii_item st (c:=x.cps[i]) (by simp [hg']) fun h' st' sb=>?_
  have I1:Inv X pins σ H { s with heap:=h',toks:=s.toks+1 }:=I.turned (t':=s.toks+1) (fun b o hb e=>(sb.2 b hb).trans e) f0 f1 f3 f4 f5
  obtain ⟨o,e,c,d⟩:=id st'
  exact ⟨_,rfl,ZhL (s:={ s with heap:=h',toks:=s.toks+1 }) e c d (by decide) ⟨.str ⟨#[x.cps[i]]⟩,H,I1,⟨_,rfl⟩,⟨rfl,_,by simp [hg'],rfl⟩,st',fun b hb=>(hf b hb).1⟩⟩
 done:=by
  intro X hP hw hK hc i pins s σ H E I hf st hg
  subst hP hw hK
  obtain ⟨f0,f1,f2,f3,f4,f5⟩:=hf it (by simp)
  have hg':x.cps.size≤i:=hg
  exact wpAny_pyNext_ascii_end (I.ok.hd hc) st (by simp [hg']) fun h' eb=>⟨rfl,I.turned (t':=s.toks) (fun b o hb e=>eb b o hb e) f0 f1 f3 f4 f5⟩
 self:=fun _ _ _ _ _ st h=>wpAny_pyIter_striter_ascii st h
theorem Zll {P:Program} {w:World} {K:PySem.W.Frag} {tg:Expr} (it:Addr) (x:Str) (t:Tok):ZfK P w K tg (Its x) [it] it (fun i h=>h.IsStrIter it "str_iterator" x t i) where
 mem:=by simp
 obj:=fun i h st b hb=>by
  have e:b=it:=by simpa using hb
  subst e
  obtain ⟨o,e,c,d⟩:=st
  exact ⟨o,e,fun v z=>by rw [d] at z;cases z⟩
 keep:=fun i h h' st k=>by
  obtain ⟨o,e,r⟩:=st
  exact ⟨o,k it (by simp) o e,r⟩
 item:=by
  intro X hP hw hK hc i pins s σ H E I hf st hg
  subst hP hw hK
  obtain ⟨f0,f1,f2,f3,f4,f5⟩:=hf it (by simp)
  have hg':i<x.cps.size:=hg
  refine wpAny_pyNext_wide_item st (c:=x.cps[i]) (by simp [hg']) fun h' st' sb=>?_
  have I1:Inv X pins σ H { s with heap:=h',toks:=s.toks+1 }:=I.turned (t':=s.toks+1) (fun b o hb e=>(sb.2 b hb).trans e) f0 f1 f3 f4 f5
  obtain ⟨o,e,c,d⟩:=id st'
  exact ⟨_,rfl,ZhL (s:={ s with heap:=h',toks:=s.toks+1 }) e c d (by decide) ⟨.str ⟨#[x.cps[i]]⟩,H,I1,⟨_,rfl⟩,⟨rfl,_,by simp [hg'],rfl⟩,st',fun b hb=>(hf b hb).1⟩⟩
 done:=by
  intro X hP hw hK hc i pins s σ H E I hf st hg
  subst hP hw hK
  obtain ⟨f0,f1,f2,f3,f4,f5⟩:=hf it (by simp)
  have hg':x.cps.size≤i:=hg
  exact wpAny_pyNext_wide_end (I.ok.hd hc) st (by simp [hg']) fun h' eb=>⟨rfl,I.turned (t':=s.toks) (fun b o hb e=>eb b o hb e) f0 f1 f3 f4 f5⟩
 self:=fun _ _ _ _ _ st h=>wpAny_pyIter_striter_wide st h
section
variable {X:Cx} {tg:Expr}
def Zrr (tl:TE):TI:=fun σ H R=>tl σ H fun v H1=>∃ x,v=.str x∧R (Its x) H1
theorem Zoh {l:Expr} {tl:TE} (hl:PE X l tl):PI X tg l (Zrr tl):=by
 intro pins s σ H R I h
 refine thn (hl pins s σ H _ I h) fun v s1 ⟨y,H1,I1,r1,q1⟩=>?_
 obtain ⟨x,e,q⟩:=q1
 subst e
 obtain ⟨t,rfl⟩:=r1
 have fp:∀ {o:Obj} (b:Addr),b∈[s1.heap.objs.size]→Zdp X pins H1 b:=fun {o} b hb=>by
  have e:b=s1.heap.objs.size:=by simpa using hb
  subst e
  exact I1.fpOk (Nat.le_refl _) (I1.hok.fresh (Nat.le_refl _))
 cases ha:x.cps.all (·<128)
 ·exact wpAny_pyIter_wide ha ⟨s1.heap.objs.size,[s1.heap.objs.size],_,_,H1,rfl,I1.kept (t':=s1.toks) fun b o e=>Heap.get?_push_of_some _ e,Zll _ x t,⟨_,Heap.get?_push_size _ rfl,rfl,rfl⟩,fp (o:=default),q⟩
 ·exact wpAny_pyIter_ascii ha ⟨s1.heap.objs.size,[s1.heap.objs.size],_,_,H1,rfl,I1.kept (t':=s1.toks) fun b o e=>Heap.get?_push_of_some _ e,Zk0 _ x t,⟨_,Heap.get?_push_size _ rfl,rfl,rfl⟩,fp (o:=default),q⟩
end
end L2
namespace L2
open PySem PySem.Spec PyProof.Rows
section
variable {X:Cx}
end
section
variable {X:Cx}
def ZqY:V→Option Int→Option Int→Hp→VK→Prop:=fun x lo hi H Q=>∃ z,x=.str z∧z.length≤sizeLine∧Q (.str (Txt.slice z lo hi)) H
theorem Zoy:SlR X ZqY:=by
 intro pins s σ H x v vl vu lo hi sl Q I rx hs pl pu h
 obtain ⟨z,rfl,hz,q⟩:=h
 obtain ⟨t,rfl⟩:=rx
 refine ⟨"str",_,PySem.F.slot_str_getitem.lookup,typeIs_str s z t,?_⟩
 cases pl with
 | none =>
  cases pu with
  | none=>exact wpAny_getItem_str_slice (l:=none) (u:=none) (st:=none) hs rfl (post_val_or_str ⟨Nat.le_trans (Txt.slice_le z _ _) hz,fun t' k=>⟨.str (Txt.slice z none none),H,I.tok _,⟨_,rfl⟩,q⟩⟩)
  | int j uj=>exact wpAny_getItem_str_slice (l:=none) (u:=some (j,uj)) (st:=none) hs rfl (post_val_or_str ⟨Nat.le_trans (Txt.slice_le z _ _) hz,fun t' k=>⟨.str (Txt.slice z none (some j)),H,I.tok _,⟨_,rfl⟩,q⟩⟩)
 | int i ui =>
  cases pu with
  | none=>exact wpAny_getItem_str_slice (l:=some (i,ui)) (u:=none) (st:=none) hs rfl (post_val_or_str ⟨Nat.le_trans (Txt.slice_le z _ _) hz,fun t' k=>⟨.str (Txt.slice z (some i) none),H,I.tok _,⟨_,rfl⟩,q⟩⟩)
  | int j uj=>exact wpAny_getItem_str_slice (l:=some (i,ui)) (u:=some (j,uj)) (st:=none) hs rfl (post_val_or_str ⟨Nat.le_trans (Txt.slice_le z _ _) hz,fun t' k=>⟨.str (Txt.slice z (some i) (some j)),H,I.tok _,⟨_,rfl⟩,q⟩⟩)
def Zlg:V→List V→Hp→VK→Prop:=fun x vs H Q=>∃ z,x=.str z∧vs=[]∧Builtin.Str.tooLong (Txt.upper z).length=false∧Q (.str (Txt.upper z)) H
theorem Zm4:MtR X "str.upper" Zlg:=by
 intro pins s σ H x vs v us Q I rx rv h
 obtain ⟨z,rfl,rfl,hf,q⟩:=h
 obtain ⟨t,rfl⟩:=rx
 cases rv
 exact SC.upper hf ⟨.str _,H,I.tok _,⟨_,rfl⟩,q⟩
end
theorem ZgI {bs:List Bool}:∀ {us:List Value},Vals (bs.map V.bl) us→LSm.BoolsAre us bs:=by
 induction bs with
 | nil=>intro us r;rw [List.map_nil] at r;cases r;exact .nil
 | cons n ns ih =>
  intro us r
  rw [List.map_cons] at r
  cases r with
  | cons r1 r2 =>
   have e:_=Value.bool n:=r1
   subst e
   exact .cons n (ih r2)
section
variable {X:Cx}
theorem ZjH (hc:X.calm=true):CallR X (.builtin "all") (fun xs H Q=>∃ (a:Addr) (bs:List Bool),xs=[.ref a]∧SqL X.K H a (bs.map V.bl)∧Q (.bl (bs.all id)) H):=by
 intro pins s σ H xs us Q I r h
 obtain ⟨a,bs,rfl,hq,q⟩:=h
 obtain ⟨u,rfl,ru⟩:=Zep r
 cases ru
 obtain ⟨its,rv,pl,hz⟩:=I.list hq
 have hb:=ZgI rv
 have hl:=pl.isList
 have hlt:a<s.heap.objs.size:=by obtain ⟨_,e,_⟩:=hl;exact Heap.lt_size e
 refine call_all_walk (wpAny_pyIter_list hl ?_)
 refine ⟨s.heap.objs.size,[s.heap.objs.size,a],[s.heap.objs.size],its.toArray.size,_,_,fun i=>(bs[i]?).getD true,rfl,Walks.list (A:=X.A.in1) (I.ok.hd hc) _ a (Nat.ne_of_lt hlt) its.toArray,
  ⟨⟨_,Heap.get?_push_size _ rfl,rfl,rfl⟩,hl.push _⟩,fun i v s' Q' E' hP hQ=>?_,fun h' tk hk=>⟨.bl _,H,I.kept (LSm.kept_iter hk),rfl,?_⟩⟩
 ·obtain ⟨b,e,rfl⟩:=hb.get i v (by simpa using hP)
  simp only [e,Option.getD_some] at hQ
  exact wpAny_truthy_bool hQ
 ·have e:((List.range its.toArray.size).all fun i=>(bs[i]?).getD true)=bs.all id:=by
   rw [List.size_toArray,hb.length];exact LSm.range_all bs
  rw [e]
  exact q
end
section
open PySem.SeqAt
inductive ZdH (A:Around) (s:Shared):List Value→List Value→Bool→Prop where
 | nn:ZdH A s [] [] false
 | nc {w ws}:ZdH A s [] (w::ws) true
 | cn {v vs}:ZdH A s (v::vs) [] false
 | eq {v w vs ws b}:EqAt A s v w true→ZdH A s vs ws b→ZdH A s (v::vs) (w::ws) b
 | ne {v w vs ws b}:EqAt A s v w false→(∀ (prog:Program) (wo:World) (E Q:Value→Shared→Prop),Q (.bool b) s→wpAny (model prog wo) A (richCompare .Lt v w) Q E s)→ZdH A s (v::vs) (w::ws) b
end
section
open PySem.SeqAt
open PySem.AutoSeq1 (wpAny_loadPart')
open PySem.MeetsSeq PySem.MeetsSeq2 PySem.MeetsSeq3
theorem ZjU (l b:Addr) (items items2:Array Value) (n n2:Nat) (dd dd2:Option Addr) (sl sl2:Array (Option Value)) (r:Bool) :
  Meets (Builtin.«tuple.__lt__» ⟨[.ref l,.ref b],[]⟩)
   (fun A R s=>s.heap.get? l=some { cls:=.type "tuple",dict:=dd,data:=.seq items n,slots:=sl }∧s.heap.get? b=some { cls:=.type "tuple",dict:=dd2,data:=.seq items2 n2,slots:=sl2 } ∧
    ZdH A.in1 s items.toList items2.toList r∧R (.ok (.ret (.bool r))) s) :=
 .of_wp fun prog w A R s h=>by
  obtain ⟨hp,g,d,tk,os⟩:=s;obtain ⟨hl,hb,hlt,h⟩:=h
  have f2:=AutoSeq1.sub_tuple_tuple
  wp_walk using wpAny_loadPart' hl,wpAny_loadPart' hb,wpAny_forIn_list _ (fun ZV b s'=>b.1=none∧s'=⟨hp,g,d,tk,os⟩∧∃ (vs ws:List Value),ZV=vs.zip ws ∧
   ZdH A.in1 ⟨hp,g,d,tk,os⟩ vs ws r∧vs.length+items2.size=ws.length+items.size) _
  case turn =>
   rintro ⟨y,x⟩ ZV b s' ⟨hb',rfl,vs,ws,hz,hlt',hlen⟩
   cases hlt' with
   | nn=>rw [List.zip_nil_left] at hz;cases hz
   | nc=>rw [List.zip_nil_left] at hz;cases hz
   | cn=>rw [List.zip_nil_right] at hz;cases hz
   | eq he hr =>
    rw [List.zip_cons_cons] at hz
    injection hz with hyx hrest
    injection hyx with hy hx
    subst hy hx
    simp only [List.length_cons] at hlen
    refine wpAny_bind (he prog w _ _ ?_)
    wp_walk
    exact ⟨rfl,rfl,_,_,hrest,hr,by omega⟩
   | ne he hr =>
    rw [List.zip_cons_cons] at hz
    injection hz with hyx hrest
    injection hyx with hy hx
    subst hy hx
    refine wpAny_bind (he prog w _ _ ?_)
    have hri:=hr prog w
    wp_walk using hri
    exact ⟨_,rfl,by simpa using h⟩
  case fin =>
   rintro ⟨b1,b2⟩ s' ⟨hb',rfl,vs,ws,hz,hlt',hlen⟩
   simp only at hb'
   subst hb'
   have hv:r=decide (items.size<items2.size):=by
    cases hlt' with
    | nn =>
     simp only [List.length_nil] at hlen
     exact (decide_eq_false (by omega)).symm
    | nc =>
     simp only [List.length_nil,List.length_cons] at hlen
     exact (decide_eq_true (by omega)).symm
    | cn =>
     simp only [List.length_nil,List.length_cons] at hlen
     exact (decide_eq_false (by omega)).symm
    | eq _ _=>rw [List.zip_cons_cons] at hz;cases hz
    | ne _ _=>rw [List.zip_cons_cons] at hz;cases hz
   rw [hv] at h
   wp_walk
   exact ⟨_,rfl,by simpa [Builtin.Tuple.tupleCompareSizes] using h⟩
  case h =>
   exact ⟨rfl,rfl,items.toList,items2.toList,rfl,hlt,by simp;omega⟩
theorem Zmx (l b:Addr) (items items2:Array Value) (n n2:Nat) (dd dd2:Option Addr) (sl sl2:Array (Option Value)) (r:Bool) (k:Nat) :
  ∀ i:Nat,items.size-i=k→Meets (Builtin.«list.__eq__.loop» ⟨[.ref l,.ref b,rawInt i,rawInt 0],[]⟩)
   (fun A R s=>s.heap.get? l=some { cls:=.type "list",dict:=dd,data:=.seq items n,slots:=sl }∧s.heap.get? b=some { cls:=.type "list",dict:=dd2,data:=.seq items2 n2,slots:=sl2 } ∧
    ZdH A.in1 s (items.toList.drop i) (items2.toList.drop i) r∧(i≤items.size∧i≤items2.size)∧R (.ok (.ret (.bool r))) s):=by
 induction k with
 | zero =>
  intro i hk prog w A R s h
  obtain ⟨hp,g,d,tk,os⟩:=s;obtain ⟨hl,hb,he,⟨z1,z2⟩,h⟩:=h
  wp_walk using wpAny_loadPart' hl,wpAny_loadPart' hb
  have hi1:items[((i:Nat):Int).toNat]?=none:=by simp;omega
  have hd:items.toList.drop i=[]:=List.drop_eq_nil_of_le (by simp;omega)
  rw [hd] at he
  rw [hi1]
  have hr:r=decide (items.size<items2.size):=by
   cases hx:items2.toList.drop i with
   | nil =>
    rw [hx] at he
    have:=congrArg List.length hx
    simp at this
    cases he
    exact (decide_eq_false (by omega)).symm
   | cons a t =>
    rw [hx] at he
    have:=congrArg List.length hx
    simp at this
    cases he
    exact (decide_eq_true (by omega)).symm
  rw [hr] at h
  wp_walk using wpAny_loadPart' hl,wpAny_loadPart' hb
  exact h
 | succ k ih =>
  intro i hk prog w A R s h
  obtain ⟨hp,g,d,tk,os⟩:=s;obtain ⟨hl,hb,he,⟨z1,z2⟩,h⟩:=h
  wp_walk using wpAny_loadPart' hl,wpAny_loadPart' hb
  have hlt:i<items.size:=by omega
  have hi1:items[((i:Nat):Int).toNat]?=some items[i]:=by simp [hlt]
  have hd:items.toList.drop i=items[i]::items.toList.drop (i+1):=by rw [List.drop_eq_getElem_cons (by simpa using hlt)];simp
  have hc:((i:Int)+1)=((i+1:Nat):Int):=by push_cast;rfl
  rw [hd] at he
  rw [hi1]
  by_cases hlt2:i<items2.size
  ·have hi2:items2[((i:Nat):Int).toNat]?=some items2[i]:=by simp [hlt2]
   have hd2:items2.toList.drop i=items2[i]::items2.toList.drop (i+1):=by rw [List.drop_eq_getElem_cons (by simpa using hlt2)];simp
   rw [hd2] at he
   rw [hi2]
   cases he with
   | eq he hr =>
    refine wpAny_bind (he prog w _ _ ?_)
    wp_walk
    rw [hc]
    exact ⟨plainId_quiet plain_eq_loop _,codeAny_builtin entry_eq_loop (by
     rw [Around.under_plainId plain_eq_loop _]
     exact ih (i+1) (by omega) prog w A R _ ⟨hl,hb,hr,⟨hlt,hlt2⟩,h⟩)⟩
   | ne he hr =>
    refine wpAny_bind (he prog w _ _ ?_)
    wp_walk using wpAny_loadPart' hl,wpAny_loadPart' hb
    rw [hi1,hi2]
    have hri:=hr prog w
    wp_walk using hri
    exact h
  ·have hi2:items2[((i:Nat):Int).toNat]?=none:=by simp;omega
   have hd2:items2.toList.drop i=[]:=List.drop_eq_nil_of_le (by simp;omega)
   rw [hd2] at he
   rw [hi2]
   have hr:r=decide (items.size<items2.size):=by
    cases he
    exact (decide_eq_false (by omega)).symm
   rw [hr] at h
   wp_walk using wpAny_loadPart' hl,wpAny_loadPart' hb
   exact h
theorem Zkz (l b:Addr) (items items2:Array Value) (n n2:Nat) (dd dd2:Option Addr) (sl sl2:Array (Option Value)) (r:Bool) :
  Meets (Builtin.«list.__lt__» ⟨[.ref l,.ref b],[]⟩)
   (fun A R s=>s.heap.get? l=some { cls:=.type "list",dict:=dd,data:=.seq items n,slots:=sl }∧s.heap.get? b=some { cls:=.type "list",dict:=dd2,data:=.seq items2 n2,slots:=sl2 } ∧
    ZdH A.in1 s items.toList items2.toList r∧R (.ok (.ret (.bool r))) s):=by
 intro prog w A R s h
 obtain ⟨hp,g,d,tk,os⟩:=s;obtain ⟨hl,hb,he,h⟩:=h
 have f3:=AutoSeq1.sub_list_list
 wp_walk using wpAny_loadPart' hl,wpAny_loadPart' hb
 exact ⟨plainId_quiet plain_eq_loop _,codeAny_builtin entry_eq_loop (by
  rw [Around.under_plainId plain_eq_loop _]
  exact Zmx l b items items2 n n2 dd dd2 sl sl2 r _ 0 rfl prog w A R _ ⟨hl,hb,he,⟨Nat.zero_le _,Nat.zero_le _⟩,h⟩)⟩
end
section
variable {prog:Program} {w:World} {A:Around} {E:Value→Shared→Prop} {s:Shared}
theorem Zmj {l b:Addr} {items items2:Array Value} {r:Bool} {Q:Value→Shared→Prop} (hl:IsTup s.heap l items) (hb:IsTup s.heap b items2) (hr:ZdH A.in1 s items.toList items2.toList r)
  (hu:A.units<cLine) (h:Q (.bool r) s):wpAny (model prog w) A (richCompare .Lt (.ref l) (.ref b)) Q E s:=by
 obtain ⟨⟨cls,dd,data,sl⟩,ho,hc,n,hd⟩:=id hl
 obtain ⟨⟨cls2,dd2,data2,sl2⟩,ho2,hc2,n2,hd2⟩:=id hb
 simp only at hc hd hc2 hd2
 subst hc hd hc2 hd2
 exact richCompare_meets_room (op:=.Lt) ⟨_,ho,rfl⟩ ⟨_,ho2,rfl⟩ PySem.F.slot_tuple_lt PySem.F.entry_tuple_lt (PySem.F.args_tuple_lt_2 _ _) (ZjU l b items items2 n n2 dd dd2 sl sl2 r)
  ⟨ho,ho2,hr,show Value.bool r≠Value.notImplemented∧Q (.bool r) s from ⟨(fun x=>nomatch x),h⟩⟩ hu
theorem ZmA {l b:Addr} {items items2:Array Value} {r:Bool} {n n2:Nat} {dd dd2:Option Addr} {sl sl2:Array (Option Value)} {Q:Value→Shared→Prop} (hl:s.heap.get? l=some { cls:=.type "list",dict:=dd,data:=.seq items n,slots:=sl }) (hb:s.heap.get? b=some { cls:=.type "list",dict:=dd2,data:=.seq items2 n2,slots:=sl2 }) (hr:ZdH A.in1 s items.toList items2.toList r)
  (hu:A.units<cLine) (h:Q (.bool r) s):wpAny (model prog w) A (richCompare .Lt (.ref l) (.ref b)) Q E s :=
 richCompare_meets_room (op:=.Lt) ⟨_,hl,rfl⟩ ⟨_,hb,rfl⟩ PySem.F.slot_list_lt PySem.F.entry_list_lt (PySem.F.args_list_lt_2 _ _) (Zkz l b items items2 n n2 dd dd2 sl sl2 r)
  ⟨hl,hb,hr,show Value.bool r≠Value.notImplemented∧Q (.bool r) s from ⟨(fun x=>nomatch x),h⟩⟩ hu
end
section
variable {X:Cx}
end
theorem Zbc (x:Str):x.cps.toList.length=x.length:=by simp [Str.length]
def ZiU (K:PySem.W.Frag):Sp:=fun vs H Q _=>∃ (a:Addr) (ns:List Int),vs=[.ref a]∧SqL K H a (ns.map V.int)∧ns.length≤63∧∀ H',Q (.bl true) H'
section
variable {X:Cx}
end
section
variable {X:Cx}
end
theorem Zmo {H:Hp} {p:Addr} {o:HO} (h:H p=none):Same H (upd H p o):=fun b u e=>by rw [ZB (ZX e h)];exact e
end L2
namespace L2
open PySem PySem.Spec PyProof.Rows
theorem ZeP {A B:Prop} (h:A):(if true=true then A else B):=(if_pos (c:=true=true) rfl:ite _ A B=A) ▸ h
theorem ZeV {A B:Prop} (h:B):(if false=true then A else B):=(if_neg (c:=false=true) Bool.false_ne_true:ite _ A B=B) ▸ h
inductive D where
 | non | bl (b:Bool) | int (i:Int) | str (x:Str) | ty (n:String) | tup (xs:List D) | lst (xs:List D) (b:Bool:=false)
def ZpM:D→At
 | .int i=>.int i
 | .str x=>.str x
 | _=>.non
def Zrq:D→KT
 | .tup l=>.tup (l.map ZpM)
 | d=>.at (ZpM d)
def ZiV:List D→List KT
 | k::_::r=>Zrq k::ZiV r
 | _=>[]
def CO (b:Bool) (xs:List D) (vs:List V):HO:=match b with
 | false=>.lst vs
 | true=>.dct (ZiV xs) vs
def isL:HO→Bool
 | .lst _=>true
 | .dct _ _=>true
 | _=>false
theorem Zo0 (b:Bool) (xs:List D) (vs:List V):isL (CO b xs vs)=true:=by cases b<;>rfl
abbrev Fb:=Addr→Prop
def KL (K:PySem.W.Frag) (a:Addr) (vs:List V):Prop:=SqL K (fun _=>none) a vs
def LstAt (K:PySem.W.Frag) (N:Fb) (H:Hp) (a:Addr) (o:HO):Prop:=(¬ N a∧Rd H a o)∨∃ vs,o=.lst vs∧KL K a vs
theorem KL.sq {K:PySem.W.Frag} {H:Hp} {a:Addr} {vs:List V} (h:KL K a vs):SqL K H a vs:=by
 rcases h with (h | ⟨o,h⟩) | h
 ·cases h
 ·cases h
 ·exact .inr h
theorem LstAt.sq {K:PySem.W.Frag} {N:Fb} {H:Hp} {a:Addr} {vs:List V} (h:LstAt K N H a (.lst vs)):SqL K H a vs:=by
 rcases h with ⟨_,h⟩ | ⟨ws,e,h⟩
 ·exact .inl h
 ·cases e;exact h.sq
theorem LstAt.of {K:PySem.W.Frag} {N:Fb} {H:Hp} {a:Addr} {o:HO} (n:¬ N a) (h:H a=some o):LstAt K N H a o:=.inl ⟨n,.inl h⟩
theorem LstAt.of_sq {K:PySem.W.Frag} {H:Hp} {a:Addr} {vs:List V} (h:SqL K H a vs):LstAt K (fun _=>False) H a (.lst vs):=by
 rcases h with h | h
 ·exact .inl ⟨id,h⟩
 ·exact .inr ⟨vs,rfl,.inr h⟩
mutual
def Den (K:PySem.W.Frag) (N:Fb) (H:Hp):D→V→Prop
 | .non,v=>v=.non
 | .bl b,v=>v=.bl b
 | .int i,v=>v=.int i
 | .str x,v=>v=.str x
 | .ty n,v=>v=.ty n
 | .tup xs,v=>∃ a vs,v=.ref a∧SqT K H a vs∧DenL K N H xs vs
 | .lst xs b,v=>∃ a vs,v=.ref a∧LstAt K N H a (CO b xs vs)∧DenL K N H xs vs
def DenL (K:PySem.W.Frag) (N:Fb) (H:Hp):List D→List V→Prop
 | [],vs=>vs=[]
 | x::xs,vs=>∃ v r,vs=v::r∧Den K N H x v∧DenL K N H xs r
end
structure Step (M N N':Fb) (H H':Hp):Prop where
 kp:∀ a o,H a=some o→(¬ N a∨M a∨isL o=false)→H' a=some o
 nw:∀ a,N' a→N a∨H a=none
theorem Step.trans {M N N1 N2:Fb} {H H1 H2:Hp} (a:Step M N N1 H H1) (b:Step M N1 N2 H1 H2):Step M N N2 H H2 where
 kp:=fun c o h z=>by
  have h1:=a.kp c o h z
  refine b.kp c o h1 ?_
  rcases z with z | z | z
  ·refine .inl fun n1=>?_
   rcases a.nw c n1 with q | q
   ·exact z q
   ·rw [h] at q;cases q
  ·exact .inr (.inl z)
  ·exact .inr (.inr z)
 nw:=fun c n2=>by
  rcases b.nw c n2 with q | q
  ·exact a.nw c q
  ·cases e:H c with
   | none=>exact .inr rfl
   | some o =>
    refine .inl (Classical.byContradiction fun z=>?_)
    rw [a.kp c o e (.inl z)] at q
    cases q
theorem Step.of_same {M N:Fb} {H H':Hp} (s:Same H H'):Step M N N H H':=⟨fun a o h _=>s a o h,fun a h=>.inl h⟩
theorem Step.refl {M N:Fb} {H:Hp}:Step M N N H H:=Step.of_same (Same.refl H)
theorem Rd.step {M N N':Fb} {H H':Hp} {a:Addr} {u:HO} (s:Step M N N' H H') (h:Rd H a u) (z:¬ N a∨M a∨isL u=false):Rd H' a u:=by
 rcases h with h | ⟨o,h⟩
 ·exact .inl (s.kp a u h z)
 ·exact .inr ⟨o,s.kp a _ h (.inr (.inr rfl))⟩
theorem Rd.same {H H':Hp} {a:Addr} {u:HO} (s:Same H H') (h:Rd H a u):Rd H' a u:=by
 rcases h with h | ⟨o,h⟩
 ·exact .inl (s a u h)
 ·exact .inr ⟨o,s a _ h⟩
theorem SqT.step {K:PySem.W.Frag} {M N N':Fb} {H H':Hp} {a:Addr} {xs:List V} (s:Step M N N' H H') (h:SqT K H a xs):SqT K H' a xs:=by
 rcases h with h | h
 ·exact .inl (h.step s (.inr (.inr rfl)))
 ·exact .inr h
theorem SqT.same {K:PySem.W.Frag} {H H':Hp} {a:Addr} {xs:List V} (s:Same H H') (h:SqT K H a xs):SqT K H' a xs:=SqT.step (M:=fun _=>False) (N:=fun _=>False) (Step.of_same s) h
theorem Rd.has {H:Hp} {a:Addr} {u:HO} (h:Rd H a u):H a≠none:=by
 rcases h with h | ⟨o,h⟩<;>rw [h]<;>exact fun e=>nomatch e
mutual
theorem Den.step {K:PySem.W.Frag} {M N N':Fb} {H H':Hp} (s:Step M N N' H H'):∀ (d:D) (v:V),Den K N H d v→Den K N' H' d v
 | .non,_,h=>h
 | .bl _,_,h=>h
 | .int _,_,h=>h
 | .str _,_,h=>h
 | .ty _,_,h=>h
 | .tup xs,v,h=>by
  simp only [Den] at h ⊢
  obtain ⟨a,vs,e,q,r⟩:=h
  exact ⟨a,vs,e,q.step s,DenL.step s xs vs r⟩
 | .lst xs fl,v,h=>by
  simp only [Den] at h ⊢
  obtain ⟨a,vs,e,q,r⟩:=h
  refine ⟨a,vs,e,?_,DenL.step s xs vs r⟩
  rcases q with ⟨n,q⟩ | q
  ·refine .inl ⟨fun n'=>?_,q.step s (.inl n)⟩
   rcases s.nw a n' with z | z
   ·exact n z
   ·exact q.has z
  ·exact .inr q
theorem DenL.step {K:PySem.W.Frag} {M N N':Fb} {H H':Hp} (s:Step M N N' H H'):∀ (xs:List D) (vs:List V),DenL K N H xs vs→DenL K N' H' xs vs
 | [],_,h=>h
 | x::xs,vs,h=>by
  simp only [DenL] at h ⊢
  obtain ⟨v,r,e,q,t⟩:=h
  exact ⟨v,r,e,Den.step s x v q,DenL.step s xs r t⟩
end
section
variable {K:PySem.W.Frag} {M N N':Fb} {H H':Hp} {d:D} {v:V} {xs ys:List D} {vs ws:List V} {a:Addr}
theorem Den.same (h:Den K N H d v) (s:Same H H'):Den K N H' d v:=Den.step (M:=N) (Step.of_same s) d v h
theorem DenL.same (h:DenL K N H xs vs) (s:Same H H'):DenL K N H' xs vs:=DenL.step (M:=N) (Step.of_same s) xs vs h
theorem Den.nw (h:Den K N H d v) (z:∀ a,N' a→N a∨H a=none):Den K N' H d v:=Den.step (M:=N) (H':=H) ⟨fun _ _ h _=>h,z⟩ d v h
theorem DenL.nw (h:DenL K N H xs vs) (z:∀ a,N' a→N a∨H a=none):DenL K N' H xs vs:=DenL.step (M:=N) (H':=H) ⟨fun _ _ h _=>h,z⟩ xs vs h
theorem DenL.length:∀ {xs:List D} {vs:List V},DenL K N H xs vs→xs.length=vs.length
 | [],_,h=>by simp only [DenL] at h;subst h;rfl
 | _::xs,_,h=>by simp only [DenL] at h;obtain ⟨v,r,e,_,t⟩:=h;subst e;simp [DenL.length t]
theorem DenL.get:∀ {xs:List D} {vs:List V} {i:Nat} {d:D},DenL K N H xs vs→xs[i]?=some d→∃ v,vs[i]?=some v∧Den K N H d v
 | [],_,i,d,_,e=>by simp at e
 | x::xs,_,0,d,h,e=>by
  simp only [DenL] at h;obtain ⟨v,r,e1,q,_⟩:=h;subst e1
  simp at e;subst e;exact ⟨v,rfl,q⟩
 | x::xs,_,i+1,d,h,e=>by
  simp only [DenL] at h;obtain ⟨v,r,e1,_,t⟩:=h;subst e1
  obtain ⟨w,h1,h2⟩:=DenL.get (i:=i) t (by simpa using e)
  exact ⟨w,by simpa using h1,h2⟩
theorem DenL.get':∀ {xs:List D} {vs:List V} {i:Nat} {v:V},DenL K N H xs vs→vs[i]?=some v→∃ d,xs[i]?=some d∧Den K N H d v:=by
 intro xs vs i v h e
 have hl:=h.length
 have hi:i<vs.length:=(List.getElem?_eq_some_iff.mp e).1
 have hx:xs[i]?=some xs[i]:=List.getElem?_eq_getElem (by omega)
 obtain ⟨w,h1,h2⟩:=h.get hx
 rw [e] at h1;cases h1
 exact ⟨_,hx,h2⟩
theorem DenL.append:∀ {xs ys:List D} {vs ws:List V},DenL K N H xs vs→DenL K N H ys ws→DenL K N H (xs++ys) (vs++ws)
 | [],_,_,_,h,h'=>by simp only [DenL] at h;subst h;exact h'
 | x::xs,ys,_,ws,h,h'=>by
  simp only [DenL] at h;obtain ⟨v,r,e,q,t⟩:=h;subst e
  simp only [List.cons_append,DenL]
  exact ⟨v,r++ws,rfl,q,DenL.append t h'⟩
theorem DenL.nil:DenL K N H [] []:=by simp only [DenL]
theorem DenL.cons (h:Den K N H d v) (t:DenL K N H xs vs):DenL K N H (d::xs) (v::vs):=by simp only [DenL];exact ⟨v,vs,rfl,h,t⟩
theorem DenL.take:∀ {xs:List D} {vs:List V} (n:Nat),DenL K N H xs vs→DenL K N H (xs.take n) (vs.take n)
 | _,_,0,_=>by simpa using DenL.nil
 | [],_,n+1,h=>by simp only [DenL] at h;subst h;simpa using DenL.nil
 | x::xs,_,n+1,h=>by
  simp only [DenL] at h;obtain ⟨v,r,e,q,t⟩:=h;subst e
  simpa using DenL.cons q (DenL.take n t)
theorem DenL.drop:∀ {xs:List D} {vs:List V} (n:Nat),DenL K N H xs vs→DenL K N H (xs.drop n) (vs.drop n)
 | _,_,0,h=>by simpa using h
 | [],_,n+1,h=>by simp only [DenL] at h;subst h;simpa using DenL.nil
 | x::xs,_,n+1,h=>by
  simp only [DenL] at h;obtain ⟨v,r,e,q,t⟩:=h;subst e
  simpa using DenL.drop n t
theorem DenL.reverse:∀ {xs:List D} {vs:List V},DenL K N H xs vs→DenL K N H xs.reverse vs.reverse
 | [],_,h=>by simp only [DenL] at h;subst h;simpa using DenL.nil
 | x::xs,_,h=>by
  simp only [DenL] at h;obtain ⟨v,r,e,q,t⟩:=h;subst e
  simpa using DenL.append (DenL.reverse t) (DenL.cons q DenL.nil)
theorem DenL.set:∀ {xs:List D} {vs:List V} (i:Nat),DenL K N H xs vs→Den K N H d v→DenL K N H (xs.set i d) (vs.set i v)
 | [],_,_,h,_=>by simp only [DenL] at h;subst h;simpa using DenL.nil
 | x::xs,_,0,h,q=>by
  simp only [DenL] at h;obtain ⟨v,r,e,_,t⟩:=h;subst e
  simpa using DenL.cons q t
 | x::xs,_,i+1,h,q=>by
  simp only [DenL] at h;obtain ⟨v,r,e,q',t⟩:=h;subst e
  simpa using DenL.cons q' (DenL.set i t q)
theorem DenL.ints:∀ (ns:List Int),DenL K N H (ns.map D.int) (ns.map V.int)
 | []=>DenL.nil
 | n::ns=>DenL.cons (by simp only [Den]) (DenL.ints ns)
end
inductive Sl where
 | no | val (d:D) | own (xs:List D) (b:Bool:=false) | lent (xs:List D) (b:Bool:=false) | exc (c:Str)
def XAt (e C:Addr) (h:Heap):Prop:=∃ o vs,h.get? e=some o∧o.cls=.ref C∧o.data=.fields vs∧vs[2]?=some .none
abbrev VE:=List Sl
def Nf (M:Fb) (ρ:VE) (σ:St):Fb:=fun a=>M a∨∃ (i:Nat) (xs:List D) (b:Bool),ρ[i]?=some (Sl.own xs b)∧σ[i]?=some (some (V.ref a))
def ZoN (K:PySem.W.Frag) (M N:Fb) (H0 H:Hp):Sl→Option V→Prop
 | .no,_=>True
 | .val d,o=>∃ v,o=some v∧Den K N H d v
 | .own xs b,o=>∃ a vs,o=some (.ref a)∧H0 a=none∧¬ M a∧H a=some (CO b xs vs)∧DenL K N H xs vs
 | .lent xs b,o=>∃ a vs,o=some (.ref a)∧M a∧Rd H a (CO b xs vs)∧DenL K N H xs vs
 | .exc c,o=>∃ a C,o=some (.ref a)∧PySem.W.nsIn K mainGlobals c=some (some (.ref C))∧H a=some (.ext (XAt a C))
structure Rel (K:PySem.W.Frag) (M:Fb) (H0:Hp) (ρ:VE) (σ:St) (H:Hp):Prop where
 len:ρ.length=σ.length
 same:Same H0 H
 mh:∀ a,M a→H a≠none
 slot:∀ (i:Nat) (s:Sl),ρ[i]?=some s→ZoN K M (Nf M ρ σ) H0 H s (σ[i]?.join)
 inj:∀ (i j:Nat) (xs ys:List D) (b b':Bool) (a:Addr),ρ[i]?=some (Sl.own xs b)→ρ[j]?=some (Sl.own ys b')→σ[i]?=some (some (V.ref a))→σ[j]?=some (some (V.ref a))→i=j
section
variable {K:PySem.W.Frag} {M N:Fb} {H0 H H':Hp} {ρ:VE} {σ:St}
theorem Rel.nh (R:Rel K M H0 ρ σ H):∀ a,Nf M ρ σ a→H a≠none:=by
 rintro a (h | ⟨i,xs,fl,h1,h2⟩)
 ·exact R.mh a h
 ·obtain ⟨b,vs,e,_,_,q,_⟩:=R.slot i _ h1
  rw [h2] at e
  have e':b=a:=by simpa using e.symm
  rw [← e',q];exact fun z=>nomatch z
theorem Rel.st (R:Rel K M H0 ρ σ H) (s:Same H H'):Rel K M H0 ρ σ H' where
 len:=R.len
 same:=R.same.trans s
 mh:=fun a h z=>R.mh a h (s.free z)
 slot:=fun i sl e=>by
  have q:=R.slot i sl e
  cases sl with
  | no=>trivial
  | val d=>obtain ⟨v,e,h⟩:=q;exact ⟨v,e,h.same s⟩
  | own xs fl=>obtain ⟨a,vs,e,h1,h2,h3,h4⟩:=q;exact ⟨a,vs,e,h1,h2,s _ _ h3,h4.same s⟩
  | lent xs fl=>obtain ⟨a,vs,e,h1,h2,h3⟩:=q;exact ⟨a,vs,e,h1,h2.same s,h3.same s⟩
  | exc c=>obtain ⟨a,C,e,h1,h2⟩:=q;exact ⟨a,C,e,h1,s _ _ h2⟩
 inj:=R.inj
theorem Rel.fresh (R:Rel K M H0 ρ σ H) {p:Addr} (h:H p=none):¬ Nf M ρ σ p:=fun n=>R.nh p n h
end
def tD (K:PySem.W.Frag) (M:Fb) (H0:Hp) (f:VE→Option D):TE:=fun σ H Q=>∃ ρ d,Rel K M H0 ρ σ H∧f ρ=some d∧∀ v H',Same H H'→Den K (Nf M ρ σ) H' d v→Q v H'
def DenP (K:PySem.W.Frag) (N:Fb) (H:Hp) (d:D) (v:V):Prop:=match d with
 | .lst xs=>∃ a vs,v=.ref a∧SqL K H a vs∧DenL K N H xs vs
 | .lst xs true=>∃ a vs,v=.ref a∧Rd H a (.dct (ZiV xs) vs)∧DenL K N H xs vs
 | d=>Den K N H d v
theorem Den.p {K:PySem.W.Frag} {N:Fb} {H:Hp} {d:D} {v:V} (h:Den K N H d v):DenP K N H d v:=by
 cases d with
 | lst xs fl =>
  simp only [Den] at h
  obtain ⟨a,vs,e,q,r⟩:=h
  cases fl with
  | false=>exact ⟨a,vs,e,LstAt.sq q,r⟩
  | true =>
   rcases q with ⟨_,q⟩ | ⟨ws,z,_⟩
   ·exact ⟨a,vs,e,q,r⟩
   ·cases z
 | _=>exact h
theorem DenP.same {K:PySem.W.Frag} {N:Fb} {H H':Hp} {d:D} {v:V} (h:DenP K N H d v) (s:Same H H'):DenP K N H' d v:=by
 cases d with
 | lst xs fl =>
  cases fl with
  | false=>obtain ⟨a,vs,e,q,r⟩:=h;exact ⟨a,vs,e,s.seq q,r.same s⟩
  | true=>obtain ⟨a,vs,e,q,r⟩:=h;exact ⟨a,vs,e,q.same s,r.same s⟩
 | _=>exact Den.same h s
theorem ZhO {K:PySem.W.Frag} {N:Fb} {H:Hp} {xs:List D} {vs:List V} {fl:Bool} {a:Addr} (h:Rd H a (CO fl xs vs)) (r:DenL K N H xs vs):DenP K N H (.lst xs fl) (.ref a):=by
 cases fl with
 | false=>exact ⟨a,vs,rfl,.inl h,r⟩
 | true=>exact ⟨a,vs,rfl,h,r⟩
def tP (K:PySem.W.Frag) (M:Fb) (H0:Hp) (f:VE→Option D):TE:=fun σ H Q=>∃ ρ d,Rel K M H0 ρ σ H∧f ρ=some d∧∀ v H',Same H H'→DenP K (Nf M ρ σ) H' d v→Q v H'
def tFb (fl:Bool) (K:PySem.W.Frag) (M:Fb) (H0:Hp) (f:VE→Option (List D)):TE:=fun σ H Q=>∃ ρ xs,Rel K M H0 ρ σ H∧f ρ=some xs ∧
 ∀ a vs H',Same H H'→H a=none→H' a=some (CO fl xs vs)→DenL K (fun b=>Nf M ρ σ b∨b=a) H' xs vs→Q (.ref a) H'
@[reducible] def tF (K:PySem.W.Frag) (M:Fb) (H0:Hp) (f:VE→Option (List D)):TE:=tFb false K M H0 f
def tB' (K:PySem.W.Frag) (M:Fb) (H0:Hp) (f:VE→Option Bool):TT:=fun σ H Q=>∃ ρ b,Rel K M H0 ρ σ H∧f ρ=some b∧∀ H',Same H H'→Q b H'
structure JE (X:Cx) (e:Expr) (t:TE):Prop where h:PE X e t
structure JT (X:Cx) (e:Expr) (t:TT):Prop where h:PT X e t
structure JW (X:Cx) (e:Expr) (t:TT):Prop where h:PW X e t
structure JA (X:Cx) (e:List Expr) (t:TA):Prop where h:PA X e t
structure JS (X:Cx) (e:Stmt) (t:TS):Prop where h:PS X e t
structure JB (X:Cx) (e:List Stmt) (t:TS):Prop where h:PSs X e t
structure JI (X:Cx) (tg e:Expr) (t:TI):Prop where h:PI X tg e t
structure JG (X:Cx) (e:Expr) (t:TG):Prop where h:PG X e t
structure JK (X:Cx) (e:List Expr) (t:TGs):Prop where h:PGs X e t
structure JO (X:Cx) (e:Option Expr) (t:TO):Prop where h:PO X e t
structure JF (X:Cx) (e:List Expr) (t:TT):Prop where h:PFs X e t
theorem PE.mono {X:Cx} {e:Expr} {t t':TE} (h:PE X e t) (m:∀ σ H Q,t' σ H Q→t σ H Q):PE X e t':=fun pins s σ H Q I q=>h pins s σ H Q I (m σ H Q q)
theorem PT.mono {X:Cx} {e:Expr} {t t':TT} (h:PT X e t) (m:∀ σ H Q,t' σ H Q→t σ H Q):PT X e t':=fun pins s σ H Q I q=>h pins s σ H Q I (m σ H Q q)
theorem PW.mono {X:Cx} {e:Expr} {t t':TT} (h:PW X e t) (m:∀ σ H Q,t' σ H Q→t σ H Q):PW X e t':=fun wh pins s σ H Q I q=>h wh pins s σ H Q I (m σ H Q q)
theorem PA.mono {X:Cx} {e:List Expr} {t t':TA} (h:PA X e t) (m:∀ σ H Q,t' σ H Q→t σ H Q):PA X e t':=fun pos pins s σ H Q I q=>h pos pins s σ H Q I (m σ H Q q)
theorem PS.mono {X:Cx} {e:Stmt} {t t':TS} (h:PS X e t) (m:∀ D σ H,t' D σ H→t D σ H):PS X e t':=fun pins s σ H D I q=>h pins s σ H D I (m D σ H q)
theorem PSs.mono {X:Cx} {e:List Stmt} {t t':TS} (h:PSs X e t) (m:∀ D σ H,t' D σ H→t D σ H):PSs X e t':=fun pins s σ H D I q=>h pins s σ H D I (m D σ H q)
section
variable {X:Cx} {K:PySem.W.Frag} {M:Fb} {H0:Hp} {e a b:Expr} {f g:VE→Option D} {pos:Pos}
theorem PE.p (h:PE X e (tD K M H0 f)):PE X e (tP K M H0 f):=h.mono fun σ H Q ⟨ρ,d,R,e,q⟩=>⟨ρ,d,R,e,fun v H' s z=>q v H' s z.p⟩
theorem j_p (h:JE X e (tD K M H0 f)):JE X e (tP K M H0 f):=⟨PE.p h.h⟩
@[simp] def ZC (o:Option (List D)):Option D:=o.map D.lst
@[simp] def ZsJ (o:Option (List D)):Option D:=o.map fun l=>D.lst l true
theorem PE.fd {f:VE→Option (List D)} (h:PE X e (tF K M H0 f)):PE X e (tD K M H0 fun ρ=>ZC (f ρ)):=h.mono fun σ H Q ⟨ρ,d,R,e,q⟩=>by
 try dsimp only at e q
 cases hf:f ρ with
 | none=>rw [hf] at e;cases e
 | some xs =>
  rw [hf] at e
  cases e
  refine ⟨ρ,xs,R,hf,fun a vs H' s z1 z2 z3=>q _ _ s ?_⟩
  simp only [Den]
  refine ⟨a,vs,rfl,.of (R.fresh z1) z2,z3.nw fun b hb=>.inl (.inl hb)⟩
theorem Zal {f:VE→Option (List D)} (h:JE X e (tF K M H0 f)):JE X e (tD K M H0 fun ρ=>ZC (f ρ)):=⟨PE.fd h.h⟩
@[simp] def rdV (ρ:VE) (i:Nat):Option D:=match ρ[i]? with
  | some (.val d)=>some d
  | _=>none
@[simp] def rdP (ρ:VE) (i:Nat):Option D:=match ρ[i]? with
  | some (.val d)=>some d
  | some (.own xs b)=>some (.lst xs b)
  | some (.lent xs b)=>some (.lst xs b)
  | _=>none
theorem Zmv {ρ:VE} {i:Nat} {d:D} (h:rdV ρ i=some d):ρ[i]?=some (.val d):=by
 unfold rdV at h
 split at h
 ·cases h;assumption
 ·cases h
theorem ZpI {i:Nat} {x:Str} (hN:X.N[i]?=some x) (hv:Vis X.env.scope x) (hd:(x==("__debug__":Str))=false:=by decide) (hcd:(x==("__classdict__":Str))=false:=by decide):PE X (.Name x pos) (tD K M H0 fun ρ=>rdV ρ i) :=
 (Zfa hN hv hd hcd).mono fun σ H Q ⟨ρ,d,R,e,q⟩=>by
  try dsimp only at e q
  obtain ⟨v,e1,h⟩:=R.slot i _ (Zmv e)
  refine ⟨v,?_,q v H (Same.refl H) h⟩
  cases z:σ[i]? with
  | none=>rw [z] at e1;cases e1
  | some o=>rw [z] at e1;cases e1;rfl
theorem ZoT {i:Nat} {x:Str} (hN:X.N[i]?=some x) (hv:Vis X.env.scope x) (hd:(x==("__debug__":Str))=false:=by decide) (hcd:(x==("__classdict__":Str))=false:=by decide):PE X (.Name x pos) (tP K M H0 fun ρ=>rdP ρ i) :=
 (Zfa hN hv hd hcd).mono fun σ H Q ⟨ρ,d,R,e,q⟩=>by
  try dsimp only at e q
  have fin:∀ v,σ[i]?.join=some v→DenP K (Nf M ρ σ) H d v→∃ v,σ[i]?=some (some v)∧Q v H:=fun v e1 h=>by
   refine ⟨v,?_,q v H (Same.refl H) h⟩
   cases z:σ[i]? with
   | none=>rw [z] at e1;cases e1
   | some o=>rw [z] at e1;cases e1;rfl
  unfold rdP at e
  split at e
  ·next h=>cases e;obtain ⟨v,e1,h⟩:=R.slot i _ h;exact fin v e1 h.p
  ·next h=>cases e;obtain ⟨a,vs,e1,_,_,h3,h4⟩:=R.slot i _ h;exact fin _ e1 (ZhO (.inl h3) h4)
  ·next h=>cases e;obtain ⟨a,vs,e1,_,h3,h4⟩:=R.slot i _ h;exact fin _ e1 (ZhO h3 h4)
  ·cases e
theorem ZhM {d:D} {v:V} {e:Expr} (h:PE X e (tC v)) (hd:∀ N H,Den K N H d v):PE X e (tD K M H0 fun _=>some d) :=
 h.mono fun σ H Q ⟨ρ,d',R,e,q⟩=>by (try dsimp only at e q);cases e;exact q v H (Same.refl H) (hd _ _)
theorem Zk {i j pos}:JE X (.Constant (.int i) j pos) (tD K M H0 fun _=>some (.int i)):=⟨ZhM ZpP fun _ _=>by simp only [Den]⟩
theorem Zcv {i j pos}:JE X (.Constant (.bool i) j pos) (tD K M H0 fun _=>some (.bl i)):=⟨ZhM ZqI fun _ _=>by simp only [Den]⟩
theorem Zi6 {j pos}:JE X (.Constant .none j pos) (tD K M H0 fun _=>some .non):=⟨ZhM Zps fun _ _=>by simp only [Den]⟩
theorem Zf {i j pos}:JE X (.Constant (.str i) j pos) (tD K M H0 fun _=>some (.str i)):=⟨ZhM Zop fun _ _=>by simp only [Den]⟩
def R2D (K:PySem.W.Frag) (r:R2) (F:D→D→Option D):Prop:=∀ (N:Fb) (H:Hp) (x y:V) (d1 d2 d:D) (Q:VK),(∀ a,N a→H a≠none)→DenP K N H d1 x→DenP K N H d2 y→F d1 d2=some d →
 (∀ v H',Same H H'→Den K N H' d v→Q v H')→r x y H Q
@[simp] def Zd (F:D→D→Option D) (f g:VE→Option D):VE→Option D:=fun ρ=>(f ρ).bind fun x=>(g ρ).bind fun y=>F x y
theorem ZmC {F:D→D→Option D} {f g:VE→Option D} {ρ:VE} {d:D} (h:Zd F f g ρ=some d):∃ x y,f ρ=some x∧g ρ=some y∧F x y=some d:=by
 unfold Zd at h
 cases hf:f ρ with
 | none=>rw [hf] at h;cases h
 | some x =>
  cases hg:g ρ with
  | none=>rw [hf,hg] at h;cases h
  | some y=>rw [hf,hg] at h;exact ⟨x,y,rfl,rfl,h⟩
theorem ZiP {r:R2} {F:D→D→Option D} (hr:R2D K r F) {σ:St} {H:Hp} {Q:VK} (h:tD K M H0 (Zd F f g) σ H Q):tOp r (tP K M H0 f) (tP K M H0 g) σ H Q:=by
 obtain ⟨ρ,d,R,e,q⟩:=h
 try dsimp only at e q
 obtain ⟨x,y,e1,e2,e3⟩:=ZmC e
 refine ⟨ρ,x,R,e1,fun v H1 s1 h1=>⟨ρ,y,R.st s1,e2,fun u H2 s2 h2=>?_⟩⟩
 exact hr (Nf M ρ σ) H2 v u x y d Q ((R.st s1).st s2).nh (h1.same s2) h2 e3 fun w H3 s3 h3=>q w H3 ((s1.trans s2).trans s3) h3
theorem ZfM {op:Operator} {r:R2} {F:D→D→Option D} (ho:OpR X (binaryOp op) r) (hr:R2D K r F) (ha:PE X a (tP K M H0 f)) (hb:PE X b (tP K M H0 g)):PE X (.BinOp a op b pos) (tD K M H0 (Zd F f g)) :=
 (Zql ho ha hb).mono fun _ _ _ h=>ZiP hr h
theorem Zo2 {op:CmpOp} {r:R2} {F:D→D→Option D} (ho:OpR X (compareOp op) r) (hr:R2D K r F) (ha:PE X a (tP K M H0 f)) (hb:PE X b (tP K M H0 g)) (hm:behindInMarks op b=false):PE X (.Compare a [op] [b] pos) (tD K M H0 (Zd F f g)) :=
 (ZnR ho ha hb hm).mono fun _ _ _ h=>ZiP hr h
theorem ZqF {r:R2} {F:D→D→Option D} (ho:IxR X r) (hr:R2D K r F) (ha:PE X a (tP K M H0 f)) (hb:PE X b (tP K M H0 g)) (hs:ZhU b):PE X (.Subscript a b pos) (tD K M H0 (Zd F f g)) :=
 (Zqp ho ha hb hs).mono fun _ _ _ h=>ZiP hr h
@[simp] def orO {α:Type} (a b:Option α):Option α:=match a with
  | some x=>some x
  | none=>b
theorem R2D.or {r r':R2} {F F':D→D→Option D} (h:R2D K r F) (h':R2D K r' F'):R2D K (fun x y H Q=>r x y H Q∨r' x y H Q) (fun x y=>orO (F x y) (F' x y)):=by
 intro N H x y d1 d2 d Q nh h1 h2 e q
 cases hF:F d1 d2 with
 | some z=>simp only [hF,orO] at e;cases e;exact .inl (h N H x y d1 d2 d Q nh h1 h2 hF q)
 | none=>simp only [hF,orO] at e;exact .inr (h' N H x y d1 d2 d Q nh h1 h2 e q)
@[simp] def asB:Option D→Option Bool
  | some (.bl b)=>some b
  | _=>none
theorem Zet {o:Option D} {b:Bool} (h:asB o=some b):o=some (.bl b):=by
 unfold asB at h
 split at h
 ·cases h;rfl
 ·cases h
theorem Zn0 {t:TE} {σ:St} {H:Hp} {Q:Bool→Hp→Prop} (ht:∀ σ H Q,tD K M H0 f σ H Q→t σ H Q) (h:tB' K M H0 (fun ρ=>asB (f ρ)) σ H Q):tB t σ H Q:=by
 obtain ⟨ρ,b,R,e,q⟩:=h
 try dsimp only at e q
 refine ht σ H _ ⟨ρ,.bl b,R,Zet e,fun v H' s hv=>?_⟩
 simp only [Den] at hv
 exact ⟨b,hv,q H' s⟩
theorem Zgf {op:CmpOp} {r:R2} {F:D→D→Option D} (ho:OpR X (compareOp op) r) (hr:R2D K r F) (ha:PE X a (tP K M H0 f)) (hb:PE X b (tP K M H0 g)) (hm:behindInMarks op b=false):PT X (.Compare a [op] [b] pos) (tB' K M H0 fun ρ=>asB (Zd F f g ρ)) :=
 (ZnP ho ha hb hm).mono fun _ _ _ q=>Zn0 (t:=tOp r (tP K M H0 f) (tP K M H0 g)) (fun _ _ _ z=>ZiP hr z) q
@[simp] def Zbg (o:Option Bool):Option Bool:=o.map (!·)
@[simp] def Ze5 (o p:Option Bool):Option Bool:=match o with
  | some true=>p
  | some false=>some false
  | none=>none
@[simp] def orB (o p:Option Bool):Option Bool:=match o with
  | some true=>some true
  | some false=>p
  | none=>none
section
variable {c c':VE→Option Bool} {ZV:List Expr}
theorem ZbU (h:JT X a (tB' K M H0 c)):JT X (.UnaryOp .Not a pos) (tB' K M H0 fun ρ=>Zbg (c ρ)):=⟨have h:=h.h;(Zpf h).mono fun σ H Q ⟨ρ,b,R,e,q⟩=>by
 try dsimp only at e q
 cases hc:c ρ with
 | none=>rw [hc] at e;cases e
 | some k=>rw [hc] at e;cases e;exact ⟨ρ,k,R,hc,q⟩⟩
theorem ZlS (h:JT X a (tB' K M H0 c)):JW X (.BoolOp .And [a] pos) (tB' K M H0 c):=⟨have h:=h.h;Zn4 h⟩
theorem Zcj (h:JT X a (tB' K M H0 c)):JW X (.BoolOp .Or [a] pos) (tB' K M H0 c):=⟨have h:=h.h;ZoV h⟩
theorem ZoF {σ:St} {H:Hp} {Q:Bool→Hp→Prop} (h:tB' K M H0 (fun ρ=>Ze5 (c ρ) (c' ρ)) σ H Q):Zp3 (tB' K M H0 c) (tB' K M H0 c') σ H Q:=by
 obtain ⟨ρ,b,R,e,q⟩:=h
 try dsimp only at e q
 cases hc:c ρ with
 | none=>rw [hc] at e;cases e
 | some k =>
  cases k with
  | true=>rw [hc] at e;exact ⟨ρ,true,R,hc,fun H1 s=>by refine ZeP ?_;exact ⟨ρ,b,R.st s,e,fun H2 s2=>q H2 (s.trans s2)⟩⟩
  | false=>rw [hc] at e;cases e;exact ⟨ρ,false,R,hc,fun H1 s=>by refine ZeV ?_;exact q H1 s⟩
theorem Zqq {σ:St} {H:Hp} {Q:Bool→Hp→Prop} (h:tB' K M H0 (fun ρ=>orB (c ρ) (c' ρ)) σ H Q):tOr (tB' K M H0 c) (tB' K M H0 c') σ H Q:=by
 obtain ⟨ρ,b,R,e,q⟩:=h
 try dsimp only at e q
 cases hc:c ρ with
 | none=>rw [hc] at e;cases e
 | some k =>
  cases k with
  | false=>rw [hc] at e;exact ⟨ρ,false,R,hc,fun H1 s=>by refine ZeV ?_;exact ⟨ρ,b,R.st s,e,fun H2 s2=>q H2 (s.trans s2)⟩⟩
  | true=>rw [hc] at e;cases e;exact ⟨ρ,true,R,hc,fun H1 s=>by refine ZeP ?_;exact q H1 s⟩
theorem Zmq (h:JT X a (tB' K M H0 c)) (h':JW X (.BoolOp .And (b::ZV) pos) (tB' K M H0 c')):JW X (.BoolOp .And (a::b::ZV) pos) (tB' K M H0 fun ρ=>Ze5 (c ρ) (c' ρ)):=⟨have h:=h.h;have h':=h'.h;(Zpc h h').mono fun _ _ _ q=>ZoF q⟩
theorem ZcY (h:JT X a (tB' K M H0 c)) (h':JW X (.BoolOp .Or (b::ZV) pos) (tB' K M H0 c')):JW X (.BoolOp .Or (a::b::ZV) pos) (tB' K M H0 fun ρ=>orB (c ρ) (c' ρ)):=⟨have h:=h.h;have h':=h'.h;(Zqg h h').mono fun _ _ _ q=>Zqq q⟩
@[simp] def blO (o:Option Bool):Option D:=o.map D.bl
theorem ZiN {σ:St} {H:Hp} {Q:VK} (h:tD K M H0 (fun ρ=>blO (c ρ)) σ H Q):∃ ρ b,Rel K M H0 ρ σ H∧c ρ=some b∧∀ H',Same H H'→Q (.bl b) H':=by
 obtain ⟨ρ,d,R,e,q⟩:=h
 try dsimp only at e q
 cases hc:c ρ with
 | none=>rw [hc] at e;cases e
 | some k=>rw [hc] at e;cases e;exact ⟨ρ,k,R,hc,fun H' s=>q _ H' s (by simp only [Den])⟩
theorem ZmP (h:JE X a (tD K M H0 f)):JE X (.UnaryOp .Not a pos) (tD K M H0 fun ρ=>blO (Zbg (asB (f ρ)))):=⟨have h:=h.h;(Zpo h).mono fun σ H Q q=>by
 obtain ⟨ρ,b,R,e,q⟩:=ZiN q
 try dsimp only at e q
 cases hc:asB (f ρ) with
 | none=>rw [hc] at e;cases e
 | some k =>
  rw [hc] at e;cases e
  refine ⟨ρ,.bl k,R,Zet hc,fun v H' s hv=>?_⟩
  simp only [Den] at hv
  exact ⟨k,hv,q H' s⟩⟩
theorem ZgU {op} (h:JE X a (tD K M H0 f)):JE X (.BoolOp op [a] pos) (tD K M H0 fun ρ=>blO (asB (f ρ))):=⟨have h:=h.h;(ZoY h).mono fun σ H Q q=>by
 obtain ⟨ρ,b,R,e,q⟩:=ZiN q
 try dsimp only at e q
 exact ⟨ρ,.bl b,R,Zet e,fun v H' s hv=>by simp only [Den] at hv;subst hv;exact q H' s⟩⟩
theorem Zhc (h:JE X a (tD K M H0 f)) (h':JE X (.BoolOp .And (b::ZV) pos) (tD K M H0 fun ρ=>blO (c' ρ))):JE X (.BoolOp .And (a::b::ZV) pos) (tD K M H0 fun ρ=>blO (Ze5 (asB (f ρ)) (c' ρ))):=⟨have h:=h.h;have h':=h'.h;(Zo8 h h').mono fun σ H Q q=>by
 obtain ⟨ρ,b,R,e,q⟩:=ZiN q
 try dsimp only at e q
 cases hc:asB (f ρ) with
 | none=>rw [hc] at e;cases e
 | some k =>
  refine ⟨ρ,.bl k,R,Zet hc,fun v H' s hv=>?_⟩
  simp only [Den] at hv
  refine ⟨k,hv,?_⟩
  cases k with
  | true =>
   rw [hc] at e;refine ZeP ?_
   have e':c' ρ=some b:=e
   exact ⟨ρ,.bl b,R.st s,by show blO (c' ρ)=_;rw [e'];rfl,fun w H2 s2 hw=>by simp only [Den] at hw;subst hw;exact q H2 (s.trans s2)⟩
  | false=>rw [hc] at e;cases e;refine ZeV ?_;exact q H' s⟩
theorem ZnB (h:JE X a (tD K M H0 f)) (h':JE X (.BoolOp .Or (b::ZV) pos) (tD K M H0 fun ρ=>blO (c' ρ))):JE X (.BoolOp .Or (a::b::ZV) pos) (tD K M H0 fun ρ=>blO (orB (asB (f ρ)) (c' ρ))):=⟨have h:=h.h;have h':=h'.h;(Zqj h h').mono fun σ H Q q=>by
 obtain ⟨ρ,b,R,e,q⟩:=ZiN q
 try dsimp only at e q
 cases hc:asB (f ρ) with
 | none=>rw [hc] at e;cases e
 | some k =>
  refine ⟨ρ,.bl k,R,Zet hc,fun v H' s hv=>?_⟩
  simp only [Den] at hv
  refine ⟨k,hv,?_⟩
  cases k with
  | false =>
   rw [hc] at e;refine ZeV ?_
   have e':c' ρ=some b:=e
   exact ⟨ρ,.bl b,R.st s,by show blO (c' ρ)=_;rw [e'];rfl,fun w H2 s2 hw=>by simp only [Den] at hw;subst hw;exact q H2 (s.trans s2)⟩
  | true=>rw [hc] at e;cases e;refine ZeP ?_;exact q H' s⟩
@[simp] def ZdN {α:Type} (c:Option Bool) (a b:Option α):Option α:=match c with
  | some true=>a
  | some false=>b
  | none=>none
theorem Zei {k:Expr} (hc:JT X k (tB' K M H0 c)) (ha:JE X a (tD K M H0 f)) (hb:JE X b (tD K M H0 g)):JE X (.IfExp k a b pos) (tD K M H0 fun ρ=>ZdN (c ρ) (f ρ) (g ρ)):=⟨have hc:=hc.h;have ha:=ha.h;have hb:=hb.h;(ZmY hc ha hb).mono fun σ H Q ⟨ρ,d,R,e,q⟩=>by
 try dsimp only at e q
 cases hc:c ρ with
 | none=>rw [hc] at e;cases e
 | some k =>
  refine ⟨ρ,k,R,hc,fun H1 s=>?_⟩
  cases k with
  | true=>rw [hc] at e;refine ZeP ?_;exact ⟨ρ,d,R.st s,e,fun w H2 s2 hw=>q w H2 (s.trans s2) hw⟩
  | false=>rw [hc] at e;refine ZeV ?_;exact ⟨ρ,d,R.st s,e,fun w H2 s2 hw=>q w H2 (s.trans s2) hw⟩⟩
@[simp] def isN:D→Bool
  | .non=>true
  | _=>false
@[simp] def ZkI (o:Option D):Option Bool:=o.map isN
theorem DenP.isN {K:PySem.W.Frag} {N:Fb} {H:Hp} {d:D} {v:V} (h:DenP K N H d v):decide (v=.non)=L2.isN d:=by
 cases d with
 | non=>simp only [DenP,Den] at h;subst h;rfl
 | bl _=>simp only [DenP,Den] at h;subst h;rfl
 | int _=>simp only [DenP,Den] at h;subst h;rfl
 | str _=>simp only [DenP,Den] at h;subst h;rfl
 | ty _=>simp only [DenP,Den] at h;subst h;rfl
 | tup _=>simp only [DenP,Den] at h;obtain ⟨a,vs,e,_⟩:=h;subst e;rfl
 | lst _ fl=>cases fl<;>(obtain ⟨a,vs,e,_⟩:=h;subst e;rfl)
theorem Zmk {j pos'} (h:JE X a (tP K M H0 f)):JT X (.Compare a [.Is] [.Constant .none j pos'] pos) (tB' K M H0 fun ρ=>ZkI (f ρ)):=⟨have h:=h.h;(Zor (ZoM h)).mono fun σ H Q ⟨ρ,b,R,e,q⟩=>by
 try dsimp only at e q
 cases hf:f ρ with
 | none=>rw [hf] at e;cases e
 | some d=>rw [hf] at e;cases e;exact ⟨ρ,d,R,hf,fun v H' s hv=>⟨_,rfl,by rw [hv.isN];exact q H' s⟩⟩⟩
end
end
end L2
namespace L2
open PySem PySem.Spec PyProof.Rows
theorem Zb5 {e:Expr} {es:List Expr} {env:Env} (h:∀ x p,e≠.Starred x p):starEach (e::es) env=(false,eval e env)::starEach es env:=by
 cases e with
 | Starred x p=>exact absurd rfl (h x p)
 | _=>rfl
def ArgOk (K:PySem.W.Frag) (N:Fb) (H:Hp):Sl→V→Prop
 | .val d,v=>Den K N H d v
 | .lent xs b,v=>∃ a vs,v=.ref a∧N a∧Rd H a (CO b xs vs)∧DenL K N H xs vs
 | _,_=>False
def ArgsOk (K:PySem.W.Frag) (N:Fb) (H:Hp):List Sl→List V→Prop
 | [],vs=>vs=[]
 | s::ss,vs=>∃ v r,vs=v::r∧ArgOk K N H s v∧ArgsOk K N H ss r
@[simp] def pk:Sl→Option D
  | .val d=>some d
  | .lent xs b=>some (.lst xs b)
  | .own xs b=>some (.lst xs b)
  | .no=>none
  | .exc _=>none
theorem ArgOk.same {K:PySem.W.Frag} {N:Fb} {H H':Hp} {s:Sl} {v:V} (h:ArgOk K N H s v) (sm:Same H H'):ArgOk K N H' s v:=by
 cases s with
 | val d=>exact Den.same h sm
 | lent xs fl=>obtain ⟨a,vs,e,n,q,r⟩:=h;exact ⟨a,vs,e,n,q.same sm,r.same sm⟩
 | no=>exact h
 | own xs fl=>exact h
 | exc c=>exact h
theorem ArgsOk.same {K:PySem.W.Frag} {N:Fb} {H H':Hp} (sm:Same H H'):∀ {ss:List Sl} {vs:List V},ArgsOk K N H ss vs→ArgsOk K N H' ss vs
 | [],_,h=>h
 | s::ss,_,⟨v,r,e,h,t⟩=>⟨v,r,e,h.same sm,ArgsOk.same sm t⟩
theorem ArgOk.p {K:PySem.W.Frag} {N:Fb} {H:Hp} {s:Sl} {v:V} (h:ArgOk K N H s v):∃ d,pk s=some d∧DenP K N H d v:=by
 cases s with
 | val d=>exact ⟨d,rfl,Den.p h⟩
 | lent xs fl=>obtain ⟨a,vs,e,n,q,r⟩:=h;subst e;exact ⟨_,rfl,ZhO q r⟩
 | no=>exact False.elim h
 | own xs fl=>exact False.elim h
 | exc c=>exact False.elim h
theorem ArgsOk.length {K:PySem.W.Frag} {N:Fb} {H:Hp}:∀ {ss:List Sl} {vs:List V},ArgsOk K N H ss vs→ss.length=vs.length
 | [],_,h=>by cases h;rfl
 | s::ss,_,⟨v,r,e,h,t⟩=>by subst e;simp [ArgsOk.length t]
theorem ArgsOk.get {K:PySem.W.Frag} {N:Fb} {H:Hp}:∀ {ss:List Sl} {vs:List V} {i:Nat} {s:Sl},ArgsOk K N H ss vs→ss[i]?=some s→∃ v,vs[i]?=some v∧ArgOk K N H s v
 | [],_,i,s,h,e=>by simp at e
 | _::ss,_,0,s,⟨v,r,e1,h,t⟩,e=>by subst e1;simp at e;subst e;exact ⟨v,rfl,h⟩
 | _::ss,_,i+1,s,⟨v,r,e1,h,t⟩,e=>by
  subst e1
  obtain ⟨w,h1,h2⟩:=ArgsOk.get (i:=i) t (by simpa using e)
  exact ⟨w,by simpa using h1,h2⟩
def tA' (K:PySem.W.Frag) (M:Fb) (H0:Hp) (f:VE→Option (List Sl)):TA:=fun σ H Q=>∃ ρ ss,Rel K M H0 ρ σ H∧f ρ=some ss∧∀ vs H',Same H H'→ArgsOk K (Nf M ρ σ) H' ss vs→Q vs H'
def tS1 (K:PySem.W.Frag) (M:Fb) (H0:Hp) (f:VE→Option Sl):TE:=fun σ H Q=>∃ ρ s,Rel K M H0 ρ σ H∧f ρ=some s∧∀ v H',Same H H'→ArgOk K (Nf M ρ σ) H' s v→Q v H'
@[simp] def rdA (ρ:VE) (i:Nat):Option Sl:=match ρ[i]? with
  | some (.val d)=>some (.val d)
  | some (.own xs b)=>some (.lent xs b)
  | some (.lent xs b)=>some (.lent xs b)
  | _=>none
@[simp] def Zi (o:Option D):Option Sl:=o.map Sl.val
@[simp] def Zb {α:Type} (a:Option α) (b:Option (List α)):Option (List α):=a.bind fun x=>b.bind fun y=>some (x::y)
theorem ZeM {α:Type} {a:Option α} {b:Option (List α)} {l:List α} (h:Zb a b=some l):∃ x y,a=some x∧b=some y∧l=x::y:=by
 cases a with
 | none=>cases h
 | some x =>
  cases b with
  | none=>cases h
  | some y=>cases h;exact ⟨x,y,rfl,rfl,rfl⟩
section
variable {X:Cx} {K:PySem.W.Frag} {M:Fb} {H0:Hp} {e a b:Expr} {es:List Expr} {f g:VE→Option D} {fa:VE→Option (List Sl)} {f1:VE→Option Sl} {pos:Pos}
theorem Zoq {i:Nat} {x:Str} (hN:X.N[i]?=some x) (hv:Vis X.env.scope x) (hd:(x==("__debug__":Str))=false:=by decide) (hcd:(x==("__classdict__":Str))=false:=by decide):PE X (.Name x pos) (tS1 K M H0 fun ρ=>rdA ρ i) :=
 (Zfa hN hv hd hcd).mono fun σ H Q ⟨ρ,d,R,e,q⟩=>by
  try dsimp only at e q
  have fin:∀ v,σ[i]?.join=some v→ArgOk K (Nf M ρ σ) H d v→∃ v,σ[i]?=some (some v)∧Q v H:=fun v e1 h=>by
   refine ⟨v,?_,q v H (Same.refl H) h⟩
   cases z:σ[i]? with
   | none=>rw [z] at e1;cases e1
   | some o=>rw [z] at e1;cases e1;rfl
  unfold rdA at e
  split at e
  ·next h=>cases e;obtain ⟨v,e1,h⟩:=R.slot i _ h;exact fin v e1 h
  ·next h =>
   cases e
   obtain ⟨a,vs,e1,_,_,h3,h4⟩:=R.slot i _ h
   refine fin _ e1 ⟨a,vs,rfl,.inr ⟨i,_,_,h,?_⟩,.inl h3,h4⟩
   cases z:σ[i]? with
   | none=>rw [z] at e1;cases e1
   | some o=>rw [z] at e1;cases e1;rfl
  ·next h=>cases e;obtain ⟨a,vs,e1,h2,h3,h4⟩:=R.slot i _ h;exact fin _ e1 ⟨a,vs,rfl,.inl h2,h3,h4⟩
  ·cases e
theorem Zg (h:JE X e (tD K M H0 f)):JE X e (tS1 K M H0 fun ρ=>Zi (f ρ)):=⟨have h:=h.h;h.mono fun σ H Q ⟨ρ,s,R,e,q⟩=>by
 try dsimp only at e q
 cases hf:f ρ with
 | none=>rw [hf] at e;cases e
 | some d=>rw [hf] at e;cases e;exact ⟨ρ,d,R,hf,fun v H' s hv=>q v H' s hv⟩⟩
theorem Zc :JA X [] (tA' K M H0 fun _=>some []):=⟨pa_nil.mono fun σ H Q ⟨ρ,ss,R,e,q⟩=>by
 try dsimp only at e q
 cases e;exact q [] H (Same.refl H) rfl⟩
theorem Za (h:JE X e (tS1 K M H0 f1)) (hr:JA X es (tA' K M H0 fa)) (hs:starEach (e::es) X.env=(false,eval e X.env)::starEach es X.env:=by exact Zb5 (fun _ _ z=>nomatch z)):JA X (e::es) (tA' K M H0 fun ρ=>Zb (f1 ρ) (fa ρ)):=⟨have h:=h.h;have hr:=hr.h;(Zfl h hr hs).mono fun σ H Q ⟨ρ,ss,R,e,q⟩=>by
 try dsimp only at e q
 obtain ⟨s,r,e1,e2,e3⟩:=ZeM e
 subst e3
 exact ⟨ρ,s,R,e1,fun v H1 s1 h1=>⟨ρ,r,R.st s1,e2,fun vs H2 s2 h2=>q (v::vs) H2 (s1.trans s2) ⟨v,vs,rfl,h1.same s2,h2⟩⟩⟩⟩
@[simp] def ZP:List Sl→Option (List D)
  | []=>some []
  | .val d::r=>Zb (some d) (ZP r)
  | _=>none
theorem ZfL {K:PySem.W.Frag} {N:Fb} {H:Hp}:∀ {ss:List Sl} {vs:List V} {ds:List D},ArgsOk K N H ss vs→ZP ss=some ds→DenL K N H ds vs
 | [],_,_,h,e=>by cases e;cases h;exact DenL.nil
 | .val d::r,_,_,⟨v,t,e1,h,ht⟩,e=>by
  obtain ⟨x,y,e2,e3,e4⟩:=ZeM e
  cases e2;subst e1 e4
  exact DenL.cons h (ZfL ht e3)
 | .no::_,_,_,_,e=>nomatch e
 | .own _ _::_,_,_,_,e=>nomatch e
 | .lent _ _::_,_,_,_,e=>nomatch e
@[simp] def Zy {α:Type} (o:Option (List α)):Option (List α):=o.bind fun l=>if l.length≤sizeLine then some l else none
theorem Zds {α:Type} {o:Option (List α)} {l:List α} (h:Zy o=some l):o=some l∧l.length≤sizeLine:=by
 cases o with
 | none=>cases h
 | some x =>
  have h':(if x.length≤sizeLine then some x else none)=some l:=h
  split at h'
  ·cases h';exact ⟨rfl,by assumption⟩
  ·cases h'
theorem ZaZ {H:Hp} {p:Addr} {o:HO} (h:H p=none):Same H (upd H p o):=fun b u e=>by rw [ZB (ZX e h)];exact e
theorem Zlp {fl:Bool} {ρ:VE} {σ:St} {H H1:Hp} {Q:VK} {xs:List D} {vs:List V} {p:Addr} (s:Same H H1) (hp:H1 p=none) (h:DenL K (Nf M ρ σ) H1 xs vs)
  (q:∀ a vs H',Same H H'→H a=none→H' a=some (CO fl xs vs)→DenL K (fun b=>Nf M ρ σ b∨b=a) H' xs vs→Q (.ref a) H'):Q (.ref p) (upd H1 p (CO fl xs vs)):=by
 refine q p vs _ (s.trans (ZaZ hp)) (s.free hp) Zaw ?_
 refine (h.nw fun b hb=>?_).same (ZaZ hp)
 rcases hb with hb | hb
 ·exact .inl hb
 ·subst hb;exact .inr hp
theorem ZT (h:JA X es (tA' K M H0 fa)):JE X (.List es pos) (tF K M H0 fun ρ=>Zy ((fa ρ).bind ZP)):=⟨have h:=h.h;(ZoA h).mono fun σ H Q ⟨ρ,xs,R,e,q⟩=>by
 try dsimp only at e q
 obtain ⟨e,hz⟩:=Zds e
 cases hf:fa ρ with
 | none=>rw [hf] at e;cases e
 | some ss =>
  rw [hf] at e
  refine ⟨ρ,ss,R,hf,fun vs H1 s1 h1=>?_⟩
  have hd:=ZfL h1 e
  exact ⟨by rw [← hd.length];exact hz,fun p hp=>Zlp s1 hp hd q⟩⟩
theorem ZfB {x1} (h:JA X es (tA' K M H0 fa)):JE X (.Tuple es x1 pos) (tD K M H0 fun ρ=>(Zy ((fa ρ).bind ZP)).map D.tup):=⟨have h:=h.h;(ZoG h).mono fun σ H Q ⟨ρ,d,R,e,q⟩=>by
 try dsimp only at e q
 cases hz:Zy ((fa ρ).bind ZP) with
 | none=>rw [hz] at e;cases e
 | some xs =>
  rw [hz] at e;cases e
  obtain ⟨e,hz⟩:=Zds hz
  cases hf:fa ρ with
  | none=>rw [hf] at e;cases e
  | some ss =>
   rw [hf] at e
   refine ⟨ρ,ss,R,hf,fun vs H1 s1 h1=>?_⟩
   have hd:=ZfL h1 e
   refine ⟨by rw [← hd.length];exact hz,fun p hp=>q _ _ (s1.trans (ZaZ hp)) ?_⟩
   simp only [Den]
   exact ⟨p,vs,rfl,SqT.of Zaw,hd.same (ZaZ hp)⟩⟩
end
inductive Rv where
 | val (d:D) | own (xs:List D) (b:Bool:=false)
def ZkU (K:PySem.W.Frag) (N:Fb) (H0 H':Hp):Rv→V→Prop
 | .val d,v=>Den K N H' d v
 | .own xs b,v=>∃ a vs,v=.ref a∧H0 a=none∧H' a=some (CO b xs vs)∧DenL K (fun b=>N b∨b=a) H' xs vs
def spD (K:PySem.W.Frag) (F:List Sl→Option Rv):Sp:=fun vs H Q _=>∃ N ss r,(∀ a,N a→H a≠none)∧ArgsOk K N H ss vs∧F ss=some r∧∀ v H',Same H H'→ZkU K N H H' r v→Q v H'
@[simp] def rvD:Rv→D
  | .val d=>d
  | .own xs b=>.lst xs b
@[simp] def rvF:Rv→Option (List D)
  | .own xs=>some xs
  | _=>none
@[simp] def rvG:Rv→Option (List D)
  | .own xs true=>some xs
  | _=>none
section
variable {X:Cx} {K:PySem.W.Frag} {M:Fb} {H0:Hp} {e:Expr} {es:List Expr} {fa:VE→Option (List Sl)} {F:List Sl→Option Rv} {CX:CXT} {k:Nat} {fn:Addr} {fd:FuncData} {ps:List Str} {x:Str} {p pos:Pos} {E:XK}
@[simp] def Zr (F:List Sl→Option Rv) (fa:VE→Option (List Sl)):VE→Option D:=fun ρ=>(fa ρ).bind fun ss=>(F ss).map rvD
@[simp] def Zsk (F:List Sl→Option Rv) (fa:VE→Option (List Sl)):VE→Option (List D):=fun ρ=>(fa ρ).bind fun ss=>(F ss).bind rvF
theorem Zn9 {σ:St} {H:Hp} {Q:VK} (h:tD K M H0 (Zr F fa) σ H Q):Zna (spD K F) [] E (tA' K M H0 fa) σ H Q:=by
 obtain ⟨ρ,d,R,e,q⟩:=h
 try dsimp only at e q
 unfold Zr at e
 cases hf:fa ρ with
 | none=>rw [hf] at e;cases e
 | some ss =>
  rw [hf] at e
  cases hF:F ss with
  | none=>simp only [Option.bind,hF] at e;cases e
  | some r =>
   simp only [Option.bind,hF] at e;cases e
   refine ⟨ρ,ss,R,hf,fun vs H1 s1 h1=>⟨Nf M ρ σ,ss,r,(R.st s1).nh,by rw [List.append_nil];exact h1,hF,fun v H2 s2 h2=>q v H2 (s1.trans s2) ?_⟩⟩
   cases r with
   | val d=>exact h2
   | own xs fl =>
    obtain ⟨a,ws,e1,z1,z2,z3⟩:=h2
    simp only [rvD,Den]
    exact ⟨a,ws,e1,.of (fun z=>(R.st s1).fresh z1 z) z2,z3.nw fun b hb=>.inl (.inl hb)⟩
@[simp] def Zsm (F:List Sl→Option Rv) (fa:VE→Option (List Sl)):VE→Option (List D):=fun ρ=>(fa ρ).bind fun ss=>(F ss).bind rvG
theorem Zp (G:FnOk X.prog X.w X.K X.mg X.base CX k fn fd ps (spD K F)) (hr:Room k X.A) (hg:Gl X x) (hm:X.mg x=some (.ref fn)) (hk:PySem.W.keepIn X.K (.ref fn)=true) (hb:Binds X.K fd ps []) (hx:ZhB CX X E) (ha:JA X (e::es) (tA' K M H0 fa)) (hdb:(x==("__debug__":Str))=false:=by decide) (he:starEach (e::es) X.env=(false,eval e X.env)::starEach es X.env:=by exact Zb5 (fun _ _ z=>nomatch z)) (hpl:(backTo pos (starEach es X.env)).any (·.1)=false:=by rfl):JE X (.Call (.Name x p) (e::es) [] pos) (tD K M H0 (Zr F fa)):=⟨have ha:=ha.h;(ZnU G hr hg hm hk hb .nil hx ha hdb he hpl).mono fun _ _ _ h=>Zn9 h⟩
end
def RcD (K:PySem.W.Frag) (r:List V→Hp→VK→Prop) (F:List D→Option D):Prop:=∀ (N:Fb) (H:Hp) (vs:List V) (ds:List D) (d:D) (Q:VK),(∀ a,N a→H a≠none)→Paired (DenP K N H) ds vs→F ds=some d →
 (∀ v H',Same H H'→Den K N H' d v→Q v H')→r vs H Q
@[simp] def pks:List Sl→Option (List D)
  | []=>some []
  | s::r=>Zb (pk s) (pks r)
theorem ZhW {K:PySem.W.Frag} {N:Fb} {H:Hp}:∀ {ss:List Sl} {vs:List V} {ds:List D},ArgsOk K N H ss vs→pks ss=some ds→Paired (DenP K N H) ds vs
 | [],_,_,h,e=>by cases e;cases h;exact .nil
 | s::r,_,_,⟨v,t,e1,h,ht⟩,e=>by
  obtain ⟨x,y,e2,e3,e4⟩:=ZeM e
  subst e1 e4
  obtain ⟨d,hd,hp⟩:=h.p
  rw [hd] at e2;cases e2
  exact .cons hp (ZhW ht e3)
section
variable {X:Cx} {K:PySem.W.Frag} {M:Fb} {H0:Hp} {e:Expr} {es:List Expr} {fa:VE→Option (List Sl)} {x:Str} {p pos:Pos} {r:List V→Hp→VK→Prop} {F:List D→Option D} {G:List D→Option (List D)} {id:String}
@[simp] def ZD (F:List D→Option D) (fa:VE→Option (List Sl)):VE→Option D:=fun ρ=>((fa ρ).bind pks).bind F
@[simp] def ZsN (F:List D→Option (List D)) (fa:VE→Option (List Sl)):VE→Option (List D):=fun ρ=>((fa ρ).bind pks).bind F
theorem Zk8 (hr:RcD K r F) {σ:St} {H:Hp} {Q:VK} (h:tD K M H0 (ZD F fa) σ H Q):tCB r (tA' K M H0 fa) σ H Q:=by
 obtain ⟨ρ,d,R,e,q⟩:=h
 try dsimp only at e q
 unfold ZD at e
 cases hf:fa ρ with
 | none=>rw [hf] at e;cases e
 | some ss =>
  rw [hf] at e
  cases hp:pks ss with
  | none=>simp only [Option.bind,hp] at e;cases e
  | some ds =>
   simp only [Option.bind,hp] at e
   exact ⟨ρ,ss,R,hf,fun vs H1 s1 h1=>hr (Nf M ρ σ) H1 vs ds d Q (R.st s1).nh (ZhW h1 hp) e fun v H' s hv=>q v H' (s1.trans s) hv⟩
theorem ZA (hc:CallR X (.builtin id) r) (hF:RcD K r F) (hg:Gl X x) (hm:X.mg x=none) (hv:bootBuiltins x=some (.builtin id)) (ha:JA X (e::es) (tA' K M H0 fa)) (hn:x≠"__name__":=by decide) (hdb:(x==("__debug__":Str))=false:=by decide) (he:starEach (e::es) X.env=(false,eval e X.env)::starEach es X.env:=by exact Zb5 (fun _ _ z=>nomatch z)) (hpl:(backTo pos (starEach es X.env)).any (·.1)=false:=by rfl):JE X (.Call (.Name x p) (e::es) [] pos) (tD K M H0 (ZD F fa)):=⟨have ha:=ha.h;(Zg9 hc hg hm hv ha hn hdb he hpl).mono fun _ _ _ h=>Zk8 hF h⟩
theorem ZdU (hc:CallR X (.type id) r) (hF:RcD K r F) (hg:Gl X x) (hm:X.mg x=none) (hv:bootBuiltins x=some (.type id)) (ha:JA X (e::es) (tA' K M H0 fa)) (hn:x≠"__name__":=by decide) (hdb:(x==("__debug__":Str))=false:=by decide) (he:starEach (e::es) X.env=(false,eval e X.env)::starEach es X.env:=by exact Zb5 (fun _ _ z=>nomatch z)) (hpl:(backTo pos (starEach es X.env)).any (·.1)=false:=by rfl):JE X (.Call (.Name x p) (e::es) [] pos) (tD K M H0 (ZD F fa)):=⟨have ha:=ha.h;(ZlO hc hg hm hv ha hn hdb he hpl).mono fun _ _ _ h=>Zk8 hF h⟩
theorem RcD.or {r r':List V→Hp→VK→Prop} {F F':List D→Option D} (h:RcD K r F) (h':RcD K r' F'):RcD K (fun xs H Q=>r xs H Q∨r' xs H Q) (fun ds=>orO (F ds) (F' ds)):=by
 intro N H vs ds d Q nh h1 e q
 cases hF:F ds with
 | some z=>simp only [hF,orO] at e;cases e;exact .inl (h N H vs ds d Q nh h1 hF q)
 | none=>simp only [hF,orO] at e;exact .inr (h' N H vs ds d Q nh h1 e q)
end
inductive Res where
 | fail | next (ρ:VE) | brk (ρ:VE) | cont (ρ:VE) | ret (r:Rv)
def Beh (K:PySem.W.Frag) (M:Fb) (H0:Hp) (ρ:VE) (σ:St) (H:Hp) (ρ':VE) (Q:St→Hp→Prop):Prop:=∀ σ' H',Rel K M H0 ρ' σ' H'→Step M (Nf M ρ σ) (Nf M ρ' σ') H H'→Q σ' H'
def resOk (K:PySem.W.Frag) (M:Fb) (H0:Hp) (ρ:VE) (σ:St) (H:Hp) (D:Ze4):Res→Prop
 | .fail=>False
 | .next ρ'=>Beh K M H0 ρ σ H ρ' D.nx
 | .brk ρ'=>Beh K M H0 ρ σ H ρ' D.bk
 | .cont ρ'=>Beh K M H0 ρ σ H ρ' D.ct
 | .ret r=>∀ v H',Same H0 H'→ZkU K M H0 H' r v→D.rt v H'
def tS (K:PySem.W.Frag) (M:Fb) (H0:Hp) (g:VE→Res):TS:=fun D σ H=>∃ ρ,Rel K M H0 ρ σ H∧resOk K M H0 ρ σ H D (g ρ)
@[simp] def Zo (a:Res) (g:VE→Res):Res:=match a with
  | .next ρ=>g ρ
  | r=>r
theorem Beh.from {K:PySem.W.Frag} {M:Fb} {H0:Hp} {ρ ρ1 ρ':VE} {σ σ1:St} {H H1:Hp} {Q:St→Hp→Prop} (s:Step M (Nf M ρ σ) (Nf M ρ1 σ1) H H1) (h:Beh K M H0 ρ σ H ρ' Q):Beh K M H0 ρ1 σ1 H1 ρ' Q :=
 fun σ' H' R s'=>h σ' H' R (s.trans s')
theorem resOk.from {K:PySem.W.Frag} {M:Fb} {H0:Hp} {ρ ρ1:VE} {σ σ1:St} {H H1:Hp} {D:Ze4} {r:Res} (s:Step M (Nf M ρ σ) (Nf M ρ1 σ1) H H1) (h:resOk K M H0 ρ σ H D r):resOk K M H0 ρ1 σ1 H1 D r:=by
 cases r with
 | fail=>exact h
 | next ρ'=>exact Beh.from s h
 | brk ρ'=>exact Beh.from s h
 | cont ρ'=>exact Beh.from s h
 | ret r=>exact h
section
variable {X:Cx} {K:PySem.W.Frag} {M:Fb} {H0:Hp} {st:Stmt} {ZV:List Stmt} {g g1 g2:VE→Res} {pos:Pos} {e:Expr} {f:VE→Option D}
theorem Zm :JB X [] (tS K M H0 fun ρ=>.next ρ):=⟨pss_nil.mono fun D σ H ⟨ρ,R,q⟩=>q σ H R Step.refl⟩
theorem Ze (h1:JS X st (tS K M H0 g1)) (h2:JB X ZV (tS K M H0 g2)):JB X (st::ZV) (tS K M H0 fun ρ=>Zo (g1 ρ) g2):=⟨have h1:=h1.h;have h2:=h2.h;(Zmt h1 h2).mono fun D σ H ⟨ρ,R,q⟩=>by
 try dsimp only at q
 refine ⟨ρ,R,?_⟩
 cases hg:g1 ρ with
 | fail=>rw [hg] at q;exact q
 | next ρ1=>rw [hg] at q;exact fun σ1 H1 R1 s1=>⟨ρ1,R1,q.from s1⟩
 | brk ρ1=>rw [hg] at q;exact q
 | cont ρ1=>rw [hg] at q;exact q
 | ret r=>rw [hg] at q;exact q⟩
@[simp] def Zz (o:Option D):Res:=match o with
  | some d=>.ret (.val d)
  | none=>.fail
theorem Zv (h:JE X e (tD K M H0 f)):JS X (.Return (some e) pos) (tS K M H0 fun ρ=>Zz (f ρ)):=⟨have h:=h.h;(Zpu h).mono fun D σ H ⟨ρ,R,q⟩=>by
 try dsimp only at q
 cases hf:f ρ with
 | none=>rw [hf] at q;exact False.elim q
 | some d =>
  rw [hf] at q
  exact ⟨ρ,d,R,hf,fun v H' s hv=>q v H' (R.same.trans s) (hv.nw fun a ha=>.inl (.inl ha))⟩⟩
@[simp] def ZsM (o:Option (List D)):Res:=match o with
  | some xs=>.ret (.own xs)
  | none=>.fail
@[simp] def ZsB (o:Option (List D)):Res:=match o with
  | some xs=>.ret (.own xs true)
  | none=>.fail
@[simp] def rdO (ρ:VE) (i:Nat):Option (List D):=match ρ[i]? with
  | some (.own xs)=>some xs
  | _=>none
theorem Zmr {ρ:VE} {i:Nat} {xs:List D} (h:rdO ρ i=some xs):ρ[i]?=some (.own xs):=by
 unfold rdO at h
 split at h
 ·cases h;assumption
 ·cases h
@[simp] def rdG (ρ:VE) (i:Nat):Option (List D):=match ρ[i]? with
  | some (.own xs true)=>some xs
  | _=>none
theorem join_some {σ:St} {i:Nat} {v:V} (e1:σ[i]?.join=some v):σ[i]?=some (some v):=by
 cases z:σ[i]? with
 | none=>rw [z] at e1;cases e1
 | some o=>rw [z] at e1;cases e1;rfl
@[simp] def ZH (c:Option Bool) (a b:Res):Res:=match c with
  | some true=>a
  | some false=>b
  | none=>.fail
theorem ZO {c:Expr} {a b:List Stmt} {t:VE→Option Bool} (hc:JT X c (tB' K M H0 t)) (ha:JB X a (tS K M H0 g1)) (hb:JB X b (tS K M H0 g2)):JS X (.If c a b pos) (tS K M H0 fun ρ=>ZH (t ρ) (g1 ρ) (g2 ρ)):=⟨have hc:=hc.h;have ha:=ha.h;have hb:=hb.h;(ZqD hc ha hb).mono fun D σ H ⟨ρ,R,q⟩=>by
 try dsimp only at q
 cases ht:t ρ with
 | none=>rw [ht] at q;exact False.elim q
 | some k =>
  rw [ht] at q
  refine ⟨ρ,k,R,ht,fun H1 s=>?_⟩
  cases k with
  | true=>refine ZeP ?_;exact ⟨ρ,R.st s,resOk.from (Step.of_same s) q⟩
  | false=>refine ZeV ?_;exact ⟨ρ,R.st s,resOk.from (Step.of_same s) q⟩⟩
theorem Zc0 {α:Type} {l:List α} {i:Nat} {x y:α} (h:(l.set i x)[i]?=some y):i<l.length∧x=y:=by
 by_cases hi:i<l.length
 ·rw [List.getElem?_set_self hi] at h;exact ⟨hi,Option.some.inj h⟩
 ·rw [List.getElem?_eq_none (by simpa using Nat.le_of_not_lt hi)] at h;cases h
theorem Zfq {M:Fb} {ρ:VE} {σ:St} {i:Nat} {s:Sl} {v:V} {b:Addr} (hl:ρ.length=σ.length) (h:Nf M (ρ.set i s) (σ.set i (some v)) b):Nf M ρ σ b∨∃ xs fl,s=.own xs fl∧v=.ref b:=by
 rcases h with h | ⟨j,xs,fl,h1,h2⟩
 ·exact .inl (.inl h)
 ·by_cases e:i=j
  ·subst e
   have q1:=(Zc0 h1).2
   have q2:=(Zc0 h2).2
   cases q1;cases q2;exact .inr ⟨xs,fl,rfl,rfl⟩
  ·rw [List.getElem?_set_ne e] at h1 h2
   exact .inl (.inr ⟨j,xs,fl,h1,h2⟩)
theorem Rel.put {ρ:VE} {σ:St} {H H':Hp} {i:Nat} {s:Sl} {v:V} (R:Rel K M H0 ρ σ H) (S:Step M (Nf M ρ σ) (Nf M (ρ.set i s) (σ.set i (some v))) H H') (sm:Same H0 H')
  (ow:∀ j a vs xs fl,j≠i→ρ[j]?=some (.own xs fl)→σ[j]?=some (some (.ref a))→H a=some (CO fl xs vs)→H' a=some (CO fl xs vs))
  (hs:i<ρ.length→ZoN K M (Nf M (ρ.set i s) (σ.set i (some v))) H0 H' s (some v))
  (hinj:∀ xs fl a j ys fl',s=.own xs fl→v=.ref a→j≠i→ρ[j]?=some (.own ys fl')→σ[j]?≠some (some (.ref a))):Rel K M H0 (ρ.set i s) (σ.set i (some v)) H' where
 len:=by rw [List.length_set,List.length_set];exact R.len
 same:=sm
 mh:=fun a h z=>by
  cases e:H a with
  | none=>exact R.mh a h e
  | some o=>rw [S.kp a o e (.inr (.inl h))] at z;cases z
 slot:=fun j sl e=>by
  by_cases eij:i=j
  ·subst eij
   obtain ⟨hi,e⟩:=Zc0 e
   subst e
   rw [List.getElem?_set_self (by rw [← R.len];exact hi)]
   exact hs hi
  ·rw [List.getElem?_set_ne eij] at e ⊢
   have q:=R.slot j sl e
   cases sl with
   | no=>trivial
   | val d=>obtain ⟨u,e1,h⟩:=q;exact ⟨u,e1,Den.step S d u h⟩
   | own xs fl=>obtain ⟨a,vs,e1,h1,h2,h3,h4⟩:=q;exact ⟨a,vs,e1,h1,h2,ow j a vs xs fl (Ne.symm eij) e (join_some e1) h3,DenL.step S xs vs h4⟩
   | lent xs fl=>obtain ⟨a,vs,e1,h1,h2,h3⟩:=q;exact ⟨a,vs,e1,h1,h2.step S (.inr (.inl h1)),DenL.step S xs vs h3⟩
   | exc c=>obtain ⟨a,C,e1,h1,h2⟩:=q;exact ⟨a,C,e1,h1,S.kp _ _ h2 (.inr (.inr rfl))⟩
 inj:=fun j k xs ys fl fl' a h1 h2 h3 h4=>by
  by_cases ej:i=j
  ·by_cases ek:i=k
   ·rw [← ej,ek]
   ·subst ej
    rw [List.getElem?_set_ne ek] at h2 h4
    have q1:=(Zc0 h1).2
    have q3:=(Zc0 h3).2
    cases q1;cases q3;exact absurd h4 (hinj xs fl a k ys fl' rfl rfl (Ne.symm ek) h2)
  ·rw [List.getElem?_set_ne ej] at h1 h3
   by_cases ek:i=k
   ·subst ek
    have q2:=(Zc0 h2).2
    have q4:=(Zc0 h4).2
    cases q2;cases q4;exact absurd h3 (hinj ys fl' a j xs fl rfl rfl (Ne.symm ej) h1)
   ·rw [List.getElem?_set_ne ek] at h2 h4
    exact R.inj j k xs ys fl fl' a h1 h2 h3 h4
theorem Rel.setV {ρ:VE} {σ:St} {H H':Hp} {i:Nat} {d:D} {v:V} (R:Rel K M H0 ρ σ H) (s:Same H H') (h:Den K (Nf M ρ σ) H' d v) :
  Rel K M H0 (ρ.set i (.val d)) (σ.set i (some v)) H'∧Step M (Nf M ρ σ) (Nf M (ρ.set i (.val d)) (σ.set i (some v))) H H':=by
 have S:Step M (Nf M ρ σ) (Nf M (ρ.set i (.val d)) (σ.set i (some v))) H H':=⟨fun a o e _=>s a o e,fun b hb=>by
  rcases Zfq R.len hb with q | ⟨xs,_,e,_⟩
  ·exact .inl q
  ·cases e⟩
 refine ⟨R.put S (R.same.trans s) (fun j a vs xs fl _ _ _ e=>s _ _ e) (fun _=>⟨v,rfl,h.nw fun b hb=>?_⟩) (fun xs fl a j ys fl' e=>nomatch e),S⟩
 rcases Zfq R.len hb with q | ⟨xs,_,e,_⟩
 ·exact .inl q
 ·cases e
theorem Rel.setO {fl:Bool} {ρ:VE} {σ:St} {H H':Hp} {i:Nat} {xs:List D} {a:Addr} {vs:List V} (R:Rel K M H0 ρ σ H) (s:Same H H') (hn:H a=none) (ha:H' a=some (CO fl xs vs)) (h:DenL K (fun b=>Nf M ρ σ b∨b=a) H' xs vs) :
  Rel K M H0 (ρ.set i (.own xs fl)) (σ.set i (some (.ref a))) H'∧Step M (Nf M ρ σ) (Nf M (ρ.set i (.own xs fl)) (σ.set i (some (.ref a)))) H H':=by
 have nf:∀ b,Nf M (ρ.set i (.own xs fl)) (σ.set i (some (.ref a))) b→Nf M ρ σ b∨b=a:=fun b hb=>by
  rcases Zfq R.len hb with q | ⟨xs,fl,e,e'⟩
  ·exact .inl q
  ·cases e';exact .inr rfl
 have S:Step M (Nf M ρ σ) (Nf M (ρ.set i (.own xs fl)) (σ.set i (some (.ref a)))) H H':=⟨fun a o e _=>s a o e,fun b hb=>by
  rcases nf b hb with q | q
  ·exact .inl q
  ·subst q;exact .inr hn⟩
 refine ⟨R.put S (R.same.trans s) (fun j a vs xs fl _ _ _ e=>s _ _ e) (fun _=>⟨a,vs,rfl,R.same.free hn,fun hm=>R.fresh hn (.inl hm),ha,h.nw fun b hb=>.inl (nf b hb)⟩) (fun xs' fl' a' j ys fl2 e e' hj h1 h2=>?_),S⟩
 cases e'
 exact R.fresh hn (.inr ⟨j,ys,fl2,h1,h2⟩)
theorem Rel.chg {fl fl2:Bool} {ρ:VE} {σ:St} {H:Hp} {i:Nat} {xs ys:List D} {a:Addr} {ws:List V} (R:Rel K M H0 ρ σ H) (hi:ρ[i]?=some (.own xs fl)) (ha:σ[i]?=some (some (.ref a))) (h:DenL K (Nf M ρ σ) H ys ws) :
  Rel K M H0 (ρ.set i (.own ys fl2)) σ (upd H a (CO fl2 ys ws))∧Step M (Nf M ρ σ) (Nf M (ρ.set i (.own ys fl2)) σ) H (upd H a (CO fl2 ys ws)):=by
 obtain ⟨a',vs,e1,z1,z2,z3,z4⟩:=R.slot i _ hi
 rw [ha] at e1
 have ea:a=a':=by simpa using e1
 subst ea
 have hσ:σ.set i (some (.ref a))=σ:=by
  apply List.ext_getElem?
  intro j
  by_cases e:i=j
  ·subst e
   rw [List.getElem?_set_self (List.getElem?_eq_some_iff.mp ha).1,ha]
  ·rw [List.getElem?_set_ne e]
 have na:Nf M ρ σ a:=.inr ⟨i,xs,fl,hi,ha⟩
 have nf:∀ b,Nf M (ρ.set i (.own ys fl2)) (σ.set i (some (.ref a))) b→Nf M ρ σ b:=fun b hb=>by
  rcases Zfq R.len hb with q | ⟨xs,_,e,e'⟩
  ·exact q
  ·cases e';exact na
 have S:Step M (Nf M ρ σ) (Nf M (ρ.set i (.own ys fl2)) (σ.set i (some (.ref a)))) H (upd H a (CO fl2 ys ws)):=⟨fun b o e z=>by
   have ne:b≠a:=by
    rintro rfl
    rcases z with z | z | z
    ·exact z na
    ·exact z2 z
    ·rw [z3] at e;cases e;rw [Zo0] at z;cases z
   rw [ZB ne];exact e,fun b hb=>.inl (nf b hb)⟩
 have key:Rel K M H0 (ρ.set i (.own ys fl2)) (σ.set i (some (.ref a))) (upd H a (CO fl2 ys ws)):=by
  refine R.put S (fun b o e=>?_) (fun j b us xs' fl' hj h1 h2 h3=>?_) (fun _=>⟨a,ws,rfl,z1,z2,Zaw,DenL.step S ys ws h⟩) (fun xs' fl3 b j ys' fl' e e' hj h1 h2=>?_)
  ·have ne:b≠a:=by
    rintro rfl
    rw [z1] at e;cases e
   rw [ZB ne];exact R.same b o e
  ·have ne:b≠a:=by
    rintro rfl
    exact hj (R.inj j i xs' xs fl' fl b h1 hi h2 ha)
   rw [ZB ne];exact h3
  ·cases e'
   exact hj (R.inj j i ys' xs fl' fl _ h1 hi h2 ha)
 rw [hσ] at key S
 exact ⟨key,S⟩
theorem Rel.frz {fl:Bool} {ρ:VE} {σ:St} {H:Hp} {i:Nat} {xs:List D} (R:Rel K M H0 ρ σ H) (hi:ρ[i]?=some (.own xs fl)) :
  Rel K M H0 (ρ.set i (.val (.lst xs fl))) σ H∧Step M (Nf M ρ σ) (Nf M (ρ.set i (.val (.lst xs fl))) σ) H H:=by
 obtain ⟨a,vs,e1,z1,z2,z3,z4⟩:=R.slot i _ hi
 have ha:=join_some e1
 have hσ:σ.set i (some (.ref a))=σ:=by
  apply List.ext_getElem?
  intro j
  by_cases e:i=j
  ·subst e
   rw [List.getElem?_set_self (List.getElem?_eq_some_iff.mp ha).1,ha]
  ·rw [List.getElem?_set_ne e]
 have nf:∀ b,Nf M (ρ.set i (.val (.lst xs fl))) (σ.set i (some (.ref a))) b→Nf M ρ σ b:=fun b hb=>by
  rcases Zfq R.len hb with q | ⟨xs,_,e,e'⟩
  ·exact q
  ·cases e
 have nna:¬ Nf M (ρ.set i (.val (.lst xs fl))) (σ.set i (some (.ref a))) a:=by
  rintro (h | ⟨j,ys,fl',h1,h2⟩)
  ·exact z2 h
  ·by_cases e:i=j
   ·subst e
    have q1:=(Zc0 h1).2
    cases q1
   ·rw [List.getElem?_set_ne e] at h1 h2
    exact e (R.inj i j xs ys _ _ a hi h1 ha h2)
 have S:Step M (Nf M ρ σ) (Nf M (ρ.set i (.val (.lst xs fl))) (σ.set i (some (.ref a)))) H H:=⟨fun _ _ e _=>e,fun b hb=>.inl (nf b hb)⟩
 have key:Rel K M H0 (ρ.set i (.val (.lst xs fl))) (σ.set i (some (.ref a))) H:=by
  refine R.put S R.same (fun _ _ _ _ _ _ _ _ h=>h) (fun _=>⟨.ref a,rfl,?_⟩) (fun xs' _ b j ys' _ e=>nomatch e)
  simp only [Den]
  exact ⟨a,vs,rfl,.of nna z3,DenL.step S xs vs z4⟩
 rw [hσ] at key S
 exact ⟨key,S⟩
@[simp] def Zu (i:Nat) (o:Option D) (ρ:VE):Res:=match o with
  | some d=>.next (ρ.set i (.val d))
  | none=>.fail
@[simp] def ZhH (i:Nat) (o:Option (List D)) (ρ:VE):Res:=match o with
  | some xs=>.next (ρ.set i (.own xs))
  | none=>.fail
@[simp] def Zsp (i:Nat) (o:Option (List D)) (ρ:VE):Res:=match o with
  | some xs=>.next (ρ.set i (.own xs true))
  | none=>.fail
theorem ZlA {i:Nat} {D':Ze4} {σ:St} {H:Hp} (h:tS K M H0 (fun ρ=>Zu i (f ρ) ρ) D' σ H):ZkX (tD K M H0 f) (Zgy i) D' σ H:=by
 obtain ⟨ρ,R,q⟩:=h
 try dsimp only at q
 cases hf:f ρ with
 | none=>simp only [hf,Zu] at q;exact False.elim q
 | some d =>
  simp only [hf,Zu] at q
  refine ⟨ρ,d,R,hf,fun v H1 s hv=>?_⟩
  obtain ⟨R1,S1⟩:=R.setV (i:=i) s hv
  exact q _ _ R1 S1
theorem Zpw {f:VE→Option (List D)} {i:Nat} {D':Ze4} {σ:St} {H:Hp} (h:tS K M H0 (fun ρ=>ZhH i (f ρ) ρ) D' σ H):ZkX (tF K M H0 f) (Zgy i) D' σ H:=by
 obtain ⟨ρ,R,q⟩:=h
 try dsimp only at q
 cases hf:f ρ with
 | none=>simp only [hf,ZhH] at q;exact False.elim q
 | some d =>
  simp only [hf,ZhH] at q
  refine ⟨ρ,d,R,hf,fun a vs H1 s z1 z2 z3=>?_⟩
  obtain ⟨R1,S1⟩:=R.setO (i:=i) s z1 z2 z3
  exact q _ _ R1 S1
theorem Zt {i:Nat} {x:Str} {pos':Pos} (hN:X.N.Nodup) (hi:X.N[i]?=some x) (hx:Loc X.env.scope x) (he:JE X e (tD K M H0 f)) (hs:swapsWith e (some (.Name x pos')) pos.line X.env=pure false:=by rfl) (hf:X.fn x=true∨X.env.scope.names.lookup x=some .local:=by first | exact .inl rfl | exact .inr rfl | assumption):JS X (.Assign [.Name x pos'] e pos) (tS K M H0 fun ρ=>Zu i (f ρ) ρ):=⟨have he:=he.h;(Zlk hN hi hx he hs hf).mono fun _ _ _ q=>ZlA q⟩
theorem Zly {f:VE→Option (List D)} {i:Nat} {x:Str} {pos':Pos} (hN:X.N.Nodup) (hi:X.N[i]?=some x) (hx:Loc X.env.scope x) (he:JE X e (tF K M H0 f)) (hs:swapsWith e (some (.Name x pos')) pos.line X.env=pure false:=by rfl) (hf:X.fn x=true∨X.env.scope.names.lookup x=some .local:=by first | exact .inl rfl | exact .inr rfl | assumption):JS X (.Assign [.Name x pos'] e pos) (tS K M H0 fun ρ=>ZhH i (f ρ) ρ):=⟨have he:=he.h;(Zlk hN hi hx he hs hf).mono fun _ _ _ q=>Zpw q⟩
@[simp] def ZsD (i:Nat) (ρ:VE):VE:=match ρ[i]? with
  | some (.own xs b)=>ρ.set i (.val (.lst xs b))
  | _=>ρ
@[simp] def Zi8 (i:Nat) (o:Option D) (ρ:VE):Res:=match rdO ρ i,o with
  | some xs,some d=>if xs.length<sizeLine then .next (ρ.set i (.own (xs++[d]))) else .fail
  | _,_=>.fail
theorem Zj0 {i:Nat} {x:Str} {vpos apos cpos:Pos} (hN:X.N[i]?=some x) (hv:Vis X.env.scope x) (he:JE X e (tD K M H0 f)) (hd:(x==("__debug__":Str))=false:=by decide) (hcd:(x==("__classdict__":Str))=false:=by decide) (hs:swapsWith (.Call (.Attribute (.Name x vpos) "append" apos) [e] [] cpos) none pos.line X.env=pure false:=by rfl) (hbase:attributeBase (.Name x vpos) "append" X.env (eval (.Name x vpos) X.env)=eval (.Name x vpos) X.env:=by rfl) (hfew:((backTo cpos (starEach [e] X.env)).all (fun x=>!x.1)&&(backToKw cpos (keywordEach [] X.env)).all (fun x=>x.1.isSome)
   && decide ([e].length+([]:List Keyword).length+(if ([]:List Keyword).isEmpty then 0 else 1)<30))=true:=by rfl) (hline:(apos.endLine==cpos.line)=true:=by rfl) (hst:starEach [e] X.env=(false,eval e X.env)::starEach [] X.env:=by rfl) (hpl:(backTo cpos (starEach [] X.env)).any (·.1)=false:=by rfl):JS X (.Expr (.Call (.Attribute (.Name x vpos) "append" apos) [e] [] cpos) pos) (tS K M H0 fun ρ=>Zi8 i (f ρ) ρ):=⟨have he:=he.h;(Zkd (Znd PySem.F.plainAttrs_list PySem.F.slot_list_append PySem.F.type_list_append ZlY (Zfa hN hv hd hcd) (Zfl he pa_nil hst) hbase hfew hline hst hpl) hs).mono fun D' σ H ⟨ρ,R,q⟩=>by
  try dsimp only at q
  cases hr:rdO ρ i with
  | none=>simp only [hr,Zi8] at q;exact False.elim q
  | some xs =>
   cases hf:f ρ with
   | none=>simp only [hr,hf,Zi8] at q;exact False.elim q
   | some d =>
    simp only [hr,hf,Zi8] at q
    split at q
    ·next hz =>
     have hi:=Zmr hr
     obtain ⟨a,vs,e1,z1,z2,z3,z4⟩:=R.slot i _ hi
     have ha:=join_some e1
     refine ⟨.ref a,ha,.inl ⟨rfl,vs,.inl (.inl z3)⟩,ρ,d,R,hf,fun v H1 s hv=>?_⟩
     have R1:=R.st s
     obtain ⟨R2,S2⟩:=R1.chg (ys:=xs++[d]) (ws:=vs++[v]) hi ha ((z4.same s).append (DenL.cons hv DenL.nil))
     exact ⟨a,vs,v,rfl,rfl,s _ _ z3,by rw [← z4.length];exact hz,q _ _ R2 ((Step.of_same s).trans S2)⟩
    ·exact False.elim q⟩
end
def ZkM (K:PySem.W.Frag) (M N:Fb) (H1:Hp) (J:It) (ds:List D):Prop:=∀ N2 H2,Step M N N2 H1 H2→∀ i,(∀ d,ds[i]?=some d→J.go i H2∧∀ x H3,J.yld i H2 x H3→Same H2 H3∧Den K N2 H3 d x)∧(i=ds.length→J.stop i H2)
def tI (K:PySem.W.Frag) (M:Fb) (H0:Hp) (f:VE→Option (List D)):TI:=fun σ H R=>∃ ρ ds,Rel K M H0 ρ σ H∧f ρ=some ds∧∀ J H1,Same H H1→ZkM K M (Nf M ρ σ) H1 J ds→R J H1
def tG (K:PySem.W.Frag) (M:Fb) (H0:Hp) (ws:List Nat) (b:D→VE→Option VE):TG:=fun v σ H Q=>∃ ρ d ρ',Rel K M H0 ρ σ H∧Den K (Nf M ρ σ) H d v∧b d ρ=some ρ'∧∀ σ' ,Rel K M H0 ρ' σ' H→Step M (Nf M ρ σ) (Nf M ρ' σ') H H→(∀ j,j∉ws→σ'[j]?=σ[j]?)→Q σ' H
@[simp] def ZF (i:Nat) (d:D) (ρ:VE):Option VE:=some (ρ.set i (.val d))
def ZdP (b:D→VE→Option VE) (g:VE→Res):List D→VE→Res
 | [],ρ=>.next ρ
 | d::ds,ρ=>match b d ρ with
  | none=>.fail
  | some ρ1=>match g ρ1 with
   | .next ρ2=>ZdP b g ds ρ2
   | .cont ρ2=>ZdP b g ds ρ2
   | .brk ρ2=>.next ρ2
   | r=>r
@[simp] def Zg3 (f:VE→Option (List D)) (b:D→VE→Option VE) (g:VE→Res):VE→Res:=fun ρ=>match f ρ with
  | some ds=>ZdP b g ds ρ
  | none=>.fail
section
variable {X:Cx} {K:PySem.W.Frag} {M:Fb} {H0:Hp} {pos:Pos} {e tg iter:Expr} {f:VE→Option (List D)} {b:D→VE→Option VE} {g:VE→Res} {body:List Stmt}
theorem ZQ {i:Nat} {x:Str} (hN:X.N.Nodup) (hi:X.N[i]?=some x) (hx:Loc X.env.scope x) (hf:X.fn x=true∨X.env.scope.names.lookup x=some .local:=by first | exact .inl rfl | exact .inr rfl | assumption):JG X (.Name x pos) (tG K M H0 [i] (ZF i)):=⟨by
 intro pins s σ H v u Q I r ⟨ρ,d,ρ',R,hd,e,q⟩
 cases e
 obtain ⟨R1,S1⟩:=R.setV (i:=i) (Same.refl H) hd
 exact Zob hN hi hx hf pins s σ H v u Q I r (q _ R1 S1 fun j hj=>by rw [List.getElem?_set_ne (fun e=>hj (by rw [e];simp))])⟩
theorem Zpq {ws:List Nat} {D':Ze4} {σ:St} {H:Hp} {wi:TI} {tg':TG} {tb:TS} (hi:∀ σ H R,tI K M H0 f σ H R→wi σ H R) (hg:∀ v σ H Q,tG K M H0 ws b v σ H Q→tg' v σ H Q) (hb:∀ D σ H,tS K M H0 g D σ H→tb D σ H)
  (h:tS K M H0 (Zg3 f b g) D' σ H):ZpH wi tg' tb D' σ H:=by
 obtain ⟨ρ,R,q⟩:=h
 try dsimp only at q
 unfold Zg3 at q
 cases hf:f ρ with
 | none=>rw [hf] at q;exact False.elim q
 | some ds =>
  rw [hf] at q
  refine hi _ _ _ ⟨ρ,ds,R,hf,fun J H1 s1 ok=>?_⟩
  -- at turn i: the slots ρi from which the ZV of the items gives what is wanted
  refine ⟨fun i m σi Hi=>m=ds.length-i∧i≤ds.length∧∃ ρi,Rel K M H0 ρi σi Hi∧Step M (Nf M ρ σ) (Nf M ρi σi) H1 Hi∧resOk K M H0 ρi σi Hi D' (ZdP b g (ds.drop i) ρi),⟨ds.length,by simp,Nat.zero_le _,ρ,R.st s1,Step.refl,?_⟩,?_⟩
  ·exact resOk.from (Step.of_same s1) q
  ·rintro i m σi Hi ⟨rfl,hle,ρi,Ri,Si,qi⟩
   obtain ⟨ok1,ok2⟩:=ok _ _ Si i
   by_cases hlt:i<ds.length
   ·obtain ⟨go,y⟩:=ok1 ds[i] (List.getElem?_eq_getElem hlt)
    rw [List.drop_eq_getElem_cons hlt] at qi
    simp only [ZdP] at qi
    refine .inr ⟨go,fun σ' H'=>i+1≤ds.length∧∃ ρi,Rel K M H0 ρi σ' H'∧Step M (Nf M ρ σ) (Nf M ρi σ') H1 H'∧resOk K M H0 ρi σ' H' D' (ZdP b g (ds.drop (i+1)) ρi),fun σ' H' z=>⟨ds.length-(i+1),by omega,rfl,z⟩,fun x H' yl=>?_⟩
    obtain ⟨s3,hd⟩:=y x H' yl
    cases hbd:b ds[i] ρi with
    | none=>rw [hbd] at qi;exact False.elim qi
    | some ρ1 =>
     rw [hbd] at qi
     simp only at qi
     refine hg _ _ _ _ ⟨ρi,ds[i],ρ1,Ri.st s3,hd,hbd,fun σ1 R1 S1 _=>hb _ _ _ ⟨ρ1,R1,?_⟩⟩
     have S01:Step M (Nf M ρi σi) (Nf M ρ1 σ1) Hi H':=(Step.of_same s3).trans S1
     cases hgr:g ρ1 with
     | fail=>rw [hgr] at qi;exact qi
     | next ρ2=>rw [hgr] at qi;exact fun σ2 H2 R2 S2=>⟨hlt,ρ2,R2,Si.trans (S01.trans S2),resOk.from (S01.trans S2) qi⟩
     | cont ρ2=>rw [hgr] at qi;exact fun σ2 H2 R2 S2=>⟨hlt,ρ2,R2,Si.trans (S01.trans S2),resOk.from (S01.trans S2) qi⟩
     | brk ρ2=>rw [hgr] at qi;exact fun σ2 H2 R2 S2=>qi σ2 H2 R2 (S01.trans S2)
     | ret r=>rw [hgr] at qi;exact qi
   ·have e:i=ds.length:=by omega
    rw [List.drop_eq_nil_of_le (by omega)] at qi
    exact .inl ⟨ok2 e,qi σi Hi Ri Step.refl⟩
theorem Zg1 {ws:List Nat} (hp:PassesOwn (model X.prog X.w) X.A X.env X.xe) (hc:X.calm=true) (hi:JI X tg iter (tI K M H0 f)) (hg:JG X tg (tG K M H0 ws b)) (hb:JB X body (tS K M H0 g)) (hs:∀ x,foldedSetIterable iter X.env x=pure x:=by intro _;rfl):JS X (.For tg iter body [] pos) (tS K M H0 (Zg3 f b g)):=⟨have hi:=hi.h;have hg:=hg.h;have hb:=hb.h;(ZpX hp hc hi hg hb hs).mono fun _ _ _ q=>Zpq (fun _ _ _ z=>z) (fun _ _ _ _ z=>z) (fun _ _ _ z=>z) q⟩
theorem PI.mono {wi wi':TI} (h:PI X tg iter wi) (m:∀ σ H R,wi' σ H R→wi σ H R):PI X tg iter wi':=fun pins s σ H R I q=>h pins s σ H R I (m σ H R q)
def DenQ (K:PySem.W.Frag) (M N:Fb) (H:Hp) (d:D) (v:V):Prop:=match d with
 | .lst xs=>∃ a vs,v=.ref a∧(((¬ N a∨M a)∧Rd H a (.lst vs))∨KL K a vs)∧DenL K N H xs vs
 | .lst xs true=>∃ a vs,v=.ref a∧(¬ N a∨M a)∧Rd H a (.dct (ZiV xs) vs)∧DenL K N H xs vs
 | d=>Den K N H d v
def tQ (K:PySem.W.Frag) (M:Fb) (H0:Hp) (f:VE→Option D):TE:=fun σ H Q=>∃ ρ d,Rel K M H0 ρ σ H∧f ρ=some d∧∀ v H',Same H H'→DenQ K M (Nf M ρ σ) H' d v→Q v H'
theorem Den.q {M N:Fb} {H:Hp} {d:D} {v:V} (h:Den K N H d v):DenQ K M N H d v:=by
 cases d with
 | lst xs fl =>
  simp only [Den] at h
  obtain ⟨a,vs,e,q,r⟩:=h
  cases fl with
  | false =>
   refine ⟨a,vs,e,?_,r⟩
   rcases q with ⟨n,q⟩ | ⟨ws,z,q⟩
   ·exact .inl ⟨.inl n,q⟩
   ·cases z;exact .inr q
  | true =>
   rcases q with ⟨n,q⟩ | ⟨ws,z,_⟩
   ·exact ⟨a,vs,e,.inl n,q,r⟩
   ·cases z
 | _=>exact h
theorem PE.q {f:VE→Option D} (h:PE X e (tD K M H0 f)):PE X e (tQ K M H0 f):=h.mono fun σ H Q ⟨ρ,d,R,e,q⟩=>⟨ρ,d,R,e,fun v H' s z=>q v H' s z.q⟩
theorem j_q {f:VE→Option D} (h:JE X e (tD K M H0 f)):JE X e (tQ K M H0 f):=⟨PE.q h.h⟩
theorem ZnL {M N:Fb} {H:Hp} {xs:List D} {vs:List V} {fl:Bool} {a:Addr} (m:M a) (h:Rd H a (CO fl xs vs)) (r:DenL K N H xs vs):DenQ K M N H (.lst xs fl) (.ref a):=by
 cases fl with
 | false=>exact ⟨a,vs,rfl,.inl ⟨.inr m,h⟩,r⟩
 | true=>exact ⟨a,vs,rfl,.inr m,h,r⟩
@[simp] def rdQ (ρ:VE) (i:Nat):Option D:=match ρ[i]? with
  | some (.val d)=>some d
  | some (.lent xs b)=>some (.lst xs b)
  | _=>none
theorem Zpb {i:Nat} {x:Str} (hN:X.N[i]?=some x) (hv:Vis X.env.scope x) (hd:(x==("__debug__":Str))=false:=by decide) (hcd:(x==("__classdict__":Str))=false:=by decide):PE X (.Name x pos) (tQ K M H0 fun ρ=>rdQ ρ i) :=
 (Zfa hN hv hd hcd).mono fun σ H Q ⟨ρ,d,R,e,q⟩=>by
  try dsimp only at e q
  unfold rdQ at e
  split at e
  ·next h=>cases e;obtain ⟨v,e1,h⟩:=R.slot i _ h;exact ⟨v,join_some e1,q v H (Same.refl H) h.q⟩
  ·next h=>cases e;obtain ⟨a,vs,e1,h2,h3,h4⟩:=R.slot i _ h;exact ⟨_,join_some e1,q _ H (Same.refl H) (ZnL h2 h3 h4)⟩
  ·cases e
def Zi4:D→Option (List D)
 | .lst xs=>some xs
 | _=>none
def ZmU:D→Option (List D)
 | .tup xs=>some xs
 | _=>none
def Zl9:D→Option (List D)
 | .str x=>some (x.cps.toList.map fun c=>D.str ⟨#[c]⟩)
 | _=>none
theorem Znw {l:Expr} {f:VE→Option D} (h:PE X l (tQ X.K M H0 f)):PI X tg l (tI X.K M H0 fun ρ=>(f ρ).bind Zi4):=(ZnX h).mono fun σ H R' ⟨ρ,ds,R,e,q⟩=>by
 try dsimp only at e q
 cases hf:f ρ with
 | none=>rw [hf] at e;cases e
 | some d =>
  rw [hf] at e
  cases d with
  | lst xs fl =>
   cases fl with
   | true=>cases e
   | false =>
   cases e
   refine ⟨ρ,.lst _,R,hf,fun v H1 s1 hv=>?_⟩
   obtain ⟨a,vs,e1,hr,hd⟩:=hv
   have sq:∀ N2 H2,Step M (Nf M ρ σ) N2 H1 H2→SqL X.K H2 a vs:=fun N2 H2 S=>by
    rcases hr with ⟨hn,hr⟩ | hr
    ·exact .inl (hr.step S (by rcases hn with z | z;exact .inl z;exact .inr (.inl z)))
    ·exact hr.sq
   refine ⟨a,e1,⟨vs,sq _ _ Step.refl⟩,q _ H1 s1 fun N2 H2 S i=>?_⟩
   have hr2:=sq _ _ S
   have hd2:=DenL.step S _ _ hd
   refine ⟨fun d he=>?_,fun he=>⟨vs,hr2,by rw [he,hd.length];exact Nat.le_refl _⟩⟩
   obtain ⟨w,hw,hdw⟩:=hd2.get he
   refine ⟨⟨vs,w,hr2,hw⟩,fun x H3 y=>?_⟩
   obtain ⟨e3,y⟩:=y
   subst e3
   have:=y vs hr2
   rw [hw] at this;cases this
   exact ⟨Same.refl _,hdw⟩
  | _=>cases e
theorem ZoE {l:Expr} {f:VE→Option D} (h:PE X l (tQ X.K M H0 f)):PI X tg l (tI X.K M H0 fun ρ=>(f ρ).bind ZmU):=(Zpl h).mono fun σ H R' ⟨ρ,ds,R,e,q⟩=>by
 try dsimp only at e q
 cases hf:f ρ with
 | none=>rw [hf] at e;cases e
 | some d =>
  rw [hf] at e
  cases d with
  | tup xs =>
   cases e
   refine ⟨ρ,.tup _,R,hf,fun v H1 s1 hv=>?_⟩
   simp only [DenQ,Den] at hv
   obtain ⟨a,vs,e1,hr,hd⟩:=hv
   refine ⟨a,e1,⟨vs,hr⟩,q _ H1 s1 fun N2 H2 S i=>?_⟩
   have hr2:=hr.step S
   have hd2:=DenL.step S _ _ hd
   refine ⟨fun d he=>?_,fun he=>⟨vs,hr2,by rw [he,hd.length];exact Nat.le_refl _⟩⟩
   obtain ⟨w,hw,hdw⟩:=hd2.get he
   refine ⟨⟨vs,w,hr2,hw⟩,fun x H3 y=>?_⟩
   obtain ⟨e3,y⟩:=y
   subst e3
   have:=y vs hr2
   rw [hw] at this;cases this
   exact ⟨Same.refl _,hdw⟩
  | _=>cases e
theorem Zog {l:Expr} {f:VE→Option D} (h:PE X l (tQ K M H0 f)):PI X tg l (tI K M H0 fun ρ=>(f ρ).bind Zl9):=(Zoh h).mono fun σ H R' ⟨ρ,ds,R,e,q⟩=>by
 try dsimp only at e q
 cases hf:f ρ with
 | none=>rw [hf] at e;cases e
 | some d =>
  rw [hf] at e
  cases d with
  | str x =>
   cases e
   refine ⟨ρ,.str x,R,hf,fun v H1 s1 hv=>?_⟩
   simp only [DenQ,Den] at hv
   refine ⟨x,hv,q _ H1 s1 fun N2 H2 S i=>⟨fun d he=>?_,fun he=>?_⟩⟩
   ·rw [List.getElem?_map] at he
    cases hc:x.cps.toList[i]? with
    | none=>rw [hc] at he;cases he
    | some c =>
     rw [hc] at he;cases he
     have hi:i<x.cps.size:=by
      have:=(List.getElem?_eq_some_iff.mp hc).1
      simpa using this
     refine ⟨hi,fun v H3 y=>?_⟩
     obtain ⟨e3,c',hc',y⟩:=y
     subst e3 y
     rw [← Array.getElem?_toList,hc] at hc';cases hc'
     exact ⟨Same.refl _,by simp only [Den]⟩
   ·have:i=x.cps.size:=by simpa using he
    exact Nat.le_of_eq this.symm
  | _=>cases e
def ZcT (lo:Int) (n:Nat):List D:=(List.range n).map (fun (k:Nat)=>D.int (lo+(k:Int)))
theorem Zox {M N:Fb} {H1:Hp} {lo:Int} {n:Nat}:ZkM K M N H1 (Itr lo n) (ZcT lo n):=fun N2 H2 S i=>by
 refine ⟨fun d he=>?_,fun he=>?_⟩
 ·have hi:i<n:=by
   have:=(List.getElem?_eq_some_iff.mp he).1
   simpa [ZcT] using this
  have e:d=D.int (lo+i):=by
   simp only [ZcT,List.getElem?_map,List.getElem?_range hi,Option.map_some,Option.some.injEq] at he
   exact he.symm
  subst e
  refine ⟨hi,fun x H3 y=>?_⟩
  obtain ⟨e3,y⟩:=y
  subst e3 y
  exact ⟨Same.refl _,by simp only [Den]⟩
 ·have:i=n:=by simpa [ZcT] using he
  exact Nat.le_of_eq this.symm
noncomputable def gd {α:Type} (p:Prop) (o:Option α):Option α:=@ite _ p (Classical.propDecidable p) o none
theorem Zjl {α:Type} {p:Prop} {o:Option α} (h:p):gd p o=o:=by unfold gd;exact @if_pos _ (Classical.propDecidable p) h _ _ _
theorem ZpC {α:Type} {p:Prop} {o:Option α} {x:α} (h:gd p o=some x):p∧o=some x:=by
 by_cases hp:p
 ·rw [Zjl hp] at h;exact ⟨hp,h⟩
 ·unfold gd at h
  rw [@if_neg _ (Classical.propDecidable p) hp] at h
  cases h
noncomputable def Zgd:List D→Option (List D)
 | [.int j]=>gd (-1000000000≤j∧j<1000000000) (some (ZcT 0 j.toNat))
 | _=>none
theorem ZgL {a:Expr} {fa:VE→Option (List Sl)} {p:Pos} (hg:Gl X "range") (hm:X.mg "range"=none) (ha:JA X [a] (tA' K M H0 fa)) (hs:starEach [a] X.env=[(false,eval a X.env)]:=by rfl):JI X tg (.Call (.Name "range" p) [a] [] pos) (tI K M H0 fun ρ=>((fa ρ).bind ZP).bind Zgd):=⟨have ha:=ha.h;(ZlZ hg hm ha hs).mono fun σ H R' ⟨ρ,ds,R,e,q⟩=>by
  try dsimp only at e q
  cases hf:fa ρ with
  | none=>rw [hf] at e;cases e
  | some ss =>
   rw [hf] at e
   cases hv:ZP ss with
   | none=>simp only [Option.bind,hv] at e;cases e
   | some l =>
    simp only [Option.bind,hv] at e
    unfold Zgd at e
    split at e
    ·next j =>
     obtain ⟨hz,e⟩:=ZpC e
     cases e
     refine ⟨ρ,ss,R,hf,fun vs H1 s1 h1=>?_⟩
     have hd:=ZfL h1 hv
     simp only [DenL,Den] at hd
     obtain ⟨v,r,e1,e2,e3⟩:=hd
     subst e1 e2 e3
     exact ⟨j,rfl,by omega,by omega,q _ H1 s1 Zox⟩
    ·cases e⟩
end
end L2
namespace L2
open PySem PySem.Spec PyProof.Rows
def tGs (K:PySem.W.Frag) (M:Fb) (H0:Hp) (ws:List Nat) (b:List D→VE→Option VE):TGs:=fun vs σ H Q=>∃ ρ ds ρ',Rel K M H0 ρ σ H∧DenL K (Nf M ρ σ) H ds vs∧b ds ρ=some ρ'∧∀ σ' ,Rel K M H0 ρ' σ' H→Step M (Nf M ρ σ) (Nf M ρ' σ') H H→(∀ j,j∉ws→σ'[j]?=σ[j]?)→Q σ' H
@[simp] def Zkp:List D→VE→Option VE
  | [],ρ=>some ρ
  | _,_=>none
@[simp] def ZeJ (b:D→VE→Option VE) (c:List D→VE→Option VE):List D→VE→Option VE
  | d::r,ρ=>(b d ρ).bind (c r)
  | _,_=>none
@[simp] def ZiX (n:Nat) (b:List D→VE→Option VE):D→VE→Option VE
  | .tup ds,ρ=>if ds.length=n then b ds ρ else none
  | _,_=>none
section
variable {X:Cx} {K:PySem.W.Frag} {M:Fb} {H0:Hp} {pos:Pos} {e tg iter:Expr} {es:List Expr} {ws ws':List Nat} {b:D→VE→Option VE} {c:List D→VE→Option VE}
theorem Zld :JK X [] (tGs K M H0 [] Zkp):=⟨by
 intro pins s σ H vs us Q I r ⟨ρ,ds,ρ',R,hd,e,q⟩
 cases ds with
 | nil =>
  cases e
  simp only [DenL] at hd
  exact Zny pins s σ H vs us Q I r ⟨hd,q σ R Step.refl fun _ _=>rfl⟩
 | cons=>cases e⟩
theorem Zhu (h1:JG X e (tG K M H0 ws b)) (h2:JK X es (tGs K M H0 ws' c)) (hs:(assignEach (e::es) X.env).map (·.2)=assign e X.env::(assignEach es X.env).map (·.2):=by rfl):JK X (e::es) (tGs K M H0 (ws++ws') (ZeJ b c)):=⟨have h1:=h1.h;have h2:=h2.h;by
 intro pins s σ H vs us Q I r ⟨ρ,ds,ρ',R,hd,e,q⟩
 cases ds with
 | nil=>cases e
 | cons d ds =>
  simp only [DenL] at hd
  obtain ⟨v,vr,e1,hv,hr⟩:=hd
  subst e1
  simp only [ZeJ] at e
  cases hb:b d ρ with
  | none=>rw [hb] at e;cases e
  | some ρ1 =>
   rw [hb] at e
   refine Zmh h1 h2 hs pins s σ H _ us Q I r ⟨v,vr,rfl,ρ,d,ρ1,R,hv,hb,fun σ1 R1 S1 w1=>⟨ρ1,ds,ρ',R1,DenL.step S1 _ _ hr,e,fun σ2 R2 S2 w2=>q σ2 R2 (S1.trans S2) fun j hj=>?_⟩⟩
   rw [List.mem_append,not_or] at hj
   rw [w2 j hj.2,w1 j hj.1]⟩
theorem Zmm {k n:Nat} (hc:X.calm=true) (h:JK X es (tGs X.K M H0 ws c)) (hn:(assignEach es X.env).length=n:=by rfl) (hst:(assignEach es X.env).findIdx? (·.1)=none:=by rfl):JG X (.Tuple es k pos) (tG X.K M H0 ws (ZiX n c)):=⟨have h:=h.h;by
 intro pins s σ H v u Q I r ⟨ρ,d,ρ',R,hd,e,q⟩
 cases d with
 | tup ds =>
  simp only [ZiX] at e
  split at e
  ·next hl =>
   simp only [Den] at hd
   obtain ⟨a,vs,e1,hq,hd⟩:=hd
   exact ZoH hc h hn hst pins s σ H v u Q I r ⟨a,vs,e1,hq,by rw [← hd.length];exact hl,ρ,ds,ρ',R,hd,e,q⟩
  ·cases e
 | _=>cases e⟩
end
@[simp] def Zme:Option Sl→Sl
  | some (.val d)=>.val d
  | some (.own xs b)=>.lent xs b
  | some (.lent xs b)=>.lent xs b
  | _=>.no
@[simp] def ZS (k:Nat) (oix:List Nat) (ρ:VE):VE:=List.replicate k .no++oix.map fun j=>Zme ρ[j]?
def Za7 (b:D→VE→Option VE) (t:VE→Option Bool) (e:VE→Option D) (ρ:VE):List D→Option (List D)
 | []=>some []
 | d::ds=>match b d ρ with
  | none=>none
  | some ρ1=>match t ρ1 with
   | some true=>Zb (e ρ1) (Za7 b t e ρ ds)
   | some false=>Za7 b t e ρ ds
   | none=>none
@[simp] def ZZ (k:Nat) (oix:List Nat) (f:VE→Option (List D)) (b:D→VE→Option VE) (t:VE→Option Bool) (e:VE→Option D):VE→Option (List D):=fun ρ=>(Zy (f ρ)).bind (Za7 b t e (ZS k oix ρ))
section
variable {X:Cx} {K:PySem.W.Frag} {M:Fb} {H0:Hp} {pos:Pos} {tg elt iter:Expr} {ifs:List Expr} {scope:Scope} {ws:List Nat} {f:VE→Option (List D)} {b:D→VE→Option VE} {t:VE→Option Bool} {e:VE→Option D} {k:Nat} {oix:List Nat}
theorem Rel.comp {ρ:VE} {σ:St} {H:Hp} (R:Rel K M H0 ρ σ H) (k:Nat) (oix:List Nat):Rel K (Nf M ρ σ) H (ZS k oix ρ) (Z5 k oix σ) H∧∀ a,Nf (Nf M ρ σ) (ZS k oix ρ) (Z5 k oix σ) a→Nf M ρ σ a:=by
 have noown:∀ (j:Nat) (xs:List D) (fl:Bool),(ZS k oix ρ)[j]?≠some (Sl.own xs fl):=fun j xs fl h=>by
  unfold ZS at h
  rw [List.getElem?_append] at h
  split at h
  ·rw [List.getElem?_replicate] at h
   split at h<;>cases h
  ·rw [List.getElem?_map] at h
   cases ho:oix[j-(List.replicate k Sl.no).length]? with
   | none=>rw [ho] at h;cases h
   | some o =>
    rw [ho] at h
    simp only [Option.map_some,Option.some.injEq] at h
    unfold Zme at h
    split at h<;>cases h
 have nf:∀ a,Nf (Nf M ρ σ) (ZS k oix ρ) (Z5 k oix σ) a→Nf M ρ σ a:=fun a h=>by
  rcases h with h | ⟨j,xs,fl,h,_⟩
  ·exact h
  ·exact absurd h (noown j xs fl)
 refine ⟨⟨by simp [ZS,Z5],Same.refl H,R.nh,fun j s h=>?_,fun i j xs ys fl fl' a h=>absurd h (noown i xs fl)⟩,nf⟩
 unfold ZS at h
 rw [List.getElem?_append] at h
 split at h
 ·rw [List.getElem?_replicate] at h
  split at h
  ·cases h;trivial
  ·cases h
 ·next hge =>
  rw [List.getElem?_map] at h
  have hσ:(Z5 k oix σ)[j]?=(oix[j-k]?).map fun i=>(σ[i]?).join:=by
   unfold Z5
   rw [List.getElem?_append_right (by simpa using hge),List.getElem?_map]
   simp
  rw [hσ]
  simp only [List.length_replicate] at h
  cases ho:oix[j-k]? with
  | none=>rw [ho] at h;cases h
  | some o =>
   rw [ho] at h
   simp only [Option.map_some,Option.some.injEq] at h
   simp only [Option.map_some,Option.join_some]
   unfold Zme at h
   split at h
   ·next d hd=>subst h;obtain ⟨v,e1,q⟩:=R.slot o _ hd;exact ⟨v,e1,q.nw fun a ha=>.inl (nf a ha)⟩
   ·next xs fl hd =>
    subst h
    obtain ⟨a,vs,e1,z1,z2,z3,z4⟩:=R.slot o _ hd
    exact ⟨a,vs,e1,.inr ⟨o,xs,fl,hd,join_some e1⟩,.inl z3,z4.nw fun a ha=>.inl (nf a ha)⟩
   ·next xs hd =>
    subst h
    obtain ⟨a,vs,e1,z1,z2,z3⟩:=R.slot o _ hd
    exact ⟨a,vs,e1,.inl z1,z2,z3.nw fun a ha=>.inl (nf a ha)⟩
   ·subst h;trivial
def ZjP (K:PySem.W.Frag) (ws:List Nat) (b:D→VE→Option VE):TG:=fun v σ H Q=>∃ M H0,tG K M H0 ws b v σ H Q
def Zou (K:PySem.W.Frag) (t:VE→Option Bool):TT:=fun σ H Q=>∃ M H0,tB' K M H0 t σ H Q
def Zjv (K:PySem.W.Frag) (e:VE→Option D):TE:=fun σ H Q=>∃ M H0,tD K M H0 e σ H Q
theorem Zka (hw:∀ j∈ws,j<k) {wi:TI} (hi:∀ σ H R,tI K M H0 f σ H R→wi σ H R) {σ:St} {H:Hp} {Q:VK} (h:tF K M H0 (ZZ k oix f b t e) σ H Q):ZkH k oix wi (ZjP K ws b) (Zou K t) (Zjv K e) σ H Q:=by
 obtain ⟨ρ,xs,R,ex,q⟩:=h
 try dsimp only at ex q
 unfold ZZ at ex
 cases hf:Zy (f ρ) with
 | none=>rw [hf] at ex;cases ex
 | some ds =>
  rw [hf] at ex
  obtain ⟨hf,hz⟩:=Zds hf
  have ex:Za7 b t e (ZS k oix ρ) ds=some xs:=ex
  refine hi _ _ _ ⟨ρ,ds,R,hf,fun J H1 s1 ok=>?_⟩
  refine ⟨ds.length,fun i ys H2=>i≤ds.length∧ys.length≤i∧Same H1 H2∧∃ acc ZV,DenL K (Nf M ρ σ) H2 acc ys∧Za7 b t e (ZS k oix ρ) (ds.drop i)=some ZV∧acc++ZV=xs,⟨Nat.zero_le _,Nat.le_refl _,Same.refl _,[],xs,DenL.nil,ex,rfl⟩,?_⟩
  rintro i ys H2 ⟨hle,hy,s2,acc,ZV,hacc,hc,hx⟩
  obtain ⟨ok1,ok2⟩:=ok _ H2 (Step.of_same s2) i
  by_cases hlt:i<ds.length
  ·obtain ⟨go,y⟩:=ok1 ds[i] (List.getElem?_eq_getElem hlt)
   rw [List.drop_eq_getElem_cons hlt] at hc
   simp only [Za7] at hc
   refine .inr ⟨go,hlt,by omega,fun ys' H'=>ys'.length≤i+1∧Same H1 H'∧∃ acc ZV,DenL K (Nf M ρ σ) H' acc ys'∧Za7 b t e (ZS k oix ρ) (ds.drop (i+1))=some ZV∧acc++ZV=xs,fun ys' H' z=>⟨hlt,z⟩,fun x H3 yl=>?_⟩
   obtain ⟨s3,hd⟩:=y x H3 yl
   have R3:=((R.st s1).st s2).st s3
   obtain ⟨Rc,nf⟩:=R3.comp k oix
   cases hb:b ds[i] (ZS k oix ρ) with
   | none=>rw [hb] at hc;cases hc
   | some ρ1 =>
    rw [hb] at hc
    simp only at hc
    refine ⟨Nf M ρ σ,H3,ZS k oix ρ,ds[i],ρ1,Rc,hd.nw fun a ha=>.inl (nf a ha),hb,fun σ4 R4 S4 w4=>⟨?_,?_⟩⟩
    ·apply List.ext_getElem?
     intro j
     rw [List.getElem?_drop,List.getElem?_drop]
     exact w4 _ fun hj=>absurd (hw _ hj) (by omega)
    ·cases ht:t ρ1 with
     | none=>rw [ht] at hc;cases hc
     | some bb =>
      rw [ht] at hc
      refine ⟨Nf M ρ σ,H3,ρ1,bb,R4,ht,fun H5 s5=>?_⟩
      cases bb with
      | true =>
       simp only at hc
       obtain ⟨yd,rest',e1,e2,e3⟩:=ZeM hc
       refine ZeP ?_
       refine ⟨Nf M ρ σ,H3,ρ1,yd,R4.st s5,e1,fun v H6 s6 hv=>⟨?_,((s2.trans s3).trans s5).trans s6,acc++[yd],rest',(hacc.same ((s3.trans s5).trans s6)).append (DenL.cons (hv.nw fun a ha=>.inl (.inl ha)) DenL.nil),e2,?_⟩⟩
       ·simp only [List.length_append,List.length_singleton];omega
       ·subst e3;rw [← hx];simp
      | false =>
       refine ZeV ?_
       exact ⟨by omega,(s2.trans s3).trans s5,acc,ZV,hacc.same (s3.trans s5),hc,hx⟩
  ·have ei:i=ds.length:=by omega
   rw [List.drop_eq_nil_of_le (by omega)] at hc
   cases hc
   rw [List.append_nil] at hx
   subst hx
   exact .inl ⟨ok2 ei,by omega,fun p hp=>Zlp (s1.trans s2) hp hacc q⟩
theorem PG.all {Y:Cx} (h:∀ M H0,PG Y tg (tG K M H0 ws b)):PG Y tg (ZjP K ws b):=fun pins s σ H v u Q I r ⟨M,H0,z⟩=>h M H0 pins s σ H v u Q I r z
theorem PFs.all {Y:Cx} (h:∀ M H0,PFs Y ifs (tB' K M H0 t)):PFs Y ifs (Zou K t):=fun pins s σ H Q I ⟨M,H0,z⟩=>h M H0 pins s σ H Q I z
theorem PE.all {Y:Cx} (h:∀ M H0,PE Y elt (tD K M H0 e)):PE Y elt (Zjv K e):=fun pins s σ H Q I ⟨M,H0,z⟩=>h M H0 pins s σ H Q I z
theorem Za0 {Y:Cx}:JF Y [] (tB' K M H0 fun _=>some true):=⟨fun pins s σ H Q I ⟨ρ,b,R,e,q⟩=>Zpa pins s σ H Q I (by cases e;exact q H (Same.refl H))⟩
theorem ZnC (own outs:List Str) (oix:List Nat) (S:ZR own outs scope X.env.scope) (hox:oix.map (fun j=>X.N[j]?)=outs.map some) (hc:X.calm=true) (hi:PI X tg iter (tI K M H0 f))
  (hg:∀ C s2 H2 fp pins M' H',PG (cxC X own outs scope C s2 H2 fp pins) tg (tG K M' H' ws b))
  (ht:∀ C s2 H2 fp pins M' H',PFs (cxC X own outs scope C s2 H2 fp pins) ifs (tB' K M' H' t))
  (he:∀ C s2 H2 fp pins M' H',PE (cxC X own outs scope C s2 H2 fp pins) elt (tD K M' H' e)) (hw:∀ j∈ws,j<own.length)
  (hs:∀ x,foldedSetIterable iter X.env x=pure x:=by intro _;rfl) :
  PE X (.ListComp elt [⟨tg,iter,ifs,0⟩] scope pos) (tF K M H0 (ZZ own.length oix f b t e)) :=
 (ZnD own outs oix S hox hc hi (fun C s2 H2 fp pins=>PG.all (hg C s2 H2 fp pins)) (fun C s2 H2 fp pins=>PFs.all (ht C s2 H2 fp pins)) (fun C s2 H2 fp pins=>PE.all (he C s2 H2 fp pins)) hs).mono
  fun _ _ _ z=>Zka hw (fun _ _ _ z=>z) z
theorem Za9 (own outs:List Str) (oix:List Nat) (S:ZR own outs scope X.env.scope) (hox:oix.map (fun j=>X.N[j]?)=outs.map some) (hc:X.calm=true) (hi:JI X tg iter (tI K M H0 f)) (hg:∀ C s2 H2 fp pins M' H',JG (cxC X own outs scope C s2 H2 fp pins) tg (tG K M' H' ws b)) (ht:∀ C s2 H2 fp pins M' H',JF (cxC X own outs scope C s2 H2 fp pins) ifs (tB' K M' H' t)) (he:∀ C s2 H2 fp pins M' H',JE (cxC X own outs scope C s2 H2 fp pins) elt (tD K M' H' e)) (hw:∀ j∈ws,j<own.length) (hs:∀ x,foldedSetIterable iter X.env x=pure x:=by intro _;rfl):JE X (.ListComp elt [⟨tg,iter,ifs,0⟩] scope pos) (tF K M H0 (ZZ own.length oix f b t e)):=⟨ZnC own outs oix S hox hc hi.h (fun C s2 H2 fp pins M' H'=>(hg C s2 H2 fp pins M' H').h) (fun C s2 H2 fp pins M' H'=>(ht C s2 H2 fp pins M' H').h) (fun C s2 H2 fp pins M' H'=>(he C s2 H2 fp pins M' H').h) hw hs⟩
theorem Zj5 (own outs:List Str) (oix:List Nat) {i:Nat} {x:Str} {pos' spos:Pos} (S:ZR own outs scope X.env.scope) (hox:oix.map (fun j=>X.N[j]?)=outs.map some) (hc:X.calm=true)
  (hN:X.N.Nodup) (hix:X.N[i]?=some x) (hx:X.env.scope.names.lookup x=some .local) (hi:PI X tg iter (tI K M H0 f))
  (hg:∀ C s2 H2 fp pins M' H',PG (cxC X own outs scope C s2 H2 fp pins) tg (tG K M' H' ws b))
  (ht:∀ C s2 H2 fp pins M' H',PFs (cxC X own outs scope C s2 H2 fp pins) ifs (tB' K M' H' t))
  (he:∀ C s2 H2 fp pins M' H',PE (cxC X own outs scope C s2 H2 fp pins) elt (tD K M' H' e)) (hw:∀ j∈ws,j<own.length)
  (hsw:swapsWith (.ListComp elt [⟨tg,iter,ifs,0⟩] scope pos) (some (.Name x pos')) spos.line X.env=pure true:=by rfl)
  (hs:∀ x,foldedSetIterable iter X.env x=pure x:=by intro _;rfl) :
  PS X (.Assign [.Name x pos'] (.ListComp elt [⟨tg,iter,ifs,0⟩] scope pos) spos) (tS K M H0 fun ρ=>Zu i (ZC (ZZ own.length oix f b t e ρ)) ρ) :=
 (ZkT own outs oix S hox hc hN hix hx hi (fun C s2 H2 fp pins=>PG.all (hg C s2 H2 fp pins)) (fun C s2 H2 fp pins=>PFs.all (ht C s2 H2 fp pins)) (fun C s2 H2 fp pins=>PE.all (he C s2 H2 fp pins)) hsw hs).mono
  fun D' σ H z=>by
   have z':tD K M H0 (fun ρ=>ZC (ZZ own.length oix f b t e ρ)) σ H (fun x H1=>Zgy i x σ H1 D'.nx):=ZlA z
   obtain ⟨ρ,d,R,ed,q⟩:=z'
   try dsimp only at ed q
   cases hf:ZZ own.length oix f b t e ρ with
   | none=>rw [hf] at ed;cases ed
   | some xs =>
    rw [hf] at ed;cases ed
    refine Zka hw (fun _ _ _ z=>z) ⟨ρ,xs,R,hf,fun a vs H' s z1 z2 z3=>q _ _ s ?_⟩
    simp only [Den]
    exact ⟨a,vs,rfl,.of (R.fresh z1) z2,z3.nw fun b hb=>.inl (.inl hb)⟩
theorem ZfV (own outs:List Str) (oix:List Nat) {i:Nat} {x:Str} {pos' spos:Pos} (S:ZR own outs scope X.env.scope) (hox:oix.map (fun j=>X.N[j]?)=outs.map some) (hc:X.calm=true) (hN:X.N.Nodup) (hix:X.N[i]?=some x) (hx:X.env.scope.names.lookup x=some .local) (hi:JI X tg iter (tI K M H0 f)) (hg:∀ C s2 H2 fp pins M' H',JG (cxC X own outs scope C s2 H2 fp pins) tg (tG K M' H' ws b)) (ht:∀ C s2 H2 fp pins M' H',JF (cxC X own outs scope C s2 H2 fp pins) ifs (tB' K M' H' t)) (he:∀ C s2 H2 fp pins M' H',JE (cxC X own outs scope C s2 H2 fp pins) elt (tD K M' H' e)) (hw:∀ j∈ws,j<own.length) (hsw:swapsWith (.ListComp elt [⟨tg,iter,ifs,0⟩] scope pos) (some (.Name x pos')) spos.line X.env=pure true:=by rfl) (hs:∀ x,foldedSetIterable iter X.env x=pure x:=by intro _;rfl):JS X (.Assign [.Name x pos'] (.ListComp elt [⟨tg,iter,ifs,0⟩] scope pos) spos) (tS K M H0 fun ρ=>Zu i (ZC (ZZ own.length oix f b t e ρ)) ρ):=⟨Zj5 own outs oix S hox hc hN hix hx hi.h (fun C s2 H2 fp pins M' H'=>(hg C s2 H2 fp pins M' H').h) (fun C s2 H2 fp pins M' H'=>(ht C s2 H2 fp pins M' H').h) (fun C s2 H2 fp pins M' H'=>(he C s2 H2 fp pins M' H').h) hw hsw hs⟩
end
def whR (t:VE→Option Bool) (g:VE→Res):Nat→VE→Res
 | 0,_=>.fail
 | n+1,ρ=>match t ρ with
  | none=>.fail
  | some false=>.next ρ
  | some true=>match g ρ with
   | .next ρ'=>whR t g n ρ'
   | .cont ρ'=>whR t g n ρ'
   | .brk ρ'=>.next ρ'
   | r=>r
theorem ZkL {X:Cx} {K:PySem.W.Frag} {M:Fb} {H0:Hp} {pos:Pos} {c:Expr} {body:List Stmt} {t:VE→Option Bool} {g:VE→Res} (n:VE→Nat) (hp:PassesOwn (model X.prog X.w) X.A X.env X.xe) (hc:JT X c (tB' K M H0 t)) (hb:JB X body (tS K M H0 g)):JS X (.While c body [] pos) (tS K M H0 fun ρ=>whR t g (n ρ) ρ):=⟨have hc:=hc.h;have hb:=hb.h;(ZmX hp hc hb).mono fun D' σ H ⟨ρ,R,q⟩=>by
 try dsimp only at q
 refine ⟨fun m σi Hi=>∃ ρi,Rel K M H0 ρi σi Hi∧resOk K M H0 ρi σi Hi D' (whR t g m ρi),⟨n ρ,ρ,R,q⟩,?_⟩
 rintro m σi Hi ⟨ρi,Ri,qi⟩
 cases m with
 | zero=>exact False.elim qi
 | succ m =>
  simp only [whR] at qi
  cases ht:t ρi with
  | none=>rw [ht] at qi;exact False.elim qi
  | some bb =>
   rw [ht] at qi
   refine ⟨ρi,bb,Ri,ht,fun H1 s1=>?_⟩
   cases bb with
   | false=>refine ZeV ?_;exact qi σi H1 (Ri.st s1) (Step.of_same s1)
   | true =>
    simp only at qi
    refine ZeP ?_
    refine ⟨fun σ' H'=>∃ ρi,Rel K M H0 ρi σ' H'∧resOk K M H0 ρi σ' H' D' (whR t g m ρi),fun σ' H' z=>⟨m,Nat.lt_succ_self m,z⟩,ρi,Ri.st s1,?_⟩
    cases hg:g ρi with
    | fail=>rw [hg] at qi;exact qi
    | next ρ2=>rw [hg] at qi;exact fun σ2 H2 R2 S2=>⟨ρ2,R2,resOk.from ((Step.of_same s1).trans S2) qi⟩
    | cont ρ2=>rw [hg] at qi;exact fun σ2 H2 R2 S2=>⟨ρ2,R2,resOk.from ((Step.of_same s1).trans S2) qi⟩
    | brk ρ2=>rw [hg] at qi;exact fun σ2 H2 R2 S2=>qi σ2 H2 R2 ((Step.of_same s1).trans S2)
    | ret r=>rw [hg] at qi;exact qi⟩
def fnP (np n:Nat) (g:VE→Res):List Sl→Option Rv:=fun ss=>if ss.length=np then
  match g (ss++List.replicate (n-np) .no) with
  | .ret r=>some r
  | .next _=>some (.val .non)
  | _=>none
 else none
theorem Zin {K:PySem.W.Frag} {N:Fb} {H:Hp} {ss:List Sl} {vs:List V} (nh:∀ a,N a→H a≠none) (h:ArgsOk K N H ss vs) (n:Nat):Rel K N H (ss++List.replicate n .no) (vs.map some++List.replicate n none) H:=by
 have hl:=h.length
 have noown:∀ (j:Nat) (xs:List D) (fl:Bool),(ss++List.replicate n Sl.no)[j]?≠some (Sl.own xs fl):=fun j xs fl e=>by
  rw [List.getElem?_append] at e
  split at e
  ·obtain ⟨v,_,q⟩:=h.get e;exact q
  ·rw [List.getElem?_replicate] at e
   split at e<;>cases e
 have nf:∀ a,Nf N (ss++List.replicate n Sl.no) (vs.map some++List.replicate n none) a→N a:=fun a z=>by
  rcases z with z | ⟨j,xs,fl,z,_⟩
  ·exact z
  ·exact absurd z (noown j xs fl)
 refine ⟨by simp [hl],Same.refl H,nh,fun j s e=>?_,fun i j xs ys fl fl' a z=>absurd z (noown i xs fl)⟩
 rw [List.getElem?_append] at e
 split at e
 ·next hj =>
  obtain ⟨v,ev,q⟩:=h.get e
  rw [List.getElem?_append_left (by simpa [← hl] using hj),List.getElem?_map,ev]
  cases s with
  | val d=>exact ⟨v,rfl,Den.nw q fun a ha=>.inl (nf a ha)⟩
  | lent xs fl=>obtain ⟨a,us,e1,z1,z2,z3⟩:=q;exact ⟨a,us,by rw [e1];rfl,z1,z2,z3.nw fun a ha=>.inl (nf a ha)⟩
  | no=>trivial
  | own xs fl=>exact False.elim q
  | exc c=>exact False.elim q
 ·rw [List.getElem?_replicate] at e
  split at e
  ·cases e;trivial
  ·cases e
theorem Zp9 {P:Program} {w:World} {K:PySem.W.Frag} {mg:Str→Option Value} {base:Heap} {x qual:Str} {st:Stmt} {f:Addr} {fd:FuncData} {N ps:List Str} {k:Nat} {g:VE→Res} (F:Fun K x qual st f fd) (S:ZI N ps (Zn st)) (hnp:ps.length≤N.length)
  (hb:∀ (cdv:Value) (A:Around) (outer:List Env) (s:Shared) (H:Hp) (E:XK) (M:Fb) (H0:Hp),Room k (A.deeper (envOfC qual (Zn st) s.heap.objs.size f cdv)) →
   PSs (ZeZ CX0 P w K mg base N qual (Zn st) f cdv A outer s H E).nox (ZG st) (tS K M H0 g)):FnOk P w K mg base CX0 (k+1) f fd ps (spD K (fnP ps.length N.length g)):=by
 refine F.ok S (fun vs H Q E h=>?_) (fun cdv A outer s H vs Q E hr h=>?_)
 ·obtain ⟨N',ss,r,nh,ha,hF,q⟩:=h
  unfold fnP at hF
  split at hF
  ·next hl=>rw [← ha.length];exact hl
  ·cases hF
 ·obtain ⟨N',ss,r,nh,ha,hF,q⟩:=h
  refine ⟨_,hb cdv A outer s H E N' H hr,?_⟩
  unfold fnP at hF
  split at hF
  ·next hl =>
   have hs:Zcf N vs=vs.map some++List.replicate (N.length-ps.length) none:=by unfold Zcf;rw [← ha.length,hl]
   rw [hs]
   refine ⟨_,Zin nh ha (N.length-ps.length),?_⟩
   cases hg:g (ss++List.replicate (N.length-ps.length) .no) with
   | fail=>rw [hg] at hF;cases hF
   | next ρ'=>rw [hg] at hF;cases hF;exact fun σ' H' R' S'=>q .non H' R'.same (by simp only [ZkU,Den])
   | brk ρ'=>rw [hg] at hF;cases hF
   | cont ρ'=>rw [hg] at hF;cases hF
   | ret r'=>rw [hg] at hF;cases hF;exact fun v H' s hv=>q v H' s hv
  ·cases hF
theorem Z2 {P:Program} {w:World} {K:PySem.W.Frag} {mg:Str→Option Value} {base:Heap} {x qual:Str} {st:Stmt} {f:Addr} {fd:FuncData} {N ps:List Str} {k:Nat} {g:VE→Res} (F:Fun K x qual st f fd) (S:ZI N ps (Zn st)) (hnp:ps.length≤N.length)
  (hb:∀ (cdv:Value) (A:Around) (outer:List Env) (s:Shared) (H:Hp) (E:XK) (M:Fb) (H0:Hp),Room k (A.deeper (envOfC qual (Zn st) s.heap.objs.size f cdv)) →
   JB (ZeZ CX0 P w K mg base N qual (Zn st) f cdv A outer s H E).nox (ZG st) (tS K M H0 g)):FnOk P w K mg base CX0 (k+1) f fd ps (spD K (fnP ps.length N.length g)) :=
 Zp9 F S hnp fun cdv A outer s H E M H0 hr=>(hb cdv A outer s H E M H0 hr).h
theorem Zow {P:Program} {w:World} {K:PySem.W.Frag} {mg:Str→Option Value} {base:Heap} {k:Nat} {f:Addr} {fd:FuncData} {F:List Sl→Option Rv} (G:FnOk P w K mg base CX0 k f fd ["_law_script"] (spD K F))
  (h:∀ ns:List Int,ns.length≤63→F [.val (.lst (ns.map D.int))]=some (.val (.bl true))):FnOk P w K mg base CX0 k f fd ["_law_script"] (ZiU K) :=
 G.imp fun vs H Q E ⟨a,ns,e,hs,hl,q⟩=>by
  refine ⟨fun _=>False,[.val (.lst (ns.map D.int))],.val (.bl true),fun _ z=>z.elim,⟨_,[],e,?_,rfl⟩,h ns hl,fun v H' s hv=>?_⟩
  ·simp only [ArgOk,Den]
   exact ⟨a,_,rfl,.of_sq hs,DenL.ints ns⟩
  ·simp only [ZkU,Den] at hv
   subst hv;exact q H'
end L2
namespace L2
open PySem PySem.Spec PyProof.Rows
section
variable {K:PySem.W.Frag}
@[simp] def i2 (g:Int→Int→Option D):D→D→Option D
  | .int i,.int j=>g i j
  | _,_=>none
theorem Zjm {g:Int→Int→Option D} {x y d:D} (h:i2 g x y=some d):∃ i j,x=.int i∧y=.int j∧g i j=some d:=by
 unfold i2 at h
 split at h
 ·exact ⟨_,_,rfl,rfl,h⟩
 ·cases h
theorem DenP.int {N:Fb} {H:Hp} {i:Int} {v:V} (h:DenP K N H (.int i) v):v=.int i:=by simpa only [DenP,Den] using h
theorem DenP.str {N:Fb} {H:Hp} {i:Str} {v:V} (h:DenP K N H (.str i) v):v=.str i:=by simpa only [DenP,Den] using h
theorem DenP.bl {N:Fb} {H:Hp} {i:Bool} {v:V} (h:DenP K N H (.bl i) v):v=.bl i:=by simpa only [DenP,Den] using h
theorem DenP.non {N:Fb} {H:Hp} {v:V} (h:DenP K N H .non v):v=.non:=by simpa only [DenP,Den] using h
theorem DenP.ty {N:Fb} {H:Hp} {i:String} {v:V} (h:DenP K N H (.ty i) v):v=.ty i:=by simpa only [DenP,Den] using h
theorem DenP.tup {N:Fb} {H:Hp} {xs:List D} {v:V} (h:DenP K N H (.tup xs) v):∃ a vs,v=.ref a∧SqT K H a vs∧DenL K N H xs vs:=by simpa only [DenP,Den] using h
theorem ZcW {N:Fb} {H:Hp} {i:Int}:Den K N H (.int i) (.int i):=by simp only [Den]
theorem Zch {N:Fb} {H:Hp} {i:Bool}:Den K N H (.bl i) (.bl i):=by simp only [Den]
theorem ZdF {N:Fb} {H:Hp} {i:Str}:Den K N H (.str i) (.str i):=by simp only [Den]
theorem Zqk (g:Int→Int→Int):R2D K (rI0 fun i j=>.int (g i j)) (i2 fun i j=>some (.int (g i j))):=by
 intro N H x y d1 d2 d Q nh h1 h2 e q
 obtain ⟨i,j,rfl,rfl,e⟩:=Zjm e
 cases e
 exact ⟨i,j,h1.int,h2.int,q _ H (Same.refl H) ZcW⟩
theorem Znn (g:Int→Int→Bool):R2D K (rI0 fun i j=>.bl (g i j)) (i2 fun i j=>some (.bl (g i j))):=by
 intro N H x y d1 d2 d Q nh h1 h2 e q
 obtain ⟨i,j,rfl,rfl,e⟩:=Zjm e
 cases e
 exact ⟨i,j,h1.int,h2.int,q _ H (Same.refl H) Zch⟩
theorem ZkY {C:Int→Int→Prop} [∀ i j,Decidable (C i j)] (g:Int→Int→Int):R2D K (rI C fun i j=>.int (g i j)) (i2 fun i j=>if C i j then some (.int (g i j)) else none):=by
 intro N H x y d1 d2 d Q nh h1 h2 e q
 obtain ⟨i,j,rfl,rfl,e'⟩:=Zjm e
 split at e'
 ·next hc=>cases e';exact ⟨i,j,h1.int,h2.int,hc,q _ H (Same.refl H) ZcW⟩
 ·cases e'
instance (i j:Int):Decidable (Zgm i j):=by unfold Zgm;exact inferInstance
instance (i j:Int):Decidable (CMul i j):=by unfold CMul;exact inferInstance
instance (i j:Int):Decidable (Zjf i j):=by unfold Zjf;exact inferInstance
@[simp] def ZkN:D→D→Option D:=i2 fun i j=>some (.int (i-j))
@[simp] def ZeX:D→D→Option D:=i2 fun i j=>if CMul i j then some (.int (i * j)) else none
@[simp] def ZeS:D→D→Option D:=i2 fun i j=>if Zgm i j then some (.int (i / j)) else none
@[simp] def ZbJ:D→D→Option D:=i2 fun i j=>if 0<j then some (.int (i%j)) else none
@[simp] def ZkQ:D→D→Option D:=i2 fun i j=>if Zjf i j then some (.int (i^j.toNat)) else none
@[simp] def leD:D→D→Option D:=i2 fun i j=>some (.bl (decide (i≤j)))
@[simp] def gtD:D→D→Option D:=i2 fun i j=>some (.bl (decide (j<i)))
@[simp] def geD:D→D→Option D:=i2 fun i j=>some (.bl (decide (j≤i)))
section
variable {X:Cx} {M:Fb} {H0:Hp} {a b:Expr} {f g:VE→Option D} {pos:Pos}
theorem Zm2 (ha:JE X a (tP K M H0 f)) (hb:JE X b (tP K M H0 g)):JE X (.BinOp a .Sub b pos) (tD K M H0 (Zd ZkN f g)):=⟨have ha:=ha.h;have hb:=hb.h;ZfM ZpK (Zqk _) ha hb⟩
theorem Zez (ha:JE X a (tP K M H0 f)) (hb:JE X b (tP K M H0 g)):JE X (.BinOp a .Mult b pos) (tD K M H0 (Zd ZeX f g)):=⟨have ha:=ha.h;have hb:=hb.h;ZfM ZoR (ZkY _) ha hb⟩
theorem ZeN (ha:JE X a (tP K M H0 f)) (hb:JE X b (tP K M H0 g)):JE X (.BinOp a .FloorDiv b pos) (tD K M H0 (Zd ZeS f g)):=⟨have ha:=ha.h;have hb:=hb.h;ZfM ZnJ (ZkY _) ha hb⟩
theorem Zao (ha:JE X a (tP K M H0 f)) (hb:JE X b (tP K M H0 g)):JE X (.BinOp a .Mod b pos) (tD K M H0 (Zd ZbJ f g)):=⟨have ha:=ha.h;have hb:=hb.h;ZfM ZpL (ZkY _) ha hb⟩
theorem Zm6 (ha:JE X a (tP K M H0 f)) (hb:JE X b (tP K M H0 g)):JE X (.BinOp a .Pow b pos) (tD K M H0 (Zd ZkQ f g)):=⟨have ha:=ha.h;have hb:=hb.h;ZfM ZoB (ZkY _) ha hb⟩
@[simp] def Zsu:Option D→Option D
  | some (.int i)=>some (.int (-i))
  | _=>none
end
end
section
variable {X:Cx}
def Zne (K:PySem.W.Frag):R2:=fun x y H Q=>∃ l b xs zs,x=.ref l∧y=.ref b∧SqL K H l xs∧SqL K H b zs∧xs.length+zs.length≤sizeLine∧∀ p,H p=none→Q (.ref p) (upd H p (.lst (xs++zs)))
theorem op_catG:OpR X (binaryOp .Add) (Zne X.K):=by
 intro pins s σ H x y v u Q I rx ry h
 obtain ⟨l,b,xs,zs,rfl,rfl,hH,hB,hz,q⟩:=h
 cases rx
 cases ry
 obtain ⟨its,r,p1,z1⟩:=I.list hH
 obtain ⟨its2,r2,p2,z2⟩:=I.list hB
 have hl:=r.length
 have hl2:=r2.length
 obtain ⟨⟨cls,dd,data,sl⟩,ho,hc,n,hd⟩:=p1.isList
 obtain ⟨⟨cls2,dd2,data2,sl2⟩,ho2,hc2,n2,hd2⟩:=p2.isList
 simp only at hc hd hc2 hd2
 subst hc hd hc2 hd2
 have e:its.toArray++its2.toArray=(its++its2).toArray:=by simp
 refine concat_meets ⟨_,ho,rfl⟩ ⟨_,ho2,rfl⟩ noFill_list_add seq_list_add PySem.F.slot_list_add PySem.F.entry_list_add (PySem.F.args_list_add_2 _ _) (list_addW l b its.toArray its2.toArray n n2 dd dd2 sl sl2 (by rw [List.size_toArray,List.size_toArray];omega)) ⟨ho,ho2,?_⟩
 rw [e]
 exact ⟨.ref _,_,I.lnew (t':=s.toks) (r.append r2) (by rw [List.length_append];omega),rfl,q _ I.fresh⟩
def ZlP (K:PySem.W.Frag):R2:=fun x y H Q=>∃ l b xs zs,x=.ref l∧y=.ref b∧SqT K H l xs∧SqT K H b zs∧xs.length+zs.length≤sizeLine ∧
 (xs=[]→Q (.ref b) H)∧(zs=[]→Q (.ref l) H)∧∀ p,H p=none→Q (.ref p) (upd H p (.tup (xs++zs)))
theorem ZmF:OpR X (binaryOp .Add) (ZlP X.K):=by
 intro pins s σ H x y v u Q I rx ry h
 obtain ⟨l,b,xs,zs,rfl,rfl,hH,hB,hz,qx,qz,q⟩:=h
 cases rx
 cases ry
 obtain ⟨its,r,p1,z1⟩:=I.tuple hH
 obtain ⟨its2,r2,p2,z2⟩:=I.tuple hB
 have hl:=r.length
 have hl2:=r2.length
 obtain ⟨⟨cls,dd,data,sl⟩,ho,hc,n,hd⟩:=id p1
 obtain ⟨⟨cls2,dd2,data2,sl2⟩,ho2,hc2,n2,hd2⟩:=id p2
 simp only at hc hd hc2 hd2
 subst hc hd hc2 hd2
 by_cases h1:xs=[]
 ·have hi:its.toArray.isEmpty=true:=by
   subst h1
   have:its=[]:=List.length_eq_zero_iff.mp hl.symm
   subst this;rfl
  exact concat_meets ⟨_,ho,rfl⟩ ⟨_,ho2,rfl⟩ noFill_tuple_add seq_tuple_add PySem.F.slot_tuple_add PySem.F.entry_tuple_add (PySem.F.args_tuple_add_2 _ _) (tuple_addW0 l b its.toArray its2.toArray n n2 dd dd2 sl sl2 hi) ⟨ho,ho2,⟨.ref b,H,I,rfl,qx h1⟩⟩
 ·have hi:¬ its.toArray.isEmpty=true:=by
   intro z
   have:its=[]:=by simpa using z
   subst this
   exact h1 (List.length_eq_zero_iff.mp hl)
  by_cases h2:zs=[]
  ·have hi2:its2.toArray.isEmpty=true:=by
    subst h2
    have:its2=[]:=List.length_eq_zero_iff.mp hl2.symm
    subst this;rfl
   exact concat_meets ⟨_,ho,rfl⟩ ⟨_,ho2,rfl⟩ noFill_tuple_add seq_tuple_add PySem.F.slot_tuple_add PySem.F.entry_tuple_add (PySem.F.args_tuple_add_2 _ _) (tuple_addW1 l b its.toArray its2.toArray n n2 dd dd2 sl sl2 hi hi2) ⟨ho,ho2,⟨.ref l,H,I,rfl,qz h2⟩⟩
  ·have hi2:¬ its2.toArray.isEmpty=true:=by
    intro z
    have:its2=[]:=by simpa using z
    subst this
    exact h2 (List.length_eq_zero_iff.mp hl2)
   have e:its.toArray++its2.toArray=(its++its2).toArray:=by simp
   refine concat_meets ⟨_,ho,rfl⟩ ⟨_,ho2,rfl⟩ noFill_tuple_add seq_tuple_add PySem.F.slot_tuple_add PySem.F.entry_tuple_add (PySem.F.args_tuple_add_2 _ _) (tuple_addW2 l b its.toArray its2.toArray n n2 dd dd2 sl sl2 hi hi2 (by rw [List.size_toArray,List.size_toArray];omega)) ⟨ho,ho2,?_⟩
   rw [e]
   refine ⟨.ref s.heap.objs.size,upd H s.heap.objs.size (.tup (xs++zs)),I.laid (t':=s.toks) (fun b u e=>Heap.get?_push_of_some _ e) (Nat.le_refl _) ?_,rfl,q _ I.fresh⟩
   exact ⟨by rw [List.length_append];omega,its++its2,r.append r2,IsTup.new _ _⟩
end
@[simp] def Zq:D→D→Option D
  | .int i,.int j=>some (.int (i+j))
  | .str x,.str y=>if x.length+y.length≤sizeLine then some (.str (x++y)) else none
  | .lst xs,.lst ys=>if xs.length+ys.length≤sizeLine then some (.lst (xs++ys)) else none
  | .tup xs,.tup ys=>if xs.length+ys.length≤sizeLine then some (.tup (xs++ys)) else none
  | _,_=>none
def Znm (K:PySem.W.Frag):R2:=fun x y H Q=>rI0 (fun i j=>.int (i+j)) x y H Q∨(∃ i j,x=.str i∧y=.str j∧i.length+j.length≤sizeLine∧Q (.str (i++j)) H)∨Zne K x y H Q∨ZlP K x y H Q
theorem Znt {X:Cx}:OpR X (binaryOp .Add) (Znm X.K):=op_add.or (op_add_str.or (op_catG.or ZmF))
theorem Zi3 {K:PySem.W.Frag} {N:Fb} {H:Hp} {xs:List D} {vs:List V} {p:Addr} (nh:∀ a,N a→H a≠none) (hp:H p=none) (h:DenL K N H xs vs):Den K N (upd H p (.lst vs)) (.lst xs) (.ref p):=by
 simp only [Den]
 exact ⟨p,vs,rfl,.of (fun z=>nh p z hp) Zaw,h.same (ZaZ hp)⟩
theorem ZfD {K:PySem.W.Frag} {N:Fb} {H:Hp} {xs:List D} {vs:List V} {p:Addr} (hp:H p=none) (h:DenL K N H xs vs):Den K N (upd H p (.tup vs)) (.tup xs) (.ref p):=by
 simp only [Den]
 exact ⟨p,vs,rfl,SqT.of Zaw,h.same (ZaZ hp)⟩
theorem Zos {K:PySem.W.Frag}:R2D K (Znm K) Zq:=by
 intro N H x y d1 d2 d Q nh h1 h2 e q
 unfold Zq at e
 split at e
 ·cases e;exact .inl ⟨_,_,h1.int,h2.int,q _ H (Same.refl H) ZcW⟩
 ·split at e
  ·next hz=>cases e;exact .inr (.inl ⟨_,_,h1.str,h2.str,hz,q _ H (Same.refl H) ZdF⟩)
  ·cases e
 ·split at e
  ·next hz =>
   cases e
   obtain ⟨a,vs,e1,q1,r1⟩:=h1
   obtain ⟨b,ws,e2,q2,r2⟩:=h2
   exact .inr (.inr (.inl ⟨a,b,vs,ws,e1,e2,q1,q2,by rw [← r1.length,← r2.length];exact hz,fun p hp=>q _ _ (ZaZ hp) (Zi3 nh hp (r1.append r2))⟩))
  ·cases e
 ·split at e
  ·next hz =>
   cases e
   obtain ⟨a,vs,e1,q1,r1⟩:=h1.tup
   obtain ⟨b,ws,e2,q2,r2⟩:=h2.tup
   refine .inr (.inr (.inr ⟨a,b,vs,ws,e1,e2,q1,q2,by rw [← r1.length,← r2.length];exact hz,fun z=>?_,fun z=>?_,fun p hp=>q _ _ (ZaZ hp) (ZfD hp (r1.append r2))⟩))
   ·refine q _ H (Same.refl H) ?_
    simp only [Den]
    exact ⟨b,vs++ws,rfl,by rw [z];exact q2,r1.append r2⟩
   ·refine q _ H (Same.refl H) ?_
    simp only [Den]
    exact ⟨a,vs++ws,rfl,by rw [z,List.append_nil];exact q1,r1.append r2⟩
  ·cases e
 ·cases e
theorem Zh {X:Cx} {M:Fb} {H0:Hp} {a b:Expr} {f g:VE→Option D} {pos:Pos} (ha:JE X a (tP X.K M H0 f)) (hb:JE X b (tP X.K M H0 g)):JE X (.BinOp a .Add b pos) (tD X.K M H0 (Zd Zq f g)):=⟨have ha:=ha.h;have hb:=hb.h;ZfM Znt Zos ha hb⟩
section
variable {prog:Program} {w:World} {A:Around} {E:Value→Shared→Prop} {s:Shared}
theorem ZfX {t sl:Addr} {items:Array Value} {vl vu:Value} {lo hi:Option Int} {Q:Value→Shared→Prop} (ht:IsTup s.heap t items) (hs:s.heap.IsSliceOf sl vl vu .none) (pl:IsPart vl lo) (pu:IsPart vu hi)
  (hw:HT.sIx items.size 0 lo=0∧HT.sIx items.size items.size hi=items.size) (h:Q (.ref t) s):wpAny (model prog w) A (getItem (.ref t) (.ref sl)) Q E s:=by
 obtain ⟨os,hos,hcs,hds⟩:=id hs
 have hTs:s.TypeIs (.ref sl) "slice":=⟨os,hos,hcs⟩
 unfold getItem
 try with_reducible refine wpAny_holding ?_
 first | refine wpAny_bind (wpAny_pure ?_) | skip
 refine wpAny_bind (wpAny_sequenceKey ht.typeIs (by decide) ?_)
 refine wpAny_bind (wpAny_callSpecial?_slot (name:=Str.ofString "__getitem__") ht.typeIs PyProof.Rows.slot_tuple_getitem
  (wpAny_call_entry PyProof.Rows.slot_tuple_getitem ht.typeIs entry_tuple_getitem ?_ (args_tuple_getitem _ _)))
 show wpAny _ _ (Builtin.Tuple.tupleItemsOf (.ref t) >>= _) _ _ s
 refine wpAny_bind (PyProof.Rows.tupleItemsOf_ ht ?_)
 refine wpAny_bind (wpAny_typeOf hTs ?_)
 rw [if_pos (by decide)]
 refine wpAny_bind (HT.sliceApplied_gen hs pl pu ?_)
 have hyes:(((HT.sIx items.size 0 lo:Nat):Int)==0&&(1:Int)==1&&(HT.sIx items.size items.size hi-HT.sIx items.size 0 lo)==items.size)=true:=by
  rw [hw.1,hw.2];simp
 show wpAny _ _ (if (((HT.sIx items.size 0 lo:Nat):Int)==0&&(1:Int)==1&&(HT.sIx items.size items.size hi-HT.sIx items.size 0 lo)==items.size)=true then _ else _) _ _ s
 rw [if_pos hyes]
 unfold Builtin.Tuple.tupleIsExact
 refine wpAny_bind (wpAny_bind (wpAny_typeOf ht.typeIs (wpAny_pure ?_)))
 rw [if_pos (by decide)]
 exact wpAny_bind (wpAny_rule (wpAny_pure ⟨_,rfl,wpAny_pure h⟩))
end
def ZqG (K:PySem.W.Frag):V→Option Int→Option Int→Hp→VK→Prop:=fun x lo hi H Q=>∃ a xs,x=.ref a∧SqT K H a xs∧(ZeA xs lo hi=xs→Q (.ref a) H)∧∀ p,H p=none→Q (.ref p) (upd H p (.tup (ZeA xs lo hi)))
theorem sl_tupG {X:Cx}:SlR X (ZqG X.K):=by
 intro pins s σ H x v vl vu lo hi sl Q I rx hs pl pu h
 obtain ⟨a,xs,rfl,hx,qw,q⟩:=h
 by_cases hw:HT.sIx xs.length 0 lo=0∧HT.sIx xs.length xs.length hi=xs.length
 ·cases rx
  obtain ⟨its,r,ht,hz⟩:=I.tuple hx
  have hlen:its.toArray.size=xs.length:=by rw [List.size_toArray];exact r.length.symm
  refine ⟨"tuple",_,PyProof.Rows.slot_tuple_getitem.lookup,ht.typeIs,ZfX ht hs pl pu (by rw [hlen];exact hw) ⟨.ref a,H,I,rfl,qw ?_⟩⟩
  unfold ZeA
  rw [hw.1,hw.2,List.drop_zero,Nat.sub_zero,List.take_length]
 ·exact Zoz pins s σ H _ v vl vu lo hi sl Q I rx hs pl pu ⟨a,xs,rfl,hx,hw,q⟩
@[simp] def ixD:D→D→Option D
  | .lst xs,.int i=>atI xs i
  | .tup xs,.int i=>atI xs i
  | .str x,.int i=>if x.length≤sizeLine then (atI x.cps.toList i).map fun c=>.str ⟨#[c]⟩ else none
  | _,_=>none
theorem DenL.atI {K:PySem.W.Frag} {N:Fb} {H:Hp} {xs:List D} {vs:List V} {i:Int} {d:D} (h:DenL K N H xs vs) (e:L2.atI xs i=some d):∃ v,L2.atI vs i=some v∧Den K N H d v:=by
 unfold L2.atI at e ⊢
 rw [← h.length]
 cases hj:ixN xs.length i with
 | none=>rw [hj] at e;cases e
 | some j=>rw [hj] at e;exact h.get e
theorem Zqn {K:PySem.W.Frag}:R2D K (rIx K) ixD:=by
 intro N H x y d1 d2 d Q nh h1 h2 e q
 unfold ixD at e
 split at e
 ·obtain ⟨a,vs,e1,q1,r1⟩:=h1
  obtain ⟨v,ev,hv⟩:=r1.atI e
  exact .inl ⟨a,vs,_,v,e1,h2.int,q1,ev,q v H (Same.refl H) hv⟩
 ·obtain ⟨a,vs,e1,q1,r1⟩:=h1.tup
  obtain ⟨v,ev,hv⟩:=r1.atI e
  exact .inr (.inl ⟨a,vs,_,v,e1,h2.int,q1,ev,q v H (Same.refl H) hv⟩)
 ·split at e
  ·next z i hz =>
   cases hc:atI z.cps.toList i with
   | none=>rw [hc] at e;cases e
   | some c=>rw [hc] at e;cases e;exact .inr (.inr ⟨z,i,c,h1.str,h2.int,hz,hc,q _ H (Same.refl H) ZdF⟩)
  ·cases e
 ·cases e
section
variable {X:Cx} {K:PySem.W.Frag} {M:Fb} {H0:Hp} {a b e:Expr} {f g:VE→Option D} {pos p2:Pos}
theorem Zx (ha:JE X a (tP X.K M H0 f)) (hb:JE X b (tP X.K M H0 g)) (hs:ZhU b):JE X (.Subscript a b pos) (tD X.K M H0 (Zd ixD f g)):=⟨have ha:=ha.h;have hb:=hb.h;ZqF ZoK Zqn ha hb hs⟩
def tO (K:PySem.W.Frag) (M:Fb) (H0:Hp) (o:VE→Option (Option Int)):TO:=fun σ H Q=>∃ ρ i,Rel K M H0 ρ σ H∧o ρ=some i∧∀ H',Same H H'→Q i H'
@[simp] def asI:Option D→Option (Option Int)
  | some (.int i)=>some (some i)
  | _=>none
theorem PO.mono {e:Option Expr} {t t':TO} (h:PO X e t) (m:∀ σ H Q,t' σ H Q→t σ H Q):PO X e t':=by
 intro pins s σ H Q I q
 exact h pins s σ H Q I (m σ H Q q)
theorem ZdV :JO X none (tO K M H0 fun _=>some none):=⟨PO.mono ZnA fun σ H Q ⟨ρ,i,R,e,q⟩=>by (try dsimp only at e q);cases e;exact q H (Same.refl H)⟩
theorem Zcl (h:JE X e (tP K M H0 f)):JO X (some e) (tO K M H0 fun ρ=>asI (f ρ)):=⟨have h:=h.h;PO.mono (Zoa h) fun σ H Q ⟨ρ,i,R,e,q⟩=>by
 try dsimp only at e q
 unfold asI at e
 split at e
 ·next j hf=>cases e;exact ⟨ρ,.int j,R,hf,fun v H' s hv=>⟨j,hv.int,q H' s⟩⟩
 ·cases e⟩
def ZcI {α:Type} (xs:List α) (lo hi:Option Int):List α:=(xs.drop (HT.sIx xs.length 0 lo)).take (HT.sIx xs.length xs.length hi-HT.sIx xs.length 0 lo)
@[simp] def slD (x:D) (lo hi:Option Int):Option D:=match x with
  | .lst xs=>some (.lst (ZcI xs lo hi))
  | .tup xs=>some (.tup (ZcI xs lo hi))
  | .str x=>if x.length≤sizeLine then some (.str (Txt.slice x lo hi)) else none
  | _=>none
@[simp] def slL (x:D) (lo hi:Option Int):Option (List D):=match x with
  | .lst xs=>some (ZcI xs lo hi)
  | _=>none
theorem DenL.cut {K:PySem.W.Frag} {N:Fb} {H:Hp} {xs:List D} {vs:List V} (h:DenL K N H xs vs) (lo hi:Option Int):DenL K N H (ZcI xs lo hi) (ZeA vs lo hi):=by
 unfold ZcI ZeA
 rw [h.length]
 exact (h.drop _).take _
@[simp] def sl3 {α:Type} (f:VE→Option D) (lo hi:VE→Option (Option Int)) (F:D→Option Int→Option Int→Option α):VE→Option α:=fun ρ=>(f ρ).bind fun x=>(lo ρ).bind fun l=>(hi ρ).bind fun h=>F x l h
theorem ZnS {α:Type} {f:VE→Option D} {lo hi:VE→Option (Option Int)} {F:D→Option Int→Option Int→Option α} {ρ:VE} {d:α} (h:sl3 f lo hi F ρ=some d):∃ x l u,f ρ=some x∧lo ρ=some l∧hi ρ=some u∧F x l u=some d:=by
 unfold sl3 at h
 cases hf:f ρ with
 | none=>rw [hf] at h;cases h
 | some x =>
  cases hl:lo ρ with
  | none=>rw [hf,hl] at h;cases h
  | some l =>
   cases hu:hi ρ with
   | none=>rw [hf,hl,hu] at h;cases h
   | some u=>rw [hf,hl,hu] at h;exact ⟨x,l,u,rfl,rfl,rfl,h⟩
theorem Zct {el eu:Option Expr} {lo hi:VE→Option (Option Int)} (he:JE X e (tP X.K M H0 f)) (hl:JO X el (tO X.K M H0 lo)) (hu:JO X eu (tO X.K M H0 hi)):JE X (.Subscript e (.Slice el eu none p2) pos) (tD X.K M H0 (sl3 f lo hi slD)):=⟨have he:=he.h;have hl:=hl.h;have hu:=hu.h;(Zm5 (sl_list.or (sl_tupG.or Zoy)) he hl hu).mono fun σ H Q ⟨ρ,d,R,ex,q⟩=>by
 try dsimp only at ex q
 obtain ⟨x,l,u,e1,e2,e3,e4⟩:=ZnS ex
 refine ⟨ρ,x,R,e1,fun v H1 s1 hv=>⟨ρ,l,R.st s1,e2,fun H2 s2=>⟨ρ,u,(R.st s1).st s2,e3,fun H3 s3=>?_⟩⟩⟩
 have hv:=(hv.same s2).same s3
 have s:=(s1.trans s2).trans s3
 have R3:=R.st s
 unfold slD at e4
 split at e4
 ·cases e4
  obtain ⟨a,vs,ea,qa,ra⟩:=hv
  exact .inl ⟨a,vs,ea,qa,fun p hp=>q _ _ (s.trans (ZaZ hp)) (Zi3 R3.nh hp (ra.cut l u))⟩
 ·cases e4
  obtain ⟨a,vs,ea,qa,ra⟩:=hv.tup
  refine .inr (.inl ⟨a,vs,ea,qa,fun z=>q _ _ s ?_,fun p hp=>q _ _ (s.trans (ZaZ hp)) (ZfD hp (ra.cut l u))⟩)
  simp only [Den]
  exact ⟨a,vs,rfl,qa,z ▸ ra.cut l u⟩
 ·split at e4
  ·next hz=>cases e4;exact .inr (.inr ⟨_,hv.str,hz,q _ _ s ZdF⟩)
  ·cases e4
 ·cases e4⟩
end
end L2
namespace L2
open PySem PySem.Spec PyProof.Rows
mutual
def eqD:D→D→Bool
 | .non,.non=>true
 | .bl a,.bl b=>a==b
 | .bl a,.int b=>(if a then 1 else 0)==b
 | .int a,.bl b=>a==(if b then 1 else 0)
 | .int a,.int b=>a==b
 | .str a,.str b=>a==b
 | .tup xs,.tup ys=>Zam xs ys
 | .lst xs,.lst ys=>Zam xs ys
 | _,_=>false
def Zam:List D→List D→Bool
 | [],[]=>true
 | x::xs,y::ys=>eqD x y&&Zam xs ys
 | _,_=>false
end
@[simp] def okD:Nat→D→Bool
  | _,.non=>true
  | _,.bl _=>true
  | _,.int _=>true
  | _,.str _=>true
  | n+1,.tup xs=>xs.all (okD n)
  | n+1,.lst xs=>xs.all (okD n)
  | _,_=>false
mutual
theorem Zmc:∀ (n:Nat) (d:D),okD n d=true→eqD d d=true
 | _,.non,_=>by simp only [eqD]
 | _,.bl _,_=>by simp only [eqD,beq_self_eq_true]
 | _,.int _,_=>by simp only [eqD,beq_self_eq_true]
 | _,.str _,_=>by simp only [eqD,beq_self_eq_true]
 | 0,.ty _,h=>by simp [okD] at h
 | _+1,.ty _,h=>by simp [okD] at h
 | 0,.tup xs,h=>by simp [okD] at h
 | 0,.lst xs _,h=>by simp [okD] at h
 | n+1,.tup xs,h=>by simp only [okD] at h;simp only [eqD];exact ZdW n xs h
 | n+1,.lst xs false,h=>by simp only [okD] at h;simp only [eqD];exact ZdW n xs h
 | n+1,.lst xs true,h=>by simp [okD] at h
theorem ZdW:∀ (n:Nat) (xs:List D),xs.all (okD n)=true→Zam xs xs=true
 | _,[],_=>by simp only [Zam]
 | n,x::xs,h=>by
  simp only [List.all_cons,Bool.and_eq_true] at h
  simp only [Zam,Bool.and_eq_true]
  exact ⟨Zmc n x h.1,ZdW n xs h.2⟩
end
theorem Zha:∀ {xs ys:List D},xs.length≠ys.length→Zam xs ys=false
 | [],[],h=>absurd rfl h
 | [],_::_,_=>by simp only [Zam]
 | _::_,[],_=>by simp only [Zam]
 | x::xs,y::ys,h=>by
  simp only [Zam]
  rw [Zha (xs:=xs) (ys:=ys) (by simpa using h),Bool.and_false]
theorem Zhh:∀ {xs ys:List D},xs.length=ys.length→Zam xs ys=(List.range xs.length).all fun j=>eqD (xs.getD j .non) (ys.getD j .non)
 | [],[],_=>by simp [Zam]
 | [],_::_,h=>by simp at h
 | _::_,[],h=>by simp at h
 | x::xs,y::ys,h=>by
  have ih:=Zhh (xs:=xs) (ys:=ys) (by simpa using h)
  simp only [Zam,List.length_cons,List.range_succ_eq_map,List.all_cons,List.getD_cons_zero,List.all_map,ih]
  rfl
section
variable {X:Cx} {pins:List (Addr×Obj)} {σ:St} {H:Hp} {s:Shared}
theorem Inv.apart (I:Inv X pins σ H s) {a:Addr} {xs ys:List V} (h:SqL X.K H a xs) (h':SqT X.K H a ys):False:=by
 obtain ⟨its,r,⟨o,n,e,c,_⟩,_⟩:=I.list h
 obtain ⟨its',r',⟨o',e',c',_⟩,_⟩:=I.tuple h'
 rw [e] at e';cases e'
 rw [c] at c'
 exact absurd c' (by decide)
theorem Rd.dct_inj {H:Hp} {a:Addr} {ks ks':List KT} {vs vs':List V} (h:Rd H a (.dct ks vs)) (h':Rd H a (.dct ks' vs')):vs=vs':=by
 rcases h with h | ⟨o,h⟩<;>rcases h' with h' | ⟨o',h'⟩<;>(rw [h] at h';cases h';try rfl)
theorem Inv.apartDL (I:Inv X pins σ H s) {a:Addr} {ks:List KT} {xs ys:List V} (h:Rd H a (.dct ks xs)) (h':SqL X.K H a ys):False:=by
 obtain ⟨_,_,_,o,_,_,e,c,_⟩:=h.ok I.hok
 obtain ⟨its',r',⟨o',n',e',c',_⟩,_⟩:=I.list h'
 rw [e] at e';cases e'
 rw [c.1] at c'
 exact absurd c' (by decide)
theorem Inv.apartDT (I:Inv X pins σ H s) {a:Addr} {ks:List KT} {xs ys:List V} (h:Rd H a (.dct ks xs)) (h':SqT X.K H a ys):False:=by
 obtain ⟨_,_,_,o,_,_,e,c,_⟩:=h.ok I.hok
 obtain ⟨its',r',⟨o',e',c',_⟩,_⟩:=I.tuple h'
 rw [e] at e';cases e'
 rw [c.1] at c'
 exact absurd c' (by decide)
mutual
/-- what an address denotes is one thing -/
theorem Zkg (I:Inv X pins σ H s) {N N':Fb}:∀ (d d':D) (v:V),DenP X.K N H d v→DenP X.K N' H d' v→d=d'
 | .non,d',v,h,h'=>by
  have h:=h.non
  cases d' with
  | non=>rfl
  | bl _=>rw [h'.bl] at h;cases h
  | int _=>rw [h'.int] at h;cases h
  | str _=>rw [h'.str] at h;cases h
  | ty _=>rw [h'.ty] at h;cases h
  | tup _=>obtain ⟨_,_,e,_⟩:=h'.tup;rw [e] at h;cases h
  | lst _ fl=>cases fl<;>(obtain ⟨_,_,e,_⟩:=h';rw [e] at h;cases h)
 | .bl _,d',v,h,h'=>by
  have h:=h.bl
  cases d' with
  | non=>rw [h'.non] at h;cases h
  | bl _=>rw [h'.bl] at h;cases h;rfl
  | int _=>rw [h'.int] at h;cases h
  | str _=>rw [h'.str] at h;cases h
  | ty _=>rw [h'.ty] at h;cases h
  | tup _=>obtain ⟨_,_,e,_⟩:=h'.tup;rw [e] at h;cases h
  | lst _ fl=>cases fl<;>(obtain ⟨_,_,e,_⟩:=h';rw [e] at h;cases h)
 | .int _,d',v,h,h'=>by
  have h:=h.int
  cases d' with
  | non=>rw [h'.non] at h;cases h
  | bl _=>rw [h'.bl] at h;cases h
  | int _=>rw [h'.int] at h;cases h;rfl
  | str _=>rw [h'.str] at h;cases h
  | ty _=>rw [h'.ty] at h;cases h
  | tup _=>obtain ⟨_,_,e,_⟩:=h'.tup;rw [e] at h;cases h
  | lst _ fl=>cases fl<;>(obtain ⟨_,_,e,_⟩:=h';rw [e] at h;cases h)
 | .str _,d',v,h,h'=>by
  have h:=h.str
  cases d' with
  | non=>rw [h'.non] at h;cases h
  | bl _=>rw [h'.bl] at h;cases h
  | int _=>rw [h'.int] at h;cases h
  | str _=>rw [h'.str] at h;cases h;rfl
  | ty _=>rw [h'.ty] at h;cases h
  | tup _=>obtain ⟨_,_,e,_⟩:=h'.tup;rw [e] at h;cases h
  | lst _ fl=>cases fl<;>(obtain ⟨_,_,e,_⟩:=h';rw [e] at h;cases h)
 | .ty _,d',v,h,h'=>by
  have h:=h.ty
  cases d' with
  | non=>rw [h'.non] at h;cases h
  | bl _=>rw [h'.bl] at h;cases h
  | int _=>rw [h'.int] at h;cases h
  | str _=>rw [h'.str] at h;cases h
  | ty _=>rw [h'.ty] at h;cases h;rfl
  | tup _=>obtain ⟨_,_,e,_⟩:=h'.tup;rw [e] at h;cases h
  | lst _ fl=>cases fl<;>(obtain ⟨_,_,e,_⟩:=h';rw [e] at h;cases h)
 | .tup xs,d',v,h,h'=>by
  obtain ⟨a,vs,e,q,r⟩:=h.tup
  subst e
  cases d' with
  | non=>cases h'.non
  | bl _=>cases h'.bl
  | int _=>cases h'.int
  | str _=>cases h'.str
  | ty _=>cases h'.ty
  | tup ys =>
   obtain ⟨b,ws,e,q',r'⟩:=h'.tup
   cases e
   have:=I.tuple_inj q q'
   subst this
   rw [ZdJ I xs ys vs r r']
  | lst _ fl =>
   cases fl with
   | false=>obtain ⟨b,ws,e,q',_⟩:=h';cases e;exact (I.apart q' q).elim
   | true=>obtain ⟨b,ws,e,q',_⟩:=h';cases e;exact (I.apartDT q' q).elim
 | .lst xs true,d',v,h,h'=>by
  obtain ⟨a,vs,e,q,r⟩:=h
  subst e
  cases d' with
  | non=>cases h'.non
  | bl _=>cases h'.bl
  | int _=>cases h'.int
  | str _=>cases h'.str
  | ty _=>cases h'.ty
  | tup ys=>obtain ⟨b,ws,e,q',r'⟩:=h'.tup;cases e;exact (I.apartDT q q').elim
  | lst ys fl =>
   cases fl with
   | false=>obtain ⟨b,ws,e,q',r'⟩:=h';cases e;exact (I.apartDL q q').elim
   | true =>
    obtain ⟨b,ws,e,q',r'⟩:=h'
    cases e
    have:=Rd.dct_inj q q'
    subst this
    rw [ZdJ I xs ys vs r r']
 | .lst xs false,d',v,h,h'=>by
  obtain ⟨a,vs,e,q,r⟩:=h
  subst e
  cases d' with
  | non=>cases h'.non
  | bl _=>cases h'.bl
  | int _=>cases h'.int
  | str _=>cases h'.str
  | ty _=>cases h'.ty
  | tup ys=>obtain ⟨b,ws,e,q',r'⟩:=h'.tup;cases e;exact (I.apart q q').elim
  | lst ys fl =>
   cases fl with
   | true=>obtain ⟨b,ws,e,q',r'⟩:=h';cases e;exact (I.apartDL q' q).elim
   | false =>
   obtain ⟨b,ws,e,q',r'⟩:=h'
   cases e
   have:=I.list_inj q q'
   subst this
   rw [ZdJ I xs ys vs r r']
theorem ZdJ (I:Inv X pins σ H s) {N N':Fb}:∀ (xs ys:List D) (vs:List V),DenL X.K N H xs vs→DenL X.K N' H ys vs→xs=ys
 | [],ys,vs,h,h'=>by
  simp only [DenL] at h;subst h
  cases ys with
  | nil=>rfl
  | cons y ys=>simp only [DenL] at h';obtain ⟨_,_,e,_⟩:=h';cases e
 | x::xs,ys,vs,h,h'=>by
  simp only [DenL] at h
  obtain ⟨v,r,e,q,t⟩:=h
  subst e
  cases ys with
  | nil=>simp only [DenL] at h';cases h'
  | cons y ys =>
   simp only [DenL] at h'
   obtain ⟨v',r',e,q',t'⟩:=h'
   cases e
   rw [Zkg I x y v q.p q'.p,ZdJ I xs ys r t t']
end
open SeqAt
theorem getD_some {α:Type} {xs:List α} {j:Nat} {d e:α} (h:xs[j]?=some e):xs.getD j d=e:=by simp [List.getD_eq_getElem?_getD,h]
theorem ZgA {its:List Value} {j:Nat} {u:Value} (h1:j<its.toArray.size) (e:its[j]?=some u):its.toArray[j]=u:=by
 obtain ⟨_,e⟩:=List.getElem?_eq_some_iff.mp e
 simpa using e
def Zpz (A:Around) (s:Shared) (u v:Value) (b:Bool):Prop:=RcAt A s u v b∧EqAt A s u v b∧RcNeAt A s u v (!b)
theorem ZdY (A:Around):A.in1.units=A.units+1:=rfl
theorem Zfs (I:Inv X pins σ H s) {N:Fb}:∀ (n:Nat) (A:Around) (x y:D) (vx vy:V) (u v:Value),A.units+n<cLine→okD n x=true→okD n y=true→DenP X.K N H x vx→DenP X.K N H y vy→RelV vx u→RelV vy v→Zpz A s u v (eqD x y):=by
 intro n
 induction n with
 | zero =>
  intro A x y vx vy u v hu ox oy hx hy rx ry
  have hu':A.units<cLine:=by omega
  cases x with
  | non =>
   rw [hx.non] at rx;cases rx
   cases y with
   | non=>rw [hy.non] at ry;cases ry;simp only [eqD];exact ⟨RcAt.none_none,EqAt.same _,RcNeAt.none_none⟩
   | bl _=>rw [hy.bl] at ry;cases ry;simp only [eqD];exact ⟨RcAt.none_bool _,EqAt.none_bool _,RcNeAt.none_bool _⟩
   | int _=>rw [hy.int] at ry;obtain ⟨t2,rfl⟩:=ry;simp only [eqD];exact ⟨RcAt.none_int _ _,EqAt.none_int _ _,RcNeAt.none_int _ _⟩
   | str _=>rw [hy.str] at ry;obtain ⟨t2,rfl⟩:=ry;simp only [eqD];exact ⟨RcAt.none_str _ _,EqAt.none_str _ _,RcNeAt.none_str _ _⟩
   | tup ys=>simp [okD] at oy
   | lst ys=>simp [okD] at oy
   | ty _=>simp [okD] at oy
  | bl _ =>
   rw [hx.bl] at rx;cases rx
   cases y with
   | non=>rw [hy.non] at ry;cases ry;simp only [eqD];exact ⟨RcAt.bool_none _,EqAt.bool_none _,RcNeAt.bool_none _⟩
   | bl _=>rw [hy.bl] at ry;cases ry;simp only [eqD];exact ⟨RcAt.bool_bool _ _,EqAt.bool_bool _ _,RcNeAt.bool_bool _ _⟩
   | int _=>rw [hy.int] at ry;obtain ⟨t2,rfl⟩:=ry;simp only [eqD];exact ⟨RcAt.bool_int _ _ _,EqAt.bool_int _ _ _,RcNeAt.bool_int _ _ _⟩
   | str _=>rw [hy.str] at ry;obtain ⟨t2,rfl⟩:=ry;simp only [eqD];exact ⟨RcAt.bool_str _ _ _,EqAt.bool_str _ _ _,RcNeAt.bool_str _ _ _⟩
   | tup ys=>simp [okD] at oy
   | lst ys=>simp [okD] at oy
   | ty _=>simp [okD] at oy
  | int _ =>
   rw [hx.int] at rx;obtain ⟨t1,rfl⟩:=rx
   cases y with
   | non=>rw [hy.non] at ry;cases ry;simp only [eqD];exact ⟨RcAt.int_none _ _,EqAt.int_none _ _,RcNeAt.int_none _ _⟩
   | bl _=>rw [hy.bl] at ry;cases ry;simp only [eqD];exact ⟨RcAt.int_bool _ _ _,EqAt.int_bool _ _ _,RcNeAt.int_bool _ _ _⟩
   | int _=>rw [hy.int] at ry;obtain ⟨t2,rfl⟩:=ry;simp only [eqD];exact ⟨RcAt.int_int _ _ _ _,EqAt.int_int _ _ _ _,RcNeAt.int_int _ _ _ _⟩
   | str _=>rw [hy.str] at ry;obtain ⟨t2,rfl⟩:=ry;simp only [eqD];exact ⟨RcAt.int_str _ _ _ _,EqAt.int_str _ _ _ _,RcNeAt.int_str _ _ _ _⟩
   | tup ys=>simp [okD] at oy
   | lst ys=>simp [okD] at oy
   | ty _=>simp [okD] at oy
  | str _ =>
   rw [hx.str] at rx;obtain ⟨t1,rfl⟩:=rx
   cases y with
   | non=>rw [hy.non] at ry;cases ry;simp only [eqD];exact ⟨RcAt.str_none _ _,EqAt.str_none _ _,RcNeAt.str_none _ _⟩
   | bl _=>rw [hy.bl] at ry;cases ry;simp only [eqD];exact ⟨RcAt.str_bool _ _ _,EqAt.str_bool _ _ _,RcNeAt.str_bool _ _ _⟩
   | int _=>rw [hy.int] at ry;obtain ⟨t2,rfl⟩:=ry;simp only [eqD];exact ⟨RcAt.str_int _ _ _ _,EqAt.str_int _ _ _ _,RcNeAt.str_int _ _ _ _⟩
   | str _=>rw [hy.str] at ry;obtain ⟨t2,rfl⟩:=ry;simp only [eqD];exact ⟨RcAt.str_str _ _ _ _,EqAt.str_str _ _ _ _,RcNeAt.str_str _ _ _ _⟩
   | tup ys=>simp [okD] at oy
   | lst ys=>simp [okD] at oy
   | ty _=>simp [okD] at oy
  | tup xs=>simp [okD] at ox
  | lst xs=>simp [okD] at ox
  | ty _=>simp [okD] at ox
 | succ n ih =>
  intro A x y vx vy u v hu ox oy hx hy rx ry
  have hu':A.units<cLine:=by omega
  cases x with
  | non =>
   rw [hx.non] at rx;cases rx
   cases y with
   | non=>rw [hy.non] at ry;cases ry;simp only [eqD];exact ⟨RcAt.none_none,EqAt.same _,RcNeAt.none_none⟩
   | bl _=>rw [hy.bl] at ry;cases ry;simp only [eqD];exact ⟨RcAt.none_bool _,EqAt.none_bool _,RcNeAt.none_bool _⟩
   | int _=>rw [hy.int] at ry;obtain ⟨t2,rfl⟩:=ry;simp only [eqD];exact ⟨RcAt.none_int _ _,EqAt.none_int _ _,RcNeAt.none_int _ _⟩
   | str _=>rw [hy.str] at ry;obtain ⟨t2,rfl⟩:=ry;simp only [eqD];exact ⟨RcAt.none_str _ _,EqAt.none_str _ _,RcNeAt.none_str _ _⟩
   | tup ys=>obtain ⟨a2,vs2,e2,q2,d2⟩:=hy.tup;subst e2;cases ry;obtain ⟨its2,r2,p2,z2⟩:=I.tuple q2;simp only [eqD];exact ⟨RcAt.none_tuple p2 hu',EqAt.none_tuple p2 hu',RcNeAt.none_tuple p2 hu'⟩
   | lst ys fl =>
    cases fl with
    | true=>simp [okD] at oy
    | false =>
     obtain ⟨a2,vs2,e2,q2,d2⟩:=hy;subst e2;cases ry;obtain ⟨its2,r2,p2,z2⟩:=I.list q2;simp only [eqD];exact ⟨RcAt.none_list p2.isList hu',EqAt.none_list p2.isList hu',RcNeAt.none_list p2.isList hu'⟩
   | ty _=>simp [okD] at oy
  | bl _ =>
   rw [hx.bl] at rx;cases rx
   cases y with
   | non=>rw [hy.non] at ry;cases ry;simp only [eqD];exact ⟨RcAt.bool_none _,EqAt.bool_none _,RcNeAt.bool_none _⟩
   | bl _=>rw [hy.bl] at ry;cases ry;simp only [eqD];exact ⟨RcAt.bool_bool _ _,EqAt.bool_bool _ _,RcNeAt.bool_bool _ _⟩
   | int _=>rw [hy.int] at ry;obtain ⟨t2,rfl⟩:=ry;simp only [eqD];exact ⟨RcAt.bool_int _ _ _,EqAt.bool_int _ _ _,RcNeAt.bool_int _ _ _⟩
   | str _=>rw [hy.str] at ry;obtain ⟨t2,rfl⟩:=ry;simp only [eqD];exact ⟨RcAt.bool_str _ _ _,EqAt.bool_str _ _ _,RcNeAt.bool_str _ _ _⟩
   | tup ys=>obtain ⟨a2,vs2,e2,q2,d2⟩:=hy.tup;subst e2;cases ry;obtain ⟨its2,r2,p2,z2⟩:=I.tuple q2;simp only [eqD];exact ⟨RcAt.bool_tuple _ p2 hu',EqAt.bool_tuple _ p2 hu',RcNeAt.bool_tuple _ p2 hu'⟩
   | lst ys fl =>
    cases fl with
    | true=>simp [okD] at oy
    | false =>
     obtain ⟨a2,vs2,e2,q2,d2⟩:=hy;subst e2;cases ry;obtain ⟨its2,r2,p2,z2⟩:=I.list q2;simp only [eqD];exact ⟨RcAt.bool_list _ p2.isList hu',EqAt.bool_list _ p2.isList hu',RcNeAt.bool_list _ p2.isList hu'⟩
   | ty _=>simp [okD] at oy
  | int _ =>
   rw [hx.int] at rx;obtain ⟨t1,rfl⟩:=rx
   cases y with
   | non=>rw [hy.non] at ry;cases ry;simp only [eqD];exact ⟨RcAt.int_none _ _,EqAt.int_none _ _,RcNeAt.int_none _ _⟩
   | bl _=>rw [hy.bl] at ry;cases ry;simp only [eqD];exact ⟨RcAt.int_bool _ _ _,EqAt.int_bool _ _ _,RcNeAt.int_bool _ _ _⟩
   | int _=>rw [hy.int] at ry;obtain ⟨t2,rfl⟩:=ry;simp only [eqD];exact ⟨RcAt.int_int _ _ _ _,EqAt.int_int _ _ _ _,RcNeAt.int_int _ _ _ _⟩
   | str _=>rw [hy.str] at ry;obtain ⟨t2,rfl⟩:=ry;simp only [eqD];exact ⟨RcAt.int_str _ _ _ _,EqAt.int_str _ _ _ _,RcNeAt.int_str _ _ _ _⟩
   | tup ys=>obtain ⟨a2,vs2,e2,q2,d2⟩:=hy.tup;subst e2;cases ry;obtain ⟨its2,r2,p2,z2⟩:=I.tuple q2;simp only [eqD];exact ⟨RcAt.int_tuple _ _ p2 hu',EqAt.int_tuple _ _ p2 hu',RcNeAt.int_tuple _ _ p2 hu'⟩
   | lst ys fl =>
    cases fl with
    | true=>simp [okD] at oy
    | false =>
     obtain ⟨a2,vs2,e2,q2,d2⟩:=hy;subst e2;cases ry;obtain ⟨its2,r2,p2,z2⟩:=I.list q2;simp only [eqD];exact ⟨RcAt.int_list _ _ p2.isList hu',EqAt.int_list _ _ p2.isList hu',RcNeAt.int_list _ _ p2.isList hu'⟩
   | ty _=>simp [okD] at oy
  | str _ =>
   rw [hx.str] at rx;obtain ⟨t1,rfl⟩:=rx
   cases y with
   | non=>rw [hy.non] at ry;cases ry;simp only [eqD];exact ⟨RcAt.str_none _ _,EqAt.str_none _ _,RcNeAt.str_none _ _⟩
   | bl _=>rw [hy.bl] at ry;cases ry;simp only [eqD];exact ⟨RcAt.str_bool _ _ _,EqAt.str_bool _ _ _,RcNeAt.str_bool _ _ _⟩
   | int _=>rw [hy.int] at ry;obtain ⟨t2,rfl⟩:=ry;simp only [eqD];exact ⟨RcAt.str_int _ _ _ _,EqAt.str_int _ _ _ _,RcNeAt.str_int _ _ _ _⟩
   | str _=>rw [hy.str] at ry;obtain ⟨t2,rfl⟩:=ry;simp only [eqD];exact ⟨RcAt.str_str _ _ _ _,EqAt.str_str _ _ _ _,RcNeAt.str_str _ _ _ _⟩
   | tup ys=>obtain ⟨a2,vs2,e2,q2,d2⟩:=hy.tup;subst e2;cases ry;obtain ⟨its2,r2,p2,z2⟩:=I.tuple q2;simp only [eqD];exact ⟨RcAt.str_tuple _ _ p2 hu',EqAt.str_tuple _ _ p2 hu',RcNeAt.str_tuple _ _ p2 hu'⟩
   | lst ys fl =>
    cases fl with
    | true=>simp [okD] at oy
    | false =>
     obtain ⟨a2,vs2,e2,q2,d2⟩:=hy;subst e2;cases ry;obtain ⟨its2,r2,p2,z2⟩:=I.list q2;simp only [eqD];exact ⟨RcAt.str_list _ _ p2.isList hu',EqAt.str_list _ _ p2.isList hu',RcNeAt.str_list _ _ p2.isList hu'⟩
   | ty _=>simp [okD] at oy
  | tup xs =>
   obtain ⟨a1,vs1,e1,q1,d1⟩:=hx.tup;subst e1;cases rx;obtain ⟨its1,r1,p1,z1⟩:=I.tuple q1
   cases y with
   | non=>rw [hy.non] at ry;cases ry;simp only [eqD];exact ⟨RcAt.tuple_none p1 hu',EqAt.tuple_none p1 hu',RcNeAt.tuple_none p1 hu'⟩
   | bl _=>rw [hy.bl] at ry;cases ry;simp only [eqD];exact ⟨RcAt.tuple_bool _ p1 hu',EqAt.tuple_bool _ p1 hu',RcNeAt.tuple_bool _ p1 hu'⟩
   | int _=>rw [hy.int] at ry;obtain ⟨t2,rfl⟩:=ry;simp only [eqD];exact ⟨RcAt.tuple_int _ _ p1 hu',EqAt.tuple_int _ _ p1 hu',RcNeAt.tuple_int _ _ p1 hu'⟩
   | str _=>rw [hy.str] at ry;obtain ⟨t2,rfl⟩:=ry;simp only [eqD];exact ⟨RcAt.tuple_str _ _ p1 hu',EqAt.tuple_str _ _ p1 hu',RcNeAt.tuple_str _ _ p1 hu'⟩
   | tup ys =>
    obtain ⟨a2,vs2,e2,q2,d2⟩:=hy.tup;subst e2;cases ry;obtain ⟨its2,r2,p2,z2⟩:=I.tuple q2
    simp only [okD] at ox oy
    have l1:=r1.length
    have l2:=r2.length
    have m1:=d1.length
    have m2:=d2.length
    simp only [eqD]
    have rc:RcAt A s (.ref a1) (.ref a2) (Zam xs ys)∧RcNeAt A s (.ref a1) (.ref a2) (!Zam xs ys):=by
     have each:∀ j (h1:j<its1.toArray.size) (h2:j<its2.toArray.size),EqAt A.in1 s its1.toArray[j] its2.toArray[j] (eqD (xs.getD j .non) (ys.getD j .non)):=fun j h1 h2=>?_
     ·have key:=RcAt.tuples (A:=A) (s:=s) (e:=fun j=>eqD (xs.getD j .non) (ys.getD j .non)) p1 p2 hu' each
      have key2:=RcNeAt.tuples (A:=A) (s:=s) (e:=fun j=>eqD (xs.getD j .non) (ys.getD j .non)) p1 p2 hu' each
      have e:((List.range (min its1.toArray.size its2.toArray.size)).all (fun j=>eqD (xs.getD j .non) (ys.getD j .non))&&its1.toArray.size==its2.toArray.size)=Zam xs ys:=by
       rw [List.size_toArray,List.size_toArray]
       by_cases hl:xs.length=ys.length
       ·rw [Zhh hl,show its1.length=xs.length by omega,show its2.length=xs.length by omega,Nat.min_self];simp
       ·rw [Zha hl,show (its1.length==its2.length)=false by simp;omega,Bool.and_false]
      rw [e] at key key2
      exact ⟨key,key2⟩
     ·have h1':j<xs.length:=by rw [List.size_toArray] at h1;omega
      have h2':j<ys.length:=by rw [List.size_toArray] at h2;omega
      have g1:=List.getElem?_eq_getElem h1'
      have g2:=List.getElem?_eq_getElem h2'
      obtain ⟨w1,hw1,dw1⟩:=d1.get g1
      obtain ⟨w2,hw2,dw2⟩:=d2.get g2
      obtain ⟨u1,hu1,ru1⟩:=r1.get hw1
      obtain ⟨u2,hu2,ru2⟩:=r2.get hw2
      rw [ZgA h1 hu1,ZgA h2 hu2,getD_some g1,getD_some g2]
      exact (ih A.in1 _ _ _ _ _ _ (by rw [ZdY];omega) (List.all_eq_true.mp ox _ (List.getElem_mem h1')) (List.all_eq_true.mp oy _ (List.getElem_mem h2')) dw1.p dw2.p ru1 ru2).2.1
    refine ⟨rc.1,?_,rc.2⟩
    by_cases ea:a1=a2
    ·subst ea
     have:=I.tuple_inj q1 q2
     subst this
     rw [ZdJ I xs ys _ d1 d2,ZdW n ys oy]
     exact EqAt.same _
    ·exact EqAt.of_refs ea rc.1
   | lst ys fl =>
    cases fl with
    | true=>simp [okD] at oy
    | false =>
     obtain ⟨a2,vs2,e2,q2,d2⟩:=hy;subst e2;cases ry;obtain ⟨its2,r2,p2,z2⟩:=I.list q2;simp only [eqD];exact ⟨RcAt.tuple_list p1 p2.isList hu',EqAt.tuple_list p1 p2.isList hu',RcNeAt.tuple_list p1 p2.isList hu'⟩
   | ty _=>simp [okD] at oy
  | lst xs fl =>
   cases fl with
   | true=>simp [okD] at ox
   | false =>
    obtain ⟨a1,vs1,e1,q1,d1⟩:=hx;subst e1;cases rx;obtain ⟨its1,r1,p1,z1⟩:=I.list q1
    cases y with
    | non=>rw [hy.non] at ry;cases ry;simp only [eqD];exact ⟨RcAt.list_none p1.isList hu',EqAt.list_none p1.isList hu',RcNeAt.list_none p1.isList hu'⟩
    | bl _=>rw [hy.bl] at ry;cases ry;simp only [eqD];exact ⟨RcAt.list_bool _ p1.isList hu',EqAt.list_bool _ p1.isList hu',RcNeAt.list_bool _ p1.isList hu'⟩
    | int _=>rw [hy.int] at ry;obtain ⟨t2,rfl⟩:=ry;simp only [eqD];exact ⟨RcAt.list_int _ _ p1.isList hu',EqAt.list_int _ _ p1.isList hu',RcNeAt.list_int _ _ p1.isList hu'⟩
    | str _=>rw [hy.str] at ry;obtain ⟨t2,rfl⟩:=ry;simp only [eqD];exact ⟨RcAt.list_str _ _ p1.isList hu',EqAt.list_str _ _ p1.isList hu',RcNeAt.list_str _ _ p1.isList hu'⟩
    | tup ys=>obtain ⟨a2,vs2,e2,q2,d2⟩:=hy.tup;subst e2;cases ry;obtain ⟨its2,r2,p2,z2⟩:=I.tuple q2;simp only [eqD];exact ⟨RcAt.list_tuple p1.isList p2 hu',EqAt.list_tuple p1.isList p2 hu',RcNeAt.list_tuple p1.isList p2 hu'⟩
    | lst ys fl =>
     cases fl with
     | true=>simp [okD] at oy
     | false =>
      obtain ⟨a2,vs2,e2,q2,d2⟩:=hy;subst e2;cases ry;obtain ⟨its2,r2,p2,z2⟩:=I.list q2
      simp only [okD] at ox oy
      have l1:=r1.length
      have l2:=r2.length
      have m1:=d1.length
      have m2:=d2.length
      simp only [eqD]
      have rc:RcAt A s (.ref a1) (.ref a2) (Zam xs ys)∧RcNeAt A s (.ref a1) (.ref a2) (!Zam xs ys):=by
       by_cases hl:xs.length=ys.length
       ·have each:∀ j (h1:j<its1.toArray.size) (h2:j<its2.toArray.size),EqAt A.in1 s its1.toArray[j] its2.toArray[j] (eqD (xs.getD j .non) (ys.getD j .non)):=fun j h1 h2=>?_
        ·have key:=RcAt.lists (A:=A) (s:=s) (e:=fun j=>eqD (xs.getD j .non) (ys.getD j .non)) p1.isList p2.isList (by rw [List.size_toArray,List.size_toArray];omega) hu' each
         have key2:=RcNeAt.lists (A:=A) (s:=s) (e:=fun j=>eqD (xs.getD j .non) (ys.getD j .non)) p1.isList p2.isList (by rw [List.size_toArray,List.size_toArray];omega) hu' each
         have e:(List.range its1.toArray.size).all (fun j=>eqD (xs.getD j .non) (ys.getD j .non))=Zam xs ys:=by
          rw [List.size_toArray,Zhh hl,show its1.length=xs.length by omega]
         rw [e] at key key2
         exact ⟨key,key2⟩
        ·have h1':j<xs.length:=by rw [List.size_toArray] at h1;omega
         have h2':j<ys.length:=by rw [List.size_toArray] at h2;omega
         have g1:=List.getElem?_eq_getElem h1'
         have g2:=List.getElem?_eq_getElem h2'
         obtain ⟨w1,hw1,dw1⟩:=d1.get g1
         obtain ⟨w2,hw2,dw2⟩:=d2.get g2
         obtain ⟨u1,hu1,ru1⟩:=r1.get hw1
         obtain ⟨u2,hu2,ru2⟩:=r2.get hw2
         rw [ZgA h1 hu1,ZgA h2 hu2,getD_some g1,getD_some g2]
         exact (ih A.in1 _ _ _ _ _ _ (by rw [ZdY];omega) (List.all_eq_true.mp ox _ (List.getElem_mem h1')) (List.all_eq_true.mp oy _ (List.getElem_mem h2')) dw1.p dw2.p ru1 ru2).2.1
       ·rw [Zha hl]
        have hne:(its1.toArray.size != its2.toArray.size)=true:=by rw [List.size_toArray,List.size_toArray];simp;omega
        exact ⟨RcAt.lists_lengths p1.isList p2.isList hne hu',RcNeAt.lists_lengths p1.isList p2.isList hne hu'⟩
      refine ⟨rc.1,?_,rc.2⟩
      by_cases ea:a1=a2
      ·subst ea
       have:=I.list_inj q1 q2
       subst this
       rw [ZdJ I xs ys _ d1 d2,ZdW n ys oy]
       exact EqAt.same _
      ·exact EqAt.of_refs ea rc.1
    | ty _=>simp [okD] at oy
  | ty _=>simp [okD] at ox
end
def Zaz:Nat:=12
@[simp] def eqO (x y:D):Option D:=if okD Zaz x&&okD Zaz y then some (.bl (eqD x y)) else none
@[simp] def neO (x y:D):Option D:=if okD Zaz x&&okD Zaz y then some (.bl (!eqD x y)) else none
def ZkJ (K:PySem.W.Frag) (neg:Bool):R2:=fun x y H Q=>∃ N d1 d2,DenP K N H d1 x∧DenP K N H d2 y∧okD Zaz d1=true∧okD Zaz d2=true∧Q (.bl (if neg then !eqD d1 d2 else eqD d1 d2)) H
section
variable {X:Cx} {K:PySem.W.Frag} {M:Fb} {H0:Hp} {a b:Expr} {f g:VE→Option D} {pos:Pos}
theorem ZpU (hu:X.A.units+64<cLine):OpR X (compareOp .Eq) (ZkJ X.K false):=by
 intro pins s σ H x y v u Q I rx ry h
 obtain ⟨N,d1,d2,h1,h2,o1,o2,q⟩:=h
 exact (Zfs I Zaz X.A d1 d2 x y v u (by unfold Zaz;omega) o1 o2 h1 h2 rx ry).1 X.prog X.w X.xe _ ⟨.bl _,H,I,rfl,q⟩
theorem ZpQ (hu:X.A.units+64<cLine):OpR X (compareOp .NotEq) (ZkJ X.K true):=by
 intro pins s σ H x y v u Q I rx ry h
 obtain ⟨N,d1,d2,h1,h2,o1,o2,q⟩:=h
 exact (Zfs I Zaz X.A d1 d2 x y v u (by unfold Zaz;omega) o1 o2 h1 h2 rx ry).2.2 X.prog X.w X.xe _ ⟨.bl _,H,I,rfl,q⟩
theorem ZqC:R2D K (ZkJ K false) eqO:=by
 intro N H x y d1 d2 d Q nh h1 h2 e q
 unfold eqO at e
 split at e
 ·next ho=>rw [Bool.and_eq_true] at ho;cases e;exact ⟨N,d1,d2,h1,h2,ho.1,ho.2,q _ H (Same.refl H) Zch⟩
 ·cases e
theorem Zqx:R2D K (ZkJ K true) neO:=by
 intro N H x y d1 d2 d Q nh h1 h2 e q
 unfold neO at e
 split at e
 ·next ho=>rw [Bool.and_eq_true] at ho;cases e;exact ⟨N,d1,d2,h1,h2,ho.1,ho.2,q _ H (Same.refl H) Zch⟩
 ·cases e
def ZgT (x:D) (ys:List D):Bool:=ys.any fun y=>eqD y x
@[simp] def inD (neg:Bool) (x y:D):Option D:=match y with
  | .lst ys=>if okD Zaz x&&ys.all (okD Zaz) then some (.bl (if neg then !ZgT x ys else ZgT x ys)) else none
  | .tup ys=>if okD Zaz x&&ys.all (okD Zaz) then some (.bl (if neg then !ZgT x ys else ZgT x ys)) else none
  | .str z=>match x with
   | .str w=>some (.bl (if neg then !(!(Builtin.Str.occurrences z w 0 z.length 1).isEmpty) else !(Builtin.Str.occurrences z w 0 z.length 1).isEmpty))
   | _=>none
  | _=>none
def ZpR (K:PySem.W.Frag) (neg:Bool):R2:=fun x y H Q=>∃ N d1 ys vs p,DenP K N H d1 x∧y=.ref p∧(SqL K H p vs∨SqT K H p vs)∧DenL K N H ys vs∧okD Zaz d1=true∧ys.all (okD Zaz)=true∧Q (.bl (if neg then !ZgT d1 ys else ZgT d1 ys)) H
open Classical in
noncomputable def ZdT (K:PySem.W.Frag) (N:Fb) (H:Hp) (x:D) (u:Value):Bool:=decide (∃ d w,DenP K N H d w∧RelV w u∧eqD d x=true)
theorem Zjz {pins:List (Addr×Obj)} {σ:St} {H:Hp} {s:Shared} (I:Inv X pins σ H s) {N:Fb} {x d:D} {w:V} {u:Value} (hd:DenP X.K N H d w) (r:RelV w u):ZdT X.K N H x u=eqD d x:=by
 classical
 unfold ZdT
 cases e:eqD d x with
 | true=>exact @decide_eq_true _ (Classical.propDecidable _) ⟨d,w,hd,r,e⟩
 | false =>
  refine @decide_eq_false _ (Classical.propDecidable _) ?_
  rintro ⟨d',w',hd',r',e'⟩
  have:=r'.inj r
  subst this
  have:=Zkg I d' d _ hd' hd
  subst this
  rw [e] at e';cases e'
theorem Zh7 {pins:List (Addr×Obj)} {σ:St} {H:Hp} {s:Shared} (I:Inv X pins σ H s) {N:Fb} {x:D}:∀ {ys:List D} {vs:List V} {us:List Value},DenL X.K N H ys vs→Vals vs us→us.any (ZdT X.K N H x)=ZgT x ys
 | [],_,_,h,r=>by simp only [DenL] at h;subst h;cases r;rfl
 | y::ys,_,_,h,r=>by
  simp only [DenL] at h
  obtain ⟨v,t,e,hv,ht⟩:=h
  subst e
  cases r with
  | cons r1 r2 =>
   rw [List.any_cons,Zjz I hv.p r1,Zh7 I ht r2]
   rfl
theorem Zji {pins:List (Addr×Obj)} {σ:St} {H:Hp} {s:Shared} (I:Inv X pins σ H s) {N:Fb} {A:Around} {x:D} {vx:V} {v:Value} (hu:A.units+Zaz<cLine) (ox:okD Zaz x=true) (hx:DenP X.K N H x vx) (rx:RelV vx v) {ys:List D} {vs:List V} {us:List Value} (h:DenL X.K N H ys vs) (r:Vals vs us) (oy:ys.all (okD Zaz)=true) :
  ∀ u∈us,SeqAt.EqAt A s u v (ZdT X.K N H x u):=by
 intro u hu'
 obtain ⟨j,hj⟩:=List.getElem?_of_mem hu'
 have hl:=r.length
 have hj':j<vs.length:=by have:=(List.getElem?_eq_some_iff.mp hj).1;omega
 have hv:=List.getElem?_eq_getElem hj'
 obtain ⟨u',e1,r1⟩:=r.get hv
 rw [hj] at e1;cases e1
 obtain ⟨y,e2,hy⟩:=h.get' hv
 rw [Zjz I hy.p r1]
 exact (Zfs I Zaz A y x _ _ _ _ hu (List.all_eq_true.mp oy y (List.mem_of_getElem? e2)) ox hy.p hx r1 rx).2.1
theorem Zpd (hu:X.A.units+64<cLine):OpR X (compareOp .In) (ZpR X.K false):=by
 intro pins s σ H x y v u Q I rx ry h
 obtain ⟨N,d1,ys,vs,p,h1,rfl,hq,hd,o1,o2,q⟩:=h
 cases ry
 have hu1:X.A.in1.units+Zaz<cLine:=by rw [ZdY];unfold Zaz;omega
 rcases hq with hq | hq
 ·obtain ⟨its,r,pl,hz⟩:=I.list hq
  refine SeqAt.in_listAt (ZdT X.K N H d1) pl.isList (fun w hw=>Zji I hu1 o1 h1 rx hd r o2 w (by simpa using hw)) ⟨.bl _,H,I,rfl,?_⟩
  rw [show its.toArray.any (ZdT X.K N H d1)=its.any (ZdT X.K N H d1) by simp,Zh7 I hd r]
  exact q
 ·obtain ⟨its,r,pl,hz⟩:=I.tuple hq
  refine SeqAt.in_tupleAt (ZdT X.K N H d1) pl (fun w hw=>Zji I hu1 o1 h1 rx hd r o2 w (by simpa using hw)) ⟨.bl _,H,I,rfl,?_⟩
  rw [show its.toArray.any (ZdT X.K N H d1)=its.any (ZdT X.K N H d1) by simp,Zh7 I hd r]
  exact q
theorem Zqi:R2D K (fun x y H Q=>ZpR K false x y H Q∨∃ i j,x=.str i∧y=.str j∧Q (.bl (!(Builtin.Str.occurrences j i 0 j.length 1).isEmpty)) H) (inD false):=by
 intro N H x y d1 d2 d Q nh h1 h2 e q
 unfold inD at e
 split at e
 ·split at e
  ·next ho=>rw [Bool.and_eq_true] at ho;cases e;obtain ⟨a,vs,e1,q1,r1⟩:=h2;exact .inl ⟨N,d1,_,vs,a,h1,e1,.inl q1,r1,ho.1,ho.2,q _ H (Same.refl H) Zch⟩
  ·cases e
 ·split at e
  ·next ho=>rw [Bool.and_eq_true] at ho;cases e;obtain ⟨a,vs,e1,q1,r1⟩:=h2.tup;exact .inl ⟨N,d1,_,vs,a,h1,e1,.inr q1,r1,ho.1,ho.2,q _ H (Same.refl H) Zch⟩
  ·cases e
 ·split at e
  ·cases e;exact .inr ⟨_,_,h1.str,h2.str,q _ H (Same.refl H) Zch⟩
  ·cases e
 ·cases e
@[simp] def ZjR (lt:D→D→Option Bool):List D→List D→Option Bool
  | [],[]=>some false
  | [],_::_=>some true
  | _::_,[]=>some false
  | x::xs,y::ys=>if okD Zaz x&&okD Zaz y then (if eqD x y then ZjR lt xs ys else lt x y) else none
@[simp] def ltN:Nat→D→D→Option Bool
  | _,.int i,.int j=>some (decide (i<j))
  | _,.str a,.str b=>some (decide (a.cps.toList<b.cps.toList))
  | n+1,.tup xs,.tup ys=>ZjR (ltN n) xs ys
  | n+1,.lst xs false,.lst ys false=>ZjR (ltN n) xs ys
  | _,_,_=>none
@[simp] def ltO (x y:D):Option D:=(ltN 6 x y).map D.bl
def ZpB (K:PySem.W.Frag):R2:=fun x y H Q=>∃ N d1 d2 b,DenP K N H d1 x∧DenP K N H d2 y∧ltN 6 d1 d2=some b∧Q (.bl b) H
theorem Zo6 {pins:List (Addr×Obj)} {σ:St} {H:Hp} {s:Shared} (I:Inv X pins σ H s) {N:Fb}:∀ (n:Nat) (A:Around) (x y:D) (vx vy:V) (u v:Value) (b:Bool),A.units+n+Zaz<cLine→ltN n x y=some b→DenP X.K N H x vx→DenP X.K N H y vy→RelV vx u→RelV vy v →
  ∀ (prog:Program) (wo:World) (E Q:Value→Shared→Prop),Q (.bool b) s→wpAny (model prog wo) A (richCompare .Lt u v) Q E s:=by
 intro n
 induction n with
 | zero =>
  intro A x y vx vy u v b hu h hx hy rx ry prog wo E Q q
  unfold ltN at h
  split at h
  ·cases h;rw [hx.int] at rx;rw [hy.int] at ry;obtain ⟨t,rfl⟩:=rx;obtain ⟨t',rfl⟩:=ry;exact HT.rcLt_int A s _ _ _ _ prog wo E Q q
  ·cases h;rw [hx.str] at rx;rw [hy.str] at ry;obtain ⟨t,rfl⟩:=rx;obtain ⟨t',rfl⟩:=ry;exact (PyProof.Rows.lt_str q:wpAny (model prog wo) A (compareOp .Lt _ _) Q E s)
  ·next h0=>cases h0
  ·next h0=>cases h0
  ·cases h
 | succ n ih =>
  intro A x y vx vy u v b hu h hx hy rx ry prog wo E Q q
  have lists:∀ (xs ys:List D) (vs1 vs2:List V) (us1 us2:List Value),ZjR (ltN n) xs ys=some b→DenL X.K N H xs vs1→DenL X.K N H ys vs2→Vals vs1 us1→Vals vs2 us2→ZdH A.in1 s us1 us2 b:=by
   intro xs
   induction xs with
   | nil =>
    intro ys vs1 vs2 us1 us2 h d1 d2 r1 r2
    simp only [DenL] at d1;subst d1;cases r1
    cases ys with
    | nil=>simp only [DenL] at d2;subst d2;cases r2;cases h;exact .nn
    | cons y ys=>simp only [DenL] at d2;obtain ⟨w,t,e,_,_⟩:=d2;subst e;cases r2;cases h;exact .nc
   | cons x xs ihx =>
    intro ys vs1 vs2 us1 us2 h d1 d2 r1 r2
    simp only [DenL] at d1;obtain ⟨w1,t1,e1,dw1,dt1⟩:=d1;subst e1
    cases r1 with
    | cons rw1 rt1 =>
     cases ys with
     | nil=>simp only [DenL] at d2;subst d2;cases r2;cases h;exact .cn
     | cons y ys =>
      simp only [DenL] at d2;obtain ⟨w2,t2,e2,dw2,dt2⟩:=d2;subst e2
      cases r2 with
      | cons rw2 rt2 =>
       simp only [ZjR] at h
       split at h
       ·next ho =>
        rw [Bool.and_eq_true] at ho
        have he:=(Zfs I Zaz A.in1 x y _ _ _ _ (by rw [ZdY];omega) ho.1 ho.2 dw1.p dw2.p rw1 rw2).2.1
        split at h
        ·next e=>rw [e] at he;exact .eq he (ihx ys _ _ _ _ h dt1 dt2 rt1 rt2)
        ·next e =>
         rw [Bool.not_eq_true] at e
         rw [e] at he
         exact .ne he fun prog wo E Q q=>ih A.in1 x y _ _ _ _ b (by rw [ZdY];omega) h dw1.p dw2.p rw1 rw2 prog wo E Q q
       ·cases h
  unfold ltN at h
  split at h
  ·cases h;rw [hx.int] at rx;rw [hy.int] at ry;obtain ⟨t,rfl⟩:=rx;obtain ⟨t',rfl⟩:=ry;exact HT.rcLt_int A s _ _ _ _ prog wo E Q q
  ·cases h;rw [hx.str] at rx;rw [hy.str] at ry;obtain ⟨t,rfl⟩:=rx;obtain ⟨t',rfl⟩:=ry;exact (PyProof.Rows.lt_str q:wpAny (model prog wo) A (compareOp .Lt _ _) Q E s)
  ·next m xs ys e0 =>
   cases e0
   obtain ⟨a1,vs1,e1,q1,d1⟩:=hx.tup
   obtain ⟨a2,vs2,e2,q2,d2⟩:=hy.tup
   subst e1 e2
   cases rx
   cases ry
   obtain ⟨its1,r1,p1,_⟩:=I.tuple q1
   obtain ⟨its2,r2,p2,_⟩:=I.tuple q2
   exact Zmj p1 p2 (by simpa using lists xs ys _ _ _ _ h d1 d2 r1 r2) (by omega) q
  ·next m xs ys e0 =>
   cases e0
   obtain ⟨a1,vs1,e1,q1,d1⟩:=hx
   obtain ⟨a2,vs2,e2,q2,d2⟩:=hy
   subst e1 e2
   cases rx
   cases ry
   obtain ⟨its1,r1,⟨⟨cls,dd,data,sl⟩,n1,ho1,hc1,hdd1,hd1⟩,_⟩:=I.list q1
   obtain ⟨its2,r2,⟨⟨cls2,dd2,data2,sl2⟩,n2,ho2,hc2,hdd2,hd2⟩,_⟩:=I.list q2
   simp only at hc1 hd1 hc2 hd2
   subst hc1 hd1 hc2 hd2
   exact ZmA ho1 ho2 (by simpa using lists xs ys _ _ _ _ h d1 d2 r1 r2) (by omega) q
  ·cases h
theorem ZoL (hu:X.A.units+64<cLine):OpR X (compareOp .Lt) (ZpB X.K):=by
 intro pins s σ H x y v u Q I rx ry h
 obtain ⟨N,d1,d2,b,h1,h2,hb,q⟩:=h
 have fin:EP X pins σ Q (.bool b) s:=⟨.bl b,H,I,rfl,q⟩
 exact Zo6 I 6 X.A d1 d2 x y v u b (by unfold Zaz;omega) hb h1 h2 rx ry X.prog X.w X.xe _ fin
theorem Zqh:R2D K (ZpB K) ltO:=by
 intro N H x y d1 d2 d Q nh h1 h2 e q
 unfold ltO at e
 cases hl:ltN 6 d1 d2 with
 | none=>rw [hl] at e;cases e
 | some b=>rw [hl] at e;cases e;exact ⟨N,d1,d2,b,h1,h2,hl,q _ H (Same.refl H) Zch⟩
end
end L2
namespace L2
open PySem PySem.Spec PyProof.Rows
section
variable {K:PySem.W.Frag} {N:Fb} {H:Hp}
theorem Paired.one' {α β:Type} {F:α→β→Prop} {x:α} {vs:List β} (h:Paired F [x] vs):∃ v,vs=[v]∧F x v:=by
 cases h with
 | cons r t=>cases t;exact ⟨_,rfl,r⟩
theorem Paired.two' {α β:Type} {F:α→β→Prop} {x y:α} {vs:List β} (h:Paired F [x,y] vs):∃ v w,vs=[v,w]∧F x v∧F y w:=by
 cases h with
 | cons r t =>
  obtain ⟨w,e,q⟩:=Paired.one' t
  subst e
  exact ⟨_,w,rfl,r,q⟩
@[simp] def ZaR:List D→Option D
  | [.lst xs]=>some (.int xs.length)
  | [.tup xs]=>some (.int xs.length)
  | [.str x]=>if x.length≤sizeLine then some (.int x.length) else none
  | _=>none
theorem ZaA:RcD K (fun xs H Q=>∃ x n,xs=[x]∧Zpg K x H n∧Q (.int n) H) ZaR:=by
 intro N H vs ds d Q nh h e q
 unfold ZaR at e
 split at e
 ·cases e
  obtain ⟨v,rfl,hv⟩:=Paired.one' h
  obtain ⟨a,ws,e1,q1,r1⟩:=hv
  subst e1
  exact ⟨.ref a,_,rfl,.inl ⟨ws,q1,rfl⟩,by rw [← r1.length];exact q _ H (Same.refl H) ZcW⟩
 ·cases e
  obtain ⟨v,rfl,hv⟩:=Paired.one' h
  obtain ⟨a,ws,e1,q1,r1⟩:=hv.tup
  subst e1
  exact ⟨.ref a,_,rfl,.inr ⟨ws,q1,rfl⟩,by rw [← r1.length];exact q _ H (Same.refl H) ZcW⟩
 ·split at e
  ·next hz =>
   cases e
   obtain ⟨v,rfl,hv⟩:=Paired.one' h
   exact ⟨v,_,rfl,by rw [hv.str];exact ⟨hz,rfl⟩,q _ H (Same.refl H) ZcW⟩
  ·cases e
 ·cases e
@[simp] def ZsA:List D→Option (List D)
  | [.lst xs]=>some xs
  | [.tup xs]=>some xs
  | _=>none
@[simp] def Zf8:List D→Option D
  | [.lst xs]=>some (.tup xs)
  | [.tup xs]=>some (.tup xs)
  | _=>none
theorem ZgX:RcD K (fun xs H Q=>∃ p ys,xs=[.ref p]∧((SqL K H p ys∧∀ l,H l=none→Q (.ref l) (upd H l (.tup ys)))∨(SqT K H p ys∧Q (.ref p) H))) Zf8:=by
 intro N H vs ds d Q nh h e q
 unfold Zf8 at e
 split at e
 ·cases e
  obtain ⟨v,rfl,hv⟩:=Paired.one' h
  obtain ⟨a,ws,e1,q1,r1⟩:=hv
  subst e1
  exact ⟨a,ws,rfl,.inl ⟨q1,fun l hl=>q _ _ (ZaZ hl) (ZfD hl r1)⟩⟩
 ·cases e
  obtain ⟨v,rfl,hv⟩:=Paired.one' h
  obtain ⟨a,ws,e1,q1,r1⟩:=hv.tup
  subst e1
  exact ⟨a,ws,rfl,.inr ⟨q1,q _ _ (Same.refl H) (by simp only [Den];exact ⟨a,ws,rfl,q1,r1⟩)⟩⟩
 ·cases e
def ZeY:List D→Option (List Bool)
 | []=>some []
 | .bl b::r=>(ZeY r).map (b::·)
 | _=>none
theorem ZgZ:∀ {xs:List D} {bs:List Bool},ZeY xs=some bs→xs=bs.map D.bl
 | [],_,e=>by cases e;rfl
 | .bl b::r,_,e=>by
  simp only [ZeY] at e
  cases h:ZeY r with
  | none=>rw [h] at e;cases e
  | some bs=>rw [h] at e;cases e;rw [ZgZ h];rfl
 | .non::_,_,e=>nomatch e
 | .int _::_,_,e=>nomatch e
 | .str _::_,_,e=>nomatch e
 | .ty _::_,_,e=>nomatch e
 | .tup _::_,_,e=>nomatch e
 | .lst _ _::_,_,e=>nomatch e
theorem Zhf:∀ {bs:List Bool} {vs:List V},DenL K N H (bs.map D.bl) vs→vs=bs.map V.bl
 | [],_,h=>by simpa only [List.map_nil,DenL] using h
 | b::bs,_,h=>by
  simp only [List.map_cons,DenL,Den] at h
  obtain ⟨v,r,e,hv,t⟩:=h
  subst e hv
  rw [Zhf t];rfl
@[simp] def Zf5:List D→Option D
  | [.lst xs]=>(ZeY xs).map fun bs=>.bl (bs.all id)
  | _=>none
@[simp] def Zk7:List D→Option D
  | [.lst xs]=>(ZeY xs).map fun bs=>.bl (bs.any id)
  | _=>none
theorem Zls:RcD K (fun xs H Q=>∃ (a:Addr) (bs:List Bool),xs=[.ref a]∧SqL K H a (bs.map V.bl)∧Q (.bl (bs.all id)) H) Zf5:=by
 intro N H vs ds d Q nh h e q
 unfold Zf5 at e
 split at e
 ·next xs =>
  cases hb:ZeY xs with
  | none=>rw [hb] at e;cases e
  | some bs =>
   rw [hb] at e;cases e
   obtain ⟨v,rfl,hv⟩:=Paired.one' h
   obtain ⟨a,ws,e1,q1,r1⟩:=hv
   subst e1
   rw [ZgZ hb] at r1
   rw [Zhf r1] at q1
   exact ⟨a,bs,rfl,q1,q _ H (Same.refl H) Zch⟩
 ·cases e
theorem Zo1:RcD K (fun xs H Q=>∃ (a:Addr) (bs:List Bool),xs=[.ref a]∧SqL K H a (bs.map V.bl)∧Q (.bl (bs.any id)) H) Zk7:=by
 intro N H vs ds d Q nh h e q
 unfold Zk7 at e
 split at e
 ·next xs =>
  cases hb:ZeY xs with
  | none=>rw [hb] at e;cases e
  | some bs =>
   rw [hb] at e;cases e
   obtain ⟨v,rfl,hv⟩:=Paired.one' h
   obtain ⟨a,ws,e1,q1,r1⟩:=hv
   subst e1
   rw [ZgZ hb] at r1
   rw [Zhf r1] at q1
   exact ⟨a,bs,rfl,q1,q _ H (Same.refl H) Zch⟩
 ·cases e
@[simp] def Zsi:List D→Option D
  | [.int i,.int j]=>some (.int (if j > i then j else i))
  | _=>none
@[simp] def Zsq:List D→Option D
  | [.int i,.int j]=>some (.int (if j<i then j else i))
  | _=>none
@[simp] def Zla:List D→Option D
  | [.int i]=>some (.int (if i<0 then -i else i))
  | _=>none
theorem Zo9:RcD K (fun xs H Q=>∃ i,xs=[.int i]∧Q (.int (if i<0 then -i else i)) H) Zla:=by
 intro N H vs ds d Q nh h e q
 unfold Zla at e
 split at e
 ·cases e
  obtain ⟨v,rfl,hv⟩:=Paired.one' h
  exact ⟨_,by rw [hv.int],q _ H (Same.refl H) ZcW⟩
 ·cases e
@[simp] def ZsK:List D→Option D
  | [.int i]=>if i.natAbs.log2<1920 then some (.str (toString i)) else none
  | _=>none
@[simp] def Zst:List D→Option D
  | [.int i]=>some (.int i)
  | [.bl k]=>some (.int (if k then 1 else 0))
  | _=>none
def Ze2:List D→Option (List Int)
 | []=>some []
 | .int b::r=>(Ze2 r).map (b::·)
 | _=>none
theorem Zii:∀ (ns:List Int),Ze2 (ns.map D.int)=some ns
 | []=>rfl
 | n::ns=>by simp only [List.map_cons,Ze2,Zii ns];rfl
end
section
variable {X:Cx}
end
def ZpF:List Int→Option Int
 | []=>none
 | x::xs=>some (xs.foldl (fun m y=>if y<m then y else m) x)
def Zpi:List Int→Option Int
 | []=>none
 | x::xs=>some (xs.foldl (fun m y=>if y > m then y else m) x)
section
variable {K:PySem.W.Frag}
@[simp] def Zsv:List D→Option D
  | [.lst xs]=>(Ze2 xs).map fun ns=>.int ns.sum
  | _=>none
@[simp] def Zss:List D→Option D
  | [.lst xs]=>((Ze2 xs).bind ZpF).map D.int
  | _=>none
@[simp] def Zsj:List D→Option D
  | [.lst xs]=>((Ze2 xs).bind Zpi).map D.int
  | _=>none
@[simp] def tyD:D→Option String
  | .non=>some "NoneType"
  | .bl _=>some "bool"
  | .int _=>some "int"
  | .str _=>some "str"
  | .tup _=>some "tuple"
  | .lst _=>some "list"
  | .lst _ true=>none
  | .ty _=>none
def ZhR (t n:String):Bool:=t==n||(t=="bool"&&n=="int")
end
def ZbP:List String:=["NoneType","bool","int","str","tuple","list"]
theorem Zkl (K:PySem.W.Frag):∀ t∈ZbP,∀ n∈ZbP,PySem.W.kitOne K (.type t) (.type n)=some (ZhR t n):=by
 intro t ht n hn
 simp only [ZbP,List.mem_cons,List.not_mem_nil,or_false] at ht hn
 rcases ht with rfl | rfl | rfl | rfl | rfl | rfl<;>rcases hn with rfl | rfl | rfl | rfl | rfl | rfl<;>with_unfolding_all rfl
theorem Zj9 (K:PySem.W.Frag) {t:String} (ht:t∈ZbP):∀ (ns:List String),(∀ n∈ns,n∈ZbP)→PySem.W.kitAny K (.type t) (ns.map Value.type)=some (ns.any fun n=>ZhR t n)
 | [],_=>rfl
 | n::ns,h=>by
  have h1:=Zkl K t ht n (h n List.mem_cons_self)
  have h2:=Zj9 K ht ns fun m hm=>h m (List.mem_cons_of_mem _ hm)
  simp only [List.map_cons,PySem.W.kitAny,h1,h2,List.any_cons]
  cases ZhR t n<;>rfl
theorem Zkk {d:D} {t:String} (h:tyD d=some t):t∈ZbP:=by
 cases d with
 | lst xs fl=>cases fl<;>simp [tyD] at h;subst h;simp [ZbP]
 | _=>simp [tyD] at h<;>subst h<;>simp [ZbP]
section
variable {X:Cx} {K:PySem.W.Frag}
theorem ZoW {pins:List (Addr×Obj)} {σ:St} {H:Hp} {s:Shared} (I:Inv X pins σ H s) {N:Fb} {d:D} {x:V} {u:Value} {t:String} (hx:DenP X.K N H d x) (rx:RelV x u) (ht:tyD d=some t) :
  ∃ HP:Heap→Prop,PySem.W.KitX X.K u (.type t) HP∧HP s.heap∧u≠.builtin "__main__.__loader__#opaque":=by
 cases d with
 | non=>cases ht;rw [hx.non] at rx;cases rx;exact ⟨_,PySem.W.kitx_none,trivial,fun z=>nomatch z⟩
 | bl b=>cases ht;rw [hx.bl] at rx;cases rx;exact ⟨_,PySem.W.kitx_bool,trivial,fun z=>nomatch z⟩
 | int b=>cases ht;rw [hx.int] at rx;obtain ⟨t,rfl⟩:=rx;exact ⟨_,PySem.W.kitx_int,trivial,fun z=>nomatch z⟩
 | str b=>cases ht;rw [hx.str] at rx;obtain ⟨t,rfl⟩:=rx;exact ⟨_,PySem.W.kitx_str,trivial,fun z=>nomatch z⟩
 | ty n=>cases ht
 | tup xs =>
  cases ht
  obtain ⟨a,vs,e,q,r⟩:=hx.tup
  subst e;cases rx
  obtain ⟨its,_,⟨o,h1,h2,_⟩,_⟩:=I.tuple q
  exact ⟨_,PySem.W.kitx_tuple,⟨o,h1,h2⟩,fun z=>nomatch z⟩
 | lst xs fl =>
  cases fl with
  | true=>cases ht
  | false =>
  cases ht
  obtain ⟨a,vs,e,q,r⟩:=hx
  subst e;cases rx
  obtain ⟨its,_,⟨o,n,h1,h2,_⟩,_⟩:=I.list q
  exact ⟨_,PySem.W.kitx_list,⟨o,h1,h2⟩,fun z=>nomatch z⟩
@[simp] def tysOf:D→Option (List String)
  | .ty n=>some [n]
  | .tup xs=>tysL xs
  | _=>none
where tysL:List D→Option (List String)
 | []=>some []
 | .ty n::r=>(tysL r).map (n::·)
 | _=>none
theorem Zi0:∀ {xs:List D} {ns:List String},tysOf.tysL xs=some ns→xs=ns.map D.ty
 | [],_,e=>by cases e;rfl
 | .ty b::r,_,e=>by
  simp only [tysOf.tysL] at e
  cases h:tysOf.tysL r with
  | none=>rw [h] at e;cases e
  | some bs=>rw [h] at e;cases e;rw [Zi0 h];rfl
 | .non::_,_,e=>nomatch e
 | .bl _::_,_,e=>nomatch e
 | .int _::_,_,e=>nomatch e
 | .str _::_,_,e=>nomatch e
 | .tup _::_,_,e=>nomatch e
 | .lst _ _::_,_,e=>nomatch e
@[simp] def isD:List D→Option D
  | [x,c]=>(tysOf c).bind fun ns=>if (∀ n∈ns,n∈ZbP) then (tyD x).map fun t=>.bl (ns.any fun n=>ZhR t n) else none
  | _=>none
def Zp2 (K:PySem.W.Frag):List V→Hp→VK→Prop:=fun vs H Q=>∃ N d c x y ns t,vs=[x,y]∧DenP K N H d x∧DenP K N H c y∧tysOf c=some ns∧(∀ n∈ns,n∈ZbP)∧tyD d=some t∧Q (.bl (ns.any fun n=>ZhR t n)) H
theorem Zjb {N:Fb} {H:Hp}:∀ {ns:List String} {vs:List V},DenL K N H (ns.map D.ty) vs→vs=ns.map V.ty
 | [],_,h=>by simpa only [List.map_nil,DenL] using h
 | b::bs,_,h=>by
  simp only [List.map_cons,DenL,Den] at h
  obtain ⟨v,r,e,hv,t⟩:=h
  subst e hv
  rw [Zjb t];rfl
theorem Zjj:∀ {ns:List String} {us:List Value},Vals (ns.map V.ty) us→us=ns.map Value.type
 | [],_,r=>by cases r;rfl
 | n::ns,_,r=>by
  cases r with
  | cons r1 r2=>cases r1;rw [Zjj r2];rfl
theorem ZdC:CallR X (.builtin "isinstance") (Zp2 X.K):=by
 intro pins s σ H xs us Q I r h
 obtain ⟨N,d,c,x,y,ns,t,rfl,hx,hy,hns,hin,ht,q⟩:=h
 obtain ⟨u,w',rfl,rx,ry⟩:=Znk r
 obtain ⟨HP,Z,p,hne⟩:=ZoW I hx rx ht
 cases c with
 | ty n =>
  cases hns
  rw [hy.ty] at ry;cases ry
  refine PySem.W.kia_one Z I.kIn p (Zkl X.K t (Zkk ht) n (hin n (by simp))) hne fun tk=>⟨.bl _,H,I.tok tk,rfl,?_⟩
  simpa using q
 | tup xs =>
  have e:=Zi0 hns
  subst e
  obtain ⟨a,vs,e,sq,dl⟩:=hy.tup
  subst e;cases ry
  obtain ⟨its,rv,⟨⟨cls,dd,data,sl⟩,h1,h2,n,h3⟩,_⟩:=I.tuple sq
  simp only at h2 h3
  subst h2 h3
  have e2:=Zjb dl
  subst e2
  have e3:=Zjj rv
  subst e3
  exact PySem.W.kia_tup Z I.kIn p h1 (Zj9 X.K (Zkk ht) ns hin) hne fun tk=>⟨.bl _,H,I.tok tk,rfl,q⟩
 | non=>cases hns
 | bl _=>cases hns
 | int _=>cases hns
 | str _=>cases hns
 | lst _=>cases hns
theorem Zgu:RcD K (Zp2 K) isD:=by
 intro N H vs ds d Q nh h e q
 unfold isD at e
 split at e
 ·next x c =>
  cases hc:tysOf c with
  | none=>rw [hc] at e;cases e
  | some ns =>
   rw [hc] at e
   simp only [Option.bind] at e
   split at e
   ·next hin =>
    cases ht:tyD x with
    | none=>rw [ht] at e;cases e
    | some t =>
     rw [ht] at e;cases e
     obtain ⟨v,w,rfl,hv,hw⟩:=Paired.two' h
     exact ⟨N,x,c,v,w,ns,t,rfl,hv,hw,hc,hin,ht,q _ H (Same.refl H) Zch⟩
   ·cases e
 ·cases e
theorem ZdO {M:Fb} {H0:Hp} {x:Str} {n:String} {pos:Pos} (hg:Gl X x) (hm:X.mg x=none) (hv:bootBuiltins x=some (.type n)) (hn:x≠"__name__":=by decide) (hd:(x==("__debug__":Str))=false:=by decide):JE X (.Name x pos) (tD K M H0 fun _=>some (.ty n)):=⟨ZhM (Zkc hg hm hv (v:=.ty n) rfl hn hd) fun _ _=>by simp only [Den]⟩
theorem ZbS {M:Fb} {H0:Hp} {x:Str} {v:V} {d:D} {pos:Pos} (hg:Gl X x) (h:∃ u,X.mg x=some u∧RelV v u) (hd:∀ N H,Den K N H d v) (hdb:(x==("__debug__":Str))=false:=by decide):JE X (.Name x pos) (tD K M H0 fun _=>some d):=⟨by
 obtain ⟨u,hm,r⟩:=h
 exact ZhM (ZcF hg hm r hdb) hd⟩
end
end L2
namespace L2
open PySem PySem.Spec PyProof.Rows
section
variable {X:Cx} {K:PySem.W.Frag} {M:Fb} {H0:Hp} {a b c e tg iter:Expr} {es:List Expr} {f g h:VE→Option D} {fa:VE→Option (List Sl)} {pos:Pos}
theorem vv (i:Nat) {x:Str} (hN:X.N[i]?=some x:=by rfl) (hv:Vis X.env.scope x:=by first | exact Or.inl rfl | exact Or.inr (Or.inl rfl) | exact Or.inr (Or.inr rfl)) (hd:(x==("__debug__":Str))=false:=by decide) (hcd:(x==("__classdict__":Str))=false:=by decide) :
  PE X (.Name x pos) (tD K M H0 fun ρ=>rdV ρ i):=ZpI hN hv hd hcd
theorem Zda (i:Nat) {x:Str} (hN:X.N[i]?=some x:=by rfl) (hv:Vis X.env.scope x:=by first | exact Or.inl rfl | exact Or.inr (Or.inl rfl) | exact Or.inr (Or.inr rfl)) (hd:(x==("__debug__":Str))=false:=by decide) (hcd:(x==("__classdict__":Str))=false:=by decide):JE X (.Name x pos) (tD K M H0 fun ρ=>rdV ρ i):=⟨vv i hN hv hd hcd⟩
theorem Zl (i:Nat) {x:Str} (hN:X.N[i]?=some x:=by rfl) (hv:Vis X.env.scope x:=by first | exact Or.inl rfl | exact Or.inr (Or.inl rfl) | exact Or.inr (Or.inr rfl)) (hd:(x==("__debug__":Str))=false:=by decide) (hcd:(x==("__classdict__":Str))=false:=by decide):JE X (.Name x pos) (tP K M H0 fun ρ=>rdP ρ i):=⟨ZoT hN hv hd hcd⟩
theorem Zph (i:Nat) {x:Str} (hN:X.N[i]?=some x:=by rfl) (hv:Vis X.env.scope x:=by first | exact Or.inl rfl | exact Or.inr (Or.inl rfl) | exact Or.inr (Or.inr rfl)) (hd:(x==("__debug__":Str))=false:=by decide) (hcd:(x==("__classdict__":Str))=false:=by decide):JE X (.Name x pos) (tQ K M H0 fun ρ=>rdQ ρ i):=⟨Zpb hN hv hd hcd⟩
theorem Zs (i:Nat) {x:Str} (hN:X.N[i]?=some x:=by rfl) (hv:Vis X.env.scope x:=by first | exact Or.inl rfl | exact Or.inr (Or.inl rfl) | exact Or.inr (Or.inr rfl)) (hd:(x==("__debug__":Str))=false:=by decide) (hcd:(x==("__classdict__":Str))=false:=by decide):JE X (.Name x pos) (tS1 K M H0 fun ρ=>rdA ρ i):=⟨Zoq hN hv hd hcd⟩
theorem Zgv (hu:X.A.units+64<cLine) (ha:JE X a (tP X.K M H0 f)) (hb:JE X b (tP X.K M H0 g)) (hm:behindInMarks .In b=false:=by with_unfolding_all rfl):JE X (.Compare a [.In] [b] pos) (tD X.K M H0 (Zd (inD false) f g)):=⟨have ha:=ha.h;have hb:=hb.h;Zo2 ((Zpd hu).or ZlC) Zqi ha hb hm⟩
theorem ZW (hu:X.A.units+64<cLine) (ha:JE X a (tP X.K M H0 f)) (hb:JE X b (tP X.K M H0 g)):JT X (.Compare a [.Eq] [b] pos) (tB' X.K M H0 fun ρ=>asB (Zd eqO f g ρ)):=⟨have ha:=ha.h;have hb:=hb.h;Zgf (ZpU hu) ZqC ha hb (ZdE _ (by decide) (by decide))⟩
theorem ZbA (hu:X.A.units+64<cLine) (ha:JE X a (tP X.K M H0 f)) (hb:JE X b (tP X.K M H0 g)):JT X (.Compare a [.NotEq] [b] pos) (tB' X.K M H0 fun ρ=>asB (Zd neO f g ρ)):=⟨have ha:=ha.h;have hb:=hb.h;Zgf (ZpQ hu) Zqx ha hb (ZdE _ (by decide) (by decide))⟩
theorem ZeC (hu:X.A.units+64<cLine) (ha:JE X a (tP X.K M H0 f)) (hb:JE X b (tP X.K M H0 g)):JT X (.Compare a [.Lt] [b] pos) (tB' X.K M H0 fun ρ=>asB (Zd ltO f g ρ)):=⟨have ha:=ha.h;have hb:=hb.h;Zgf (ZoL hu) Zqh ha hb (ZdE _ (by decide) (by decide))⟩
theorem ZeD (hu:X.A.units+64<cLine) (ha:JE X a (tP X.K M H0 f)) (hb:JE X b (tP X.K M H0 g)):JT X (.Compare a [.Gt] [b] pos) (tB' X.K M H0 fun ρ=>asB (Zd gtD f g ρ)):=⟨have ha:=ha.h;have hb:=hb.h;Zgf Zqs (Znn _) ha hb (ZdE _ (by decide) (by decide))⟩
theorem ZmD (hu:X.A.units+64<cLine) (ha:JE X a (tP X.K M H0 f)) (hb:JE X b (tP X.K M H0 g)):JT X (.Compare a [.GtE] [b] pos) (tB' X.K M H0 fun ρ=>asB (Zd geD f g ρ)):=⟨have ha:=ha.h;have hb:=hb.h;Zgf ZqB (Znn _) ha hb (ZdE _ (by decide) (by decide))⟩
@[simp] def ZrM (F F':D→D→Option D) (f g h:VE→Option D):VE→Option D:=fun ρ=>(f ρ).bind fun x=>(g ρ).bind fun y=>match F x y with
  | some (.bl true)=>(h ρ).bind fun z=>F' y z
  | some (.bl false)=>some (.bl false)
  | _=>none
@[simp] def Zae:Option D→Option Bool
  | some .non=>some false
  | some (.bl b)=>some b
  | some (.int i)=>some (i != 0)
  | some (.str y)=>if y.length≤sizeLine then some ((y.length:Int) != 0) else none
  | some (.lst xs)=>some (!xs.isEmpty)
  | some (.tup xs)=>some (!xs.isEmpty)
  | _=>none
theorem DenL.isEmpty {N:Fb} {H:Hp} {xs:List D} {vs:List V} (h:DenL K N H xs vs):vs.isEmpty=xs.isEmpty:=by
 cases xs with
 | nil=>simp only [DenL] at h;subst h;rfl
 | cons x xs=>simp only [DenL] at h;obtain ⟨_,_,e,_⟩:=h;subst e;rfl
theorem ZaE (ha:JE X a (tP X.K M H0 f)) (he:∀ whole,isTrue a X.env whole=(do let v ← whole;standAt a.pos;holding [v] (truthy v)):=by intro _;rfl):JT X a (tB' X.K M H0 fun ρ=>Zae (f ρ)):=⟨have ha:=ha.h;(ZmQ ha he).mono fun σ H Q ⟨ρ,k,R,e,q⟩=>by
  try dsimp only at e q
  unfold Zae at e
  split at e
  ·next hf=>cases e;exact ⟨ρ,_,R,hf,fun v H' s hv=>⟨_,by rw [hv.non];rfl,q H' s⟩⟩
  ·next hf=>cases e;exact ⟨ρ,_,R,hf,fun v H' s hv=>⟨_,by rw [hv.bl];rfl,q H' s⟩⟩
  ·next hf=>cases e;exact ⟨ρ,_,R,hf,fun v H' s hv=>⟨_,by rw [hv.int];rfl,q H' s⟩⟩
  ·next hf =>
   split at e
   ·next hz=>cases e;exact ⟨ρ,_,R,hf,fun v H' s hv=>⟨_,by rw [hv.str];exact ⟨hz,rfl⟩,q H' s⟩⟩
   ·cases e
  ·next hf =>
   cases e
   refine ⟨ρ,_,R,hf,fun v H' s hv=>⟨_,?_,q H' s⟩⟩
   obtain ⟨p,vs,e1,q1,r1⟩:=hv
   subst e1
   exact .inl ⟨vs,q1,by rw [r1.isEmpty]⟩
  ·next hf =>
   cases e
   refine ⟨ρ,_,R,hf,fun v H' s hv=>⟨_,?_,q H' s⟩⟩
   obtain ⟨p,vs,e1,q1,r1⟩:=hv.tup
   subst e1
   exact .inr (.inl ⟨vs,q1,by rw [r1.isEmpty]⟩)
  ·cases e⟩
@[simp] def ZL:D→Option (List D)
  | .lst xs=>some xs
  | .tup xs=>some xs
  | .str x=>some (x.cps.toList.map fun c=>D.str ⟨#[c]⟩)
  | _=>none
theorem Zah {l:Expr} (hl:JE X l (tQ X.K M H0 f)):JI X tg l (tI X.K M H0 fun ρ=>(f ρ).bind ZL):=⟨have hl:=hl.h;fun pins s σ H R' I ⟨ρ,ds,R,e,q⟩=>by
 try dsimp only at e
 cases hf:f ρ with
 | none=>rw [hf] at e;cases e
 | some d =>
  rw [hf] at e
  cases d with
  | lst xs fl =>
   cases fl with
   | true=>cases e
   | false=>exact Znw hl pins s σ H R' I ⟨ρ,ds,R,by dsimp only;rw [hf];exact e,q⟩
  | tup xs=>exact ZoE hl pins s σ H R' I ⟨ρ,ds,R,by dsimp only;rw [hf];exact e,q⟩
  | str x=>exact Zog hl pins s σ H R' I ⟨ρ,ds,R,by dsimp only;rw [hf];exact e,q⟩
  | _=>cases e⟩
@[simp] def ZsE (i:Nat) (o:Option (List D)) (ρ:VE):Res:=match rdO ρ i,o with
  | some xs,some ys=>if xs.length+ys.length≤sizeLine then .next (ρ.set i (.own (xs++ys))) else .fail
  | _,_=>.fail
@[simp] def ZsO (i:Nat) (ρ:VE):Res:=match rdO ρ i with
  | some xs=>.next (ρ.set i (.own xs.reverse))
  | _=>.fail
@[simp] def ZsI (i j:Nat) (ρ:VE):Res:=match rdO ρ j with
  | some xs=>.next ((ρ.set j .no).set i (.own xs))
  | _=>.fail
@[simp] def Zsw (i j:Nat) (ρ:VE):Res:=match rdG ρ j with
  | some xs=>.next ((ρ.set j .no).set i (.own xs true))
  | _=>.fail
end
end L2
namespace L2
theorem PSs.conv {X:Cx} {K:PySem.W.Frag} {M:Fb} {H0:Hp} {b:List PySem.Stmt} {g g':VE→Res} (h:PSs X b (tS K M H0 g)) (e:g=g'):PSs X b (tS K M H0 g'):=e ▸ h
theorem Z1 {X:Cx} {K:PySem.W.Frag} {M:Fb} {H0:Hp} {b:List PySem.Stmt} {g g':VE→Res} (h:JB X b (tS K M H0 g)) (e:g=g'):JB X b (tS K M H0 g'):=⟨PSs.conv h.h e⟩
end L2
namespace L2
theorem ZfG {X:Cx} {e:PySem.Expr} {t:TT} (h:JW X e t):JT X e t:=⟨h.h.pt⟩
end L2
namespace L2
open PySem PySem.Spec PyProof.Rows
def ZoX (ns:List Int):List Int:=ns.mergeSort fun a b=>decide (a≤b)
section
variable {X:Cx} {K:PySem.W.Frag}
def Zng:List D→Option (List D)
 | [.lst xs]=>(Ze2 xs).bind fun ns=>if ns.length<64 then some ((ZoX ns).map D.int) else none
 | _=>none
def ZsH (i:Nat) (oi ov:Option D) (ρ:VE):Res:=match rdO ρ i,oi,ov with
 | some xs,some (.int k),some d=>match ixN xs.length k with
  | some j=>.next (ρ.set i (.own (xs.set j d)))
  | none=>.fail
 | _,_,_=>.fail
def RmD (K:PySem.W.Frag) (r:V→List V→Hp→VK→Prop) (F:Str→List D→Option D):Prop:=∀ (N:Fb) (H:Hp) (z:Str) (vs:List V) (ds:List D) (d:D) (Q:VK),(∀ a,N a→H a≠none)→Paired (DenP K N H) ds vs→F z ds=some d →
 (∀ v H',Same H H'→Den K N H' d v→Q v H')→r (.str z) vs H Q
@[simp] def mtO (F:Str→List D→Option D) (f:VE→Option D) (fa:VE→Option (List Sl)):VE→Option D:=fun ρ=>match f ρ with
  | some (.str z)=>((fa ρ).bind pks).bind (F z)
  | _=>none
@[simp] def ZkC (F:Str→List D→Option D) (f:VE→Option D):VE→Option D:=fun ρ=>match f ρ with
  | some (.str z)=>F z []
  | _=>none
section
variable {M:Fb} {H0:Hp} {o e:Expr} {es:List Expr} {f:VE→Option D} {fa:VE→Option (List Sl)} {name:Str} {apos cpos:Pos} {id:String} {r:V→List V→Hp→VK→Prop} {F:Str→List D→Option D}
theorem ZbQ (pa:PlainAttrs "str") (slot:Slot "str" name id) (hty:typeOf (.builtin id)=pure (.type "method_descriptor")) (hm:MtR X id r) (hF:RmD X.K r F) (ho:JE X o (tP X.K M H0 f)) (ha:JA X (e::es) (tA' X.K M H0 fa)) (hbase:attributeBase o name X.env (eval o X.env)=eval o X.env:=by rfl) (hfew:((backTo cpos (starEach (e::es) X.env)).all (fun x=>!x.1)&&(backToKw cpos (keywordEach [] X.env)).all (fun x=>x.1.isSome)
   && decide ((e::es).length+([]:List Keyword).length+(if ([]:List Keyword).isEmpty then 0 else 1)<30))=true:=by rfl) (hline:(apos.endLine==cpos.line)=true:=by rfl) (hs:starEach (e::es) X.env=(false,eval e X.env)::starEach es X.env:=by exact Zb5 (fun _ _ z=>nomatch z)) (hplain:(backTo cpos (starEach es X.env)).any (·.1)=false:=by rfl):JE X (.Call (.Attribute o name apos) (e::es) [] cpos) (tD X.K M H0 (mtO F f fa)):=⟨have ho:=ho.h;have ha:=ha.h;(Znd pa slot hty hm ho ha hbase hfew hline hs hplain).mono fun σ H Q ⟨ρ,d,R,ex,q⟩=>by
 unfold mtO at ex
 split at ex
 ·next z hz =>
  cases hf:fa ρ with
  | none=>rw [hf] at ex;cases ex
  | some ss =>
   rw [hf] at ex
   cases hp:pks ss with
   | none=>simp only [Option.bind,hp] at ex;cases ex
   | some ds =>
    simp only [Option.bind,hp] at ex
    refine ⟨ρ,.str z,R,hz,fun v H1 s1 hv=>?_⟩
    rw [hv.str]
    refine ⟨rfl,ρ,ss,R.st s1,hf,fun vs H2 s2 h2=>?_⟩
    exact hF _ H2 z vs ds d Q ((R.st s1).st s2).nh (ZhW h2 hp) ex fun w H3 s3 hw=>q w H3 ((s1.trans s2).trans s3) hw
 ·cases ex⟩
theorem Zmu (pa:PlainAttrs "str") (slot:Slot "str" name id) (hty:typeOf (.builtin id)=pure (.type "method_descriptor")) (hm:MtR X id r) (hF:RmD X.K r F) (ho:JE X o (tP X.K M H0 f)) (hbase:attributeBase o name X.env (eval o X.env)=eval o X.env:=by rfl) (hline:(apos.endLine==cpos.line)=true:=by rfl):JE X (.Call (.Attribute o name apos) [] [] cpos) (tD X.K M H0 (ZkC F f)):=⟨have ho:=ho.h;(Zp4 pa slot hty hm ho hbase hline).mono fun σ H Q ⟨ρ,d,R,ex,q⟩=>by
 unfold ZkC at ex
 split at ex
 ·next z hz =>
  refine ⟨ρ,.str z,R,hz,fun v H1 s1 hv=>?_⟩
  rw [hv.str]
  exact ⟨rfl,hF _ H1 z [] [] d Q (R.st s1).nh .nil ex fun w H3 s3 hw=>q w H3 (s1.trans s3) hw⟩
 ·cases ex⟩
end
def Zk5:List D→Option (List Str)
 | []=>some []
 | .str b::r=>(Zk5 r).map (b::·)
 | _=>none
@[simp] theorem ZnE:∀ (ns:List Str),Zk5 (ns.map D.str)=some ns
  | []=>rfl
  | n::ns=>by simp only [List.map_cons,Zk5,ZnE ns];rfl
@[simp] def Zse (z:Str):List D→Option D
  | [.lst xs]=>(Zk5 xs).bind fun zs=>if (zs.map (·.length)).sum+zs.length * z.length≤16777216 then some (.str (Txt.join z zs)) else none
  | _=>none
@[simp] def Zsg (z:Str):List D→Option D
  | [.str y]=>some (.int (Txt.find z y))
  | _=>none
@[simp] def Zgp (z:Str):List D→Option D
  | []=>if Builtin.Str.tooLong (Txt.upper z).length=false then some (.str (Txt.upper z)) else none
  | _=>none
theorem ZmR:RmD K Zlg Zgp:=by
 intro N H z vs ds d Q nh h e q
 unfold Zgp at e
 split at e
 ·split at e
  ·next hz=>cases e;cases h;exact ⟨z,rfl,rfl,hz,q _ H (Same.refl H) ZdF⟩
  ·cases e
 ·cases e
end
end L2
namespace L2
open PySem PySem.Spec PyProof.Rows
structure ZhJ (P:Program) (w:World) (i:Addr) (fp:List Addr) (n:Nat) (is:Nat→Value→Prop) (st:Nat→Heap→Prop):Prop where
 frame:∀ k h h',st k h→(∀ b,b=i∨b∈fp→∀ o,h.get? b=some o→h'.get? b=some o)→st k h'
 lt:∀ k h,st k h→i<h.objs.size
 item:∀ (A:Around) (E:Value→Shared→Prop) (s:Shared) (k:Nat) (Q:Value→Shared→Prop),k<n→st k s.heap→(∀ v h',is k v→st (k+1) h'→Heap.SameBut i s.heap h'→Q v { s with heap:=h' })→wpAny (model P w) A (Builtin.SmallTypes.nextOf (.ref i)) Q E s
 fin:∀ (A:Around) (E:Value→Shared→Prop) (s:Shared) (k:Nat) (Q:Value→Shared→Prop),A.handled=none→n≤k→st k s.heap→(∀ h' e,Heap.ExtBut i s.heap h'→(∃ o,h'.get? e=some o∧o.cls=.type "StopIteration")→E (.ref e) { s with heap:=h' }) →
  wpAny (model P w) A (Builtin.SmallTypes.nextOf (.ref i)) Q E s
section
variable {prog:Program} {w:World} {A:Around} {E:Value→Shared→Prop} {s:Shared}
theorem Zhl {i tu:Addr} {k:Nat} {its:Array Value} {v:Value} {Q:Value→Shared→Prop} (hi:s.heap.IsTupleIter i tu k) (ht:s.heap.IsTuple tu its) (hv:its[k]?=some v)
  (q:∀ h',h'.IsTupleIter i tu (k+1)→Heap.SameBut i s.heap h'→Q v { s with heap:=h' }):wpAny (model prog w) A (Builtin.SmallTypes.nextOf (.ref i)) Q E s:=by
 obtain ⟨oi,e0,c0,f0⟩:=id hi
 obtain ⟨ot,e1,_,m1,f1⟩:=ht
 unfold Builtin.SmallTypes.nextOf
 refine wpAny_bind (wpAny_callSpecial?_slot (name:=Str.ofString "__next__") hi.typeIs PySem.F.slot_tuple_iterator_next (wpAny_call_entry PySem.F.slot_tuple_iterator_next hi.typeIs PySem.F.entry_tuple_iterator_next ?_ (PySem.F.args_tuple_iterator_next_1 _)))
 show wpAny _ _ (field (.ref i) 0 >>= _) _ _ s
 refine wpAny_bind (wpAny_field e0 f0 (x:=.ref tu) rfl ?_)
 show wpAny _ _ (if (Value.ref tu==Value.none)=true then _ else _) _ _ s
 rw [if_neg (show ¬ ((Value.ref tu==Value.none)=true) from Bool.false_ne_true)]
 show wpAny _ _ (field (.ref i) 1 >>= _) _ _ s
 refine wpAny_bind (wpAny_field e0 f0 (x:=.int k 0) rfl ?_)
 show wpAny _ _ (seqItems? (.ref tu) >>= _) _ _ s
 refine wpAny_bind (wpAny_seqItems e1 f1 ?_)
 simp only [hv,Int.toNat_natCast]
 refine wpAny_bind (wpAny_setField e0 f0 (by simp) (wpAny_pure ⟨v,rfl,wpAny_pure (q _ ?_ (Heap.SameBut.update ..))⟩))
 exact ⟨_,Heap.get?_update_self _ e0 (Obj.isFreed_of_fields (Obj.data_mapFields f0 _)),(Obj.cls_mapFields ..).trans c0,by rw [Obj.data_mapFields f0];simp [rawInt]⟩
theorem ZhP {i tu:Addr} {k:Nat} {its:Array Value} {Q:Value→Shared→Prop} (hh:A.handled=none) (hi:s.heap.IsTupleIter i tu k) (ht:s.heap.IsTuple tu its) (hv:its[k]?=none)
  (q:∀ h' e,Heap.ExtBut i s.heap h'→(∃ o,h'.get? e=some o∧o.cls=.type "StopIteration")→E (.ref e) { s with heap:=h' }):wpAny (model prog w) A (Builtin.SmallTypes.nextOf (.ref i)) Q E s:=by
 obtain ⟨oi,e0,c0,f0⟩:=id hi
 obtain ⟨ot,e1,_,m1,f1⟩:=ht
 unfold Builtin.SmallTypes.nextOf
 refine wpAny_bind (wpAny_callSpecial?_slot (name:=Str.ofString "__next__") hi.typeIs PySem.F.slot_tuple_iterator_next (wpAny_call_entry PySem.F.slot_tuple_iterator_next hi.typeIs PySem.F.entry_tuple_iterator_next ?_ (PySem.F.args_tuple_iterator_next_1 _)))
 show wpAny _ _ (field (.ref i) 0 >>= _) _ _ s
 refine wpAny_bind (wpAny_field e0 f0 (x:=.ref tu) rfl ?_)
 show wpAny _ _ (if (Value.ref tu==Value.none)=true then _ else _) _ _ s
 rw [if_neg (show ¬ ((Value.ref tu==Value.none)=true) from Bool.false_ne_true)]
 show wpAny _ _ (field (.ref i) 1 >>= _) _ _ s
 refine wpAny_bind (wpAny_field e0 f0 (x:=.int k 0) rfl ?_)
 show wpAny _ _ (seqItems? (.ref tu) >>= _) _ _ s
 refine wpAny_bind (wpAny_seqItems e1 f1 ?_)
 simp only [hv,Int.toNat_natCast]
 refine wpAny_bind (wpAny_rule (wpAny_bind (wpAny_setField e0 f0 (by simp) ?_)))
 show wpAny _ _ (newExc (.type "StopIteration") ([]:List Value) >>= _) _ _ _
 refine wpAny_bind ?_
 simp only [newTuple,newExc]
 refine wpAny_bind (wpAny_newObj_type ?_ (show (0:Nat)≤sizeLine by decide))
 refine wpAny_bind (m:=firstArgMember _ _) (wpAny_of_eq (a:=Value.none) (by first | rfl | (unfold firstArgMember;rfl)) ?_)
 refine wpAny_newObj_type ?_ (by first | trivial | (show (0:Nat)≤sizeLine;decide) | size_fits)
 unfold raiseNew
 refine wpAny_bind (wpAny_handled ?_)
 first | rw [hh] | rw [show A.in1.handled=none from hh]
 refine wpAny_bind (wpAny_pure (wpAny_throw ?_))
 exact q _ _ ((Heap.ExtBut.push (Heap.SameBut.extBut (Heap.SameBut.update ..)) _).push _) ⟨_,Heap.get?_push_size _ rfl,rfl⟩
theorem Zmg {P:Program} {w:World} {i l:Addr} (its:Array Value):ZhJ P w i [l] its.size (fun k v=>its[k]?=some v) (fun k h=>h.IsListIter i l k∧h.IsList l its) where
 frame:=fun k h h' ⟨a,b⟩ kp=>⟨a.at fun o e=>kp i (.inl rfl) o e,b.at fun o e=>kp l (.inr (by simp)) o e⟩
 lt:=fun k h ⟨⟨o,e,_⟩,_⟩=>Heap.lt_size e
 item:=fun A E s k Q hk ⟨a,b⟩ q=>wpAny_nextOf_list_item a b (Array.getElem?_eq_getElem hk) fun h' a' sb=>by
  by_cases hl:l=i
  ·subst hl
   obtain ⟨o,e,c,_⟩:=a
   obtain ⟨o',e',c',_⟩:=b
   rw [e] at e';cases e'
   rw [c] at c'
   exact absurd c' (by decide)
  ·exact q _ h' (Array.getElem?_eq_getElem hk) ⟨a',b.extBut sb.extBut hl⟩ sb
 fin:=fun A E s k Q hh hk ⟨a,b⟩ q=>wpAny_nextOf_list_end hh a b (Array.getElem?_eq_none hk) q
theorem ZnH {P:Program} {w:World} {i l:Addr} (its:Array Value):ZhJ P w i [l] its.size (fun k v=>its[k]?=some v) (fun k h=>h.IsTupleIter i l k∧h.IsTuple l its) where
 frame:=fun k h h' ⟨a,b⟩ kp=>⟨a.at fun o e=>kp i (.inl rfl) o e,b.at fun o e=>kp l (.inr (by simp)) o e⟩
 lt:=fun k h ⟨⟨o,e,_⟩,_⟩=>Heap.lt_size e
 item:=fun A E s k Q hk ⟨a,b⟩ q=>Zhl a b (Array.getElem?_eq_getElem hk) fun h' a' sb=>by
  by_cases hl:l=i
  ·subst hl
   obtain ⟨o,e,c,_⟩:=a
   obtain ⟨o',e',c',_⟩:=b
   rw [e] at e';cases e'
   rw [c] at c'
   exact absurd c' (by decide)
  ·exact q _ h' (Array.getElem?_eq_getElem hk) ⟨a',b.at fun o e=>sb.extBut _ _ hl e⟩ sb
 fin:=fun A E s k Q hh hk ⟨a,b⟩ q=>ZhP hh a b (Array.getElem?_eq_none hk) q
section
variable {z tin tout ia ib:Addr} {fa fb:List Addr} {n m k:Nat} {isA isB:Nat→Value→Prop} {sa sb:Nat→Heap→Prop} {a b:Value}
end
end
end L2
namespace L2
open PySem PySem.Spec PyProof.Rows
section
variable {X:Cx} {pins:List (Addr×Obj)} {σ:St} {H:Hp} {s:Shared} {h':Heap}
theorem Inv.turnedL {fp:List Addr} (I:Inv X pins σ H s) (hf:∀ b∈fp,Zdp X pins H b) (k:∀ b o,b∉fp→s.heap.get? b=some o→h'.get? b=some o):Inv X pins σ H { s with heap:=h' }:=by
 have nit:∀ b u,H b=some u→b∉fp:=fun b u e z=>by rw [(hf b z).1] at e;cases e
 refine I.step (g':=s.gens) (d':=s.drawn) (t':=s.toks) (ch:=fp) (fun b hb=>?_) (fun b o _ _ hc e _=>k b o hc e) (fun b o _ _ hc e _=>⟨o.slots,k b o hc e⟩) (fun _ _ _ _ n=>n)
  (fun b o hc e=>⟨o,k b o hc e⟩) (fun _ _ e=>e) (fun _ _ _ e=>e) (fun b ps e=>⟨#[],by rw [e];simp⟩) (fun m hm=>?_) (fun b u e=>?_) I.bare
 ·obtain ⟨_,f1,_,f3,f4,f5⟩:=hf b hb
  exact ⟨f3,f1,f4,f5⟩
 ·obtain ⟨o,es,ep,ho,r⟩:=hm
  exact ⟨o,es,ep,k _ o (fun z=>(hf _ z).2.1 rfl) ho,r⟩
 ·refine (I.hok b u e).stay (fun c v hc q=>k c v ?_ q) (fun _ q=>q) fun _ _ q=>q
  rcases hc with z | z
  ·rw [z];exact nit b u e
  ·exact nit c _ z
theorem Inv.yielded {fp:List Addr} {p:Addr} {vs:List V} (I:Inv X pins σ H s) (hf:∀ b∈fp,Zdp X pins H b) (k:∀ b o,b∉fp→s.heap.get? b=some o→h'.get? b=some o) (hp:s.heap.objs.size≤p)
  (new:ObjOk X.prog X.w (upd H p (.tup vs)) h' p (.tup vs)):Inv X pins σ (upd H p (.tup vs)) { s with heap:=h' }:=by
 have nit:∀ b u,H b=some u→b∉fp:=fun b u e z=>by rw [(hf b z).1] at e;cases e
 have hn:H p=none:=I.hok.fresh hp
 refine I.step (g':=s.gens) (d':=s.drawn) (t':=s.toks) (ch:=fp) (fun b hb=>?_) (fun b o _ _ hc e _=>k b o hc e) (fun b o _ _ hc e _=>⟨o.slots,k b o hc e⟩) (fun b o _ e n=>?_)
  (fun b o hc e=>⟨o,k b o hc e⟩) (fun b xs e=>?_) (fun b o u e=>?_) (fun b ps e=>⟨#[],?_⟩) (fun m hm=>?_) (fun b u e=>?_) I.bare
 ·obtain ⟨_,f1,_,f3,f4,f5⟩:=hf b hb
  exact ⟨f3,f1,f4,f5⟩
 ·rw [ZB (Nat.ne_of_lt (Nat.lt_of_lt_of_le (Heap.lt_size e) hp))];exact n
 ·rw [ZB (ZX e hn)];exact e
 ·rw [ZB (ZX e hn)];exact e
 ·rw [ZB (ZX e hn),e];simp
 ·obtain ⟨o,es,ep,ho,r⟩:=hm
  exact ⟨o,es,ep,k _ o (fun z=>(hf _ z).2.1 rfl) ho,r⟩
 ·by_cases hb:b=p
  ·subst hb;rw [Zaw] at e;cases e;exact new
  ·rw [ZB hb] at e
   refine (I.hok b u e).stay (fun c v hc q=>k c v ?_ q) (fun c q=>by rw [ZB (ZX q hn)];exact q) fun c xs q=>by rw [ZB (ZX q hn)];exact q
   rcases hc with z | z
   ·rw [z];exact nit b u e
   ·exact nit c _ z
end
inductive Src where
 | l (a:Addr)
 | t (a:Addr)
@[reducible] def Src.ad:Src→Addr
  | .l a=>a
  | .t a=>a
def Src.sq (K:PySem.W.Frag) (H:Hp):Src→List V→Prop
 | .l a=>SqL K H a
 | .t a=>SqT K H a
def Src.nm:Src→String
 | .l _=>"list_iterator"
 | .t _=>"tuple_iterator"
def Src.ok (h:Heap) (its:Array Value):Src→Prop
 | .l a=>h.IsList a its
 | .t a=>h.IsTuple a its
def Src.it (h:Heap) (i:Addr) (k:Nat):Src→Prop
 | .l a=>h.IsListIter i a k
 | .t a=>h.IsTupleIter i a k
theorem Src.of (S:Src) {X:Cx} {pins:List (Addr×Obj)} {σ:St} {H:Hp} {s:Shared} {xs:List V} (I:Inv X pins σ H s) (h:S.sq X.K H xs):∃ its:List Value,Vals xs its∧S.ok s.heap its.toArray∧xs.length≤sizeLine:=by
 cases S with
 | l a=>obtain ⟨its,r,p,z⟩:=I.list h;exact ⟨its,r,p.isList,z⟩
 | t a=>obtain ⟨its,r,p,z⟩:=I.tuple h;exact ⟨its,r,(show s.heap.IsTuple a its.toArray from p),z⟩
theorem Src.inj (S:Src) {X:Cx} {pins:List (Addr×Obj)} {σ:St} {H:Hp} {s:Shared} {xs ys:List V} (I:Inv X pins σ H s) (h:S.sq X.K H xs) (h':S.sq X.K H ys):xs=ys:=by
 cases S with
 | l a=>exact I.list_inj h h'
 | t a=>exact I.tuple_inj h h'
theorem Src.lt (S:Src) {h:Heap} {its:Array Value} (p:S.ok h its):S.ad<h.objs.size:=by
 cases S with
 | l a=>obtain ⟨o,e,_⟩:=p;exact Heap.lt_size e
 | t a=>obtain ⟨o,e,_⟩:=p;exact Heap.lt_size e
theorem Src.itAt (S:Src) {h h':Heap} {i:Addr} {n:Nat} (p:S.it h i n) (k:∀ o,h.get? i=some o→h'.get? i=some o):S.it h' i n:=by
 cases S with
 | l a=>exact Heap.IsListIter.at p k
 | t a=>exact Heap.IsTupleIter.at p k
theorem Src.itOb (S:Src) {h:Heap} {i:Addr} {n:Nat} (p:S.it h i n):∃ o,h.get? i=some o∧∀ v,o.data≠.cell v:=by
 cases S with
 | l a=>obtain ⟨o,e,c,d⟩:=p;exact ⟨o,e,fun v z=>by rw [d] at z;cases z⟩
 | t a=>obtain ⟨o,e,c,d⟩:=p;exact ⟨o,e,fun v z=>by rw [d] at z;cases z⟩
theorem Src.sub (S:Src) {P:Program} {w:World} {i:Addr} (its:Array Value):ZhJ P w i [S.ad] its.size (fun k v=>its[k]?=some v) (fun k h=>S.it h i k∧S.ok h its):=by
 cases S with
 | l a=>exact Zmg its
 | t a=>exact ZnH its
def Src.obj (S:Src):Obj:={ cls:=.type S.nm,data:=.fields #[.ref S.ad,.int 0 0] }
theorem Src.pyIter (S:Src) {prog:Program} {w:World} {A:Around} {E:Value→Shared→Prop} {s:Shared} {its:Array Value} {Q:Value→Shared→Prop} (p:S.ok s.heap its)
  (q:Q (.ref s.heap.objs.size) { s with heap:=s.heap.push S.obj }):wpAny (model prog w) A (pyIter (.ref S.ad)) Q E s:=by
 cases S with
 | l a=>exact wpAny_pyIter_list p q
 | t a=>exact wpAny_pyIter_tuple p q
theorem Src.new (S:Src) {h:Heap}:S.it (h.push S.obj) h.objs.size 0:=by
 cases S with
 | l a=>exact ⟨_,Heap.get?_push_size _ rfl,rfl,rfl⟩
 | t a=>exact ⟨_,Heap.get?_push_size _ rfl,rfl,rfl⟩
end L2
namespace L2
open PySem PySem.Spec PyProof.Rows
section
variable {prog:Program} {w:World} {A:Around} {E:Value→Shared→Prop} {s:Shared}
end
@[simp] def ZcZ:D→Option (List D)
  | .lst xs=>some xs
  | .tup xs=>some xs
  | _=>none
theorem DenQ.src {K:PySem.W.Frag} {M N:Fb} {H:Hp} {d:D} {v:V} {xs:List D} (h:DenQ K M N H d v) (e:ZcZ d=some xs) :
  ∃ (S:Src) (vs:List V),v=.ref S.ad∧DenL K N H xs vs∧∀ N2 H2,Step M N N2 H H2→S.sq K H2 vs:=by
 cases d with
 | lst ys fl =>
  cases fl with
  | true=>cases e
  | false =>
  cases e
  obtain ⟨a,vs,e1,hr,hd⟩:=h
  refine ⟨.l a,vs,e1,hd,fun N2 H2 S=>?_⟩
  rcases hr with ⟨hn,hr⟩ | hr
  ·exact .inl (hr.step S (by rcases hn with z | z;exact .inl z;exact .inr (.inl z)))
  ·exact hr.sq
 | tup ys =>
  cases e
  simp only [DenQ,Den] at h
  obtain ⟨a,vs,e1,hr,hd⟩:=h
  exact ⟨.t a,vs,e1,hd,fun N2 H2 S=>hr.step S⟩
 | _=>cases e
@[simp] def ZsF (f g:VE→Option D):VE→Option (List D):=fun ρ=>match (f ρ).bind ZcZ,(g ρ).bind ZcZ with
  | some xs,some ys=>some (List.zipWith (fun x y=>D.tup [x,y]) xs ys)
  | _,_=>none
section
variable {X:Cx} {M:Fb} {H0:Hp} {f g:VE→Option D} {a b:Expr} {elts:List Expr} {p pos tpos:Pos}
end
end L2
namespace L2
open PySem PySem.Spec PyProof.Rows
section
variable {prog:Program} {w:World} {A:Around} {E:Value→Shared→Prop} {s:Shared}
theorem Zkt (l:Addr) (items:Array Value) (n:Nat) (dct:Option Addr) (sl:Array (Option Value)) (ob:Obj) (ho:ob={ cls:=.type "list_iterator",data:=.fields #[.ref l,.int 0 0] }) :
  Meets (Builtin.«enumerate.__new__» ⟨[.type "enumerate",.ref l],[]⟩) (fun _ R s=>s.heap.get? l=some { cls:=.type "list",dict:=dct,data:=.seq items n,slots:=sl } ∧
   R (.ok (.ret (.ref (s.heap.push ob).objs.size))) { s with heap:=(s.heap.push ob).push { cls:=.type "enumerate",data:=.fields #[.none,.bool false,.ref s.heap.objs.size,rawInt 0,.none,.none] } }):=by
 subst ho;exact meets_enumerate_newL l items n dct sl
theorem ZkA (l:Addr) (items:Array Value) (n:Nat) (dct:Option Addr) (sl:Array (Option Value)) :
  Meets (Builtin.«enumerate.__new__» ⟨[.type "enumerate",.ref l],[]⟩) (fun _ R s=>s.heap.get? l=some { cls:=.type "tuple",dict:=dct,data:=.seq items n,slots:=sl } ∧
   R (.ok (.ret (.ref (s.heap.push (Src.obj (.t l))).objs.size))) { s with heap:=(s.heap.push (Src.obj (.t l))).push { cls:=.type "enumerate",data:=.fields #[.none,.bool false,.ref s.heap.objs.size,rawInt 0,.none,.none] } }) :=
 .of_wp fun prog w A R s h=>by
  obtain ⟨hp,g,d,tk,os⟩:=s;obtain ⟨e,q⟩:=h
  have hs:=sub_enumerate
  have hL:Src.ok (Shared.heap ⟨hp,g,d,tk,os⟩) items (.t l):=⟨_,e,rfl,n,rfl⟩
  have hI:∀ {prog:Program} {w:World} {A:Around} {E:Value→Shared→Prop} {Q:Value→Shared→Prop},Q (.ref hp.objs.size) ⟨hp.push (Src.obj (.t l)),g,d,tk,os⟩→wpAny (model prog w) A (pyIter (.ref l)) Q E ⟨hp,g,d,tk,os⟩:=fun q=>Src.pyIter (.t l) hL q
  wp_walk using AutoSeq1.wpAny_loadPart' e
  refine wpAny_stack_any fun st=>wpAny_pure ?_
  split
  ·rename_i c _ _ _ _ _
   cases (c==Value.type "enumerate")
   ·wp_walk using AutoSeq1.wpAny_loadPart' e,hI
    exact ⟨_,rfl,q⟩
   ·wp_walk using AutoSeq1.wpAny_loadPart' e,hI
    exact ⟨_,rfl,q⟩
  ·wp_walk using AutoSeq1.wpAny_loadPart' e,hI
   exact ⟨_,rfl,q⟩
theorem Zl5 {S:Src} {items:Array Value} {Q:Value→Shared→Prop} (p:S.ok s.heap items)
  (q:∀ h',IsEnum h' (s.heap.objs.size+1) s.heap.objs.size 0 .none→S.it h' s.heap.objs.size 0→(∀ b o,s.heap.get? b=some o→h'.get? b=some o)→Q (.ref (s.heap.objs.size+1)) { s with heap:=h' }) :
  wpAny (model prog w) A (call (.type "enumerate") [.ref S.ad]) Q E s:=by
 have hz:(s.heap.push S.obj).objs.size=s.heap.objs.size+1:=Heap.size_push ..
 have he:IsEnum ((s.heap.push S.obj).push { cls:=.type "enumerate",data:=.fields #[.none,.bool false,.ref s.heap.objs.size,rawInt 0,.none,.none] }) (s.heap.objs.size+1) s.heap.objs.size 0 .none:=by
  have:=Heap.get?_push_size (s.heap.push S.obj) (o:={ cls:=.type "enumerate",data:=.fields #[.none,.bool false,.ref s.heap.objs.size,rawInt 0,.none,.none] }) rfl
  rw [hz] at this;exact this
 have fin:(s.TypeIs (.ref 0) "x"→True):=fun _=>trivial
 have last:=q _ he (S.itAt (S.new (h:=s.heap)) fun o e=>Heap.get?_push_of_some _ e) fun b o e=>Heap.get?_push_of_some _ (Heap.get?_push_of_some _ e)
 cases S with
 | l a =>
  obtain ⟨⟨c,dct,dt,sl⟩,hl,hc,n,hd⟩:=p
  replace hc:c=.type "list":=hc
  replace hd:dt=.seq items n:=hd
  subst hc hd
  refine callType_new PySem.F.called_enumerate (by decide) (PySem.F.typeCall_enumerate_1 _) (PySem.F.newCall_enumerate_1 _) (fun obj=>PySem.F.args_object_init_2 obj _) PySem.F.entry_enumerate_new (Zkt a items n dct sl (Src.obj (.l a)) rfl) ⟨hl,?_⟩
  show _∧_
  rw [hz]
  exact ⟨⟨_,he,rfl⟩,last⟩
 | t a =>
  obtain ⟨⟨c,dct,dt,sl⟩,hl,hc,n,hd⟩:=p
  replace hc:c=.type "tuple":=hc
  replace hd:dt=.seq items n:=hd
  subst hc hd
  refine callType_new PySem.F.called_enumerate (by decide) (PySem.F.typeCall_enumerate_1 _) (PySem.F.newCall_enumerate_1 _) (fun obj=>PySem.F.args_object_init_2 obj _) PySem.F.entry_enumerate_new (ZkA a items n dct sl) ⟨hl,?_⟩
  show _∧_
  rw [hz]
  exact ⟨⟨_,he,rfl⟩,last⟩
section
variable {e it:Addr} {fa:List Addr} {n k:Nat} {isA:Nat→Value→Prop} {sa:Nat→Heap→Prop} {old:Value}
theorem ZlT {Q:Option Value→Shared→Prop} (SA:ZhJ prog w it fa n isA sa) (he:IsEnum s.heap e it k old) (ha:sa k s.heap) (kn:k<n) (hne:e≠it) (hfe:e∉fa)
  (q:∀ x h',isA k x→IsEnumOut h' e it ((k:Int)+1) x s.heap.objs.size→sa (k+1) h'→h'.get? s.heap.objs.size=some { cls:=.type "tuple",data:=.seq #[.int k s.toks,x] } →
   (∀ b o,b≠e→b≠it→s.heap.get? b=some o→h'.get? b=some o)→Q (some (.ref s.heap.objs.size)) { s with heap:=h',toks:=s.toks+1 }) :
  wpAny (model prog w) A (pyNext (.ref e)) Q E s:=by
 obtain ⟨hp,g,d,tk,os⟩:=s
 have ty:Shared.TypeIs ⟨hp,g,d,tk,os⟩ (.ref e) "enumerate":=⟨_,he,rfl⟩
 unfold pyNext
 refine wpAny_bind (wpAny_attempt (wpAny_callSpecial?_slot (name:=Str.ofString "__next__") ty PySem.F.slot_enumerate_next (wpAny_call_entry PySem.F.slot_enumerate_next ty PySem.F.entry_enumerate_next ?_ (PySem.F.args_enumerate_next_1 _))))
 have fr:∀ {h h':Heap},sa (k+1) h→(∀ b o,b≠e→h.get? b=some o→h'.get? b=some o)→sa (k+1) h':=fun st kp=>SA.frame _ _ _ st fun b hb o x=>kp b o (by
  rcases hb with rfl | hb
  ·exact Ne.symm hne
  ·intro z;subst z;exact hfe hb) x
 show wpAny _ _ (field (.ref e) 2 >>= _) _ _ _
 refine wpAny_bind (wpAny_field he rfl (x:=.ref it) rfl ?_)
 refine wpAny_bind (SA.item _ _ _ k _ kn ha fun x h1 hx a1 s1=>?_)
 replace s1:Heap.SameBut it hp h1:=s1
 have e1:IsEnum h1 e it k old:=(s1.2 e hne).trans he
 show wpAny _ _ (field (.ref e) 3 >>= _) _ _ ⟨h1,g,d,tk,os⟩
 refine wpAny_bind (wpAny_field e1 rfl (x:=rawInt k) rfl ?_)
 show wpAny _ _ (field (.ref e) 4 >>= _) _ _ ⟨h1,g,d,tk,os⟩
 refine wpAny_bind (wpAny_field e1 rfl (x:=.none) rfl ?_)
 show wpAny _ _ (mkInt k >>= _) _ _ ⟨h1,g,d,tk,os⟩
 refine wpAny_bind (wpAny_mkInt ?_)
 show wpAny _ _ (setField (.ref e) 3 (rawInt ((k:Int)+1)) >>= _) _ _ ⟨h1,g,d,tk+1,os⟩
 refine wpAny_bind (wpAny_setField_rec e1 (by simp) fun h2 e2 s2=>?_)
 replace s2:Heap.SameBut e h1 h2:=s2
 replace e2:IsEnum h2 e it ((k:Int)+1) old:=e2
 show wpAny _ _ (setField (.ref e) 4 .none >>= _) _ _ ⟨h2,g,d,tk+1,os⟩
 refine wpAny_bind (wpAny_setField_rec e2 (by simp) fun h3 e3 s3=>?_)
 replace s3:Heap.SameBut e h2 h3:=s3
 replace e3:IsEnum h3 e it ((k:Int)+1) old:=e3
 show wpAny _ _ (newTuple [.int k tk,x] >>= _) _ _ ⟨h3,g,d,tk+1,os⟩
 refine wpAny_bind (wpAny_newTuple ?_)
 have sz:h3.objs.size=hp.objs.size:=by rw [s3.1,s2.1,s1.1]
 have el:e<hp.objs.size:=Heap.lt_size he
 have e4:IsEnum (h3.push { cls:=.type "tuple",data:=.seq #[.int k tk,x] }) e it ((k:Int)+1) old:=Heap.get?_push_of_some _ e3
 have t4:(h3.push { cls:=.type "tuple",data:=.seq #[.int k tk,x] }).get? hp.objs.size=some { cls:=.type "tuple",data:=.seq #[.int k tk,x] }:=by rw [← sz];exact Heap.get?_push_size _ rfl
 have k4:∀ b o,b≠e→b≠it→hp.get? b=some o→(h3.push { cls:=.type "tuple",data:=.seq #[.int k tk,x] }).get? b=some o:=fun b o he hi hb =>
  Heap.get?_push_of_some _ (s3.extBut b o he (s2.extBut b o he (s1.extBut b o hi hb)))
 have a4:sa (k+1) (h3.push { cls:=.type "tuple",data:=.seq #[.int k tk,x] }):=fr a1 fun b o hb z=>Heap.get?_push_of_some _ (s3.extBut b o hb (s2.extBut b o hb z))
 generalize (h3.push { cls:=.type "tuple",data:=.seq #[.int k tk,x] })=h4 at e4 t4 k4 a4 ⊢
 show wpAny _ _ (Builtin.SmallTypes.ownedTupleIsFree (.ref e) >>= _) _ _ ⟨h4,g,d,tk+1,os⟩
 rw [sz]
 refine wpAny_bind ?_
 unfold Builtin.SmallTypes.ownedTupleIsFree
 refine wpAny_bind (wpAny_field e4 rfl (x:=.none) rfl (wpAny_pure ?_))
 rw [if_pos rfl]
 refine wpAny_bind (wpAny_rule ?_)
 refine wpAny_bind (wpAny_field e4 rfl (x:=old) rfl ?_)
 refine wpAny_bind (wpAny_setField_rec e4 (by simp) fun h5 e5 s5=>?_)
 replace s5:Heap.SameBut e h4 h5:=s5
 replace e5:IsEnum h5 e it ((k:Int)+1) x:=e5
 show wpAny _ _ (Builtin.SmallTypes.ownedTupleHandOut (.ref e) (.ref hp.objs.size) >>= _) _ _ ⟨h5,g,d,tk+1,os⟩
 refine wpAny_bind ?_
 unfold Builtin.SmallTypes.ownedTupleHandOut
 refine wpAny_bind (wpAny_setField_rec e5 (by simp) fun h6 e6 s6=>?_)
 replace s6:Heap.SameBut e h5 h6:=s6
 replace e6:IsEnumOut h6 e it ((k:Int)+1) x hp.objs.size:=e6
 refine wpAny_setField_rec e6 (by simp) fun h7 e7 s7=>?_
 replace s7:Heap.SameBut e h6 h7:=s7
 replace e7:IsEnumOut h7 e it ((k:Int)+1) x hp.objs.size:=e7
 have up:∀ b o,b≠e→h4.get? b=some o→h7.get? b=some o:=fun b o hb z=>s7.extBut b o hb (s6.extBut b o hb (s5.extBut b o hb z))
 refine wpAny_bind (wpAny_letGo (wpAny_pure ⟨_,rfl,wpAny_pure (q x h7 hx e7 (fr a4 up) (up _ _ (Nat.ne_of_gt el) t4) fun b o he hi z=>up b o he (k4 b o he hi z))⟩))
theorem Zmn {Q:Option Value→Shared→Prop} (hh:A.handled=none) (SA:ZhJ prog w it fa n isA sa) (he:IsEnum s.heap e it k old) (ha:sa k s.heap) (kn:n≤k)
  (q:∀ h',Heap.ExtBut it s.heap h'→Q none { s with heap:=h' }):wpAny (model prog w) A (pyNext (.ref e)) Q E s:=by
 have ty:s.TypeIs (.ref e) "enumerate":=⟨_,he,rfl⟩
 unfold pyNext
 refine wpAny_bind (wpAny_attempt (wpAny_callSpecial?_slot (name:=Str.ofString "__next__") ty PySem.F.slot_enumerate_next (wpAny_call_entry PySem.F.slot_enumerate_next ty PySem.F.entry_enumerate_next ?_ (PySem.F.args_enumerate_next_1 _))))
 show wpAny _ _ (field (.ref e) 2 >>= _) _ _ _
 refine wpAny_bind (wpAny_field he rfl (x:=.ref it) rfl ?_)
 refine wpAny_bind (SA.fin _ _ _ k _ (by first | exact hh | simpa using hh) kn ha fun h' x e' hx=>?_)
 obtain ⟨o,ho,hc⟩:=hx
 exact wpAny_bind (wpAny_isInstance (T:="StopIteration") (b:=true) ⟨o,ho,hc⟩ isSubtype_stop (wpAny_pure (q _ e')))
theorem ZnG {elts:List Expr} {x1} {pos:Pos} {i:Int} {v:Value} {T:Addr} {Q:Unit→Shared→Prop} (hz:IsEnumOut s.heap e it i v T)
  (q:∀ h',IsEnum h' e it i v→Heap.SameBut e s.heap h'→Q () { s with heap:=h' }):wpAny (model prog w) A (letOwnedTupleGo (.Tuple elts x1 pos) (.ref e) (.ref T)) Q E s:=by
 unfold letOwnedTupleGo
 refine wpAny_bind (wpAny_load hz ?_)
 show wpAny _ _ (if (["enumerate","zip","dict_itemiterator","dict_reverseitemiterator","odict_iterator","itertools.zip_longest","itertools.pairwise"].contains "enumerate"&&(#[rawInt T,.bool false,.ref it,rawInt i,.none,v]:Array Value)[0]?==some (rawInt T))=true then _ else _) Q E s
 rw [if_pos (by simp)]
 refine wpAny_bind (wpAny_rule ?_)
 show wpAny _ _ (setField (.ref e) 0 .none) Q E s
 exact wpAny_setField_rec hz (by simp) fun h' z sb=>q h' z sb
end
end
def Ite (K:PySem.W.Frag) (S:Src):It :=
 ⟨fun i H=>∃ xs x,S.sq K H xs∧xs[i]?=some x,
  fun i H v H'=>∃ p x,v=.ref p∧H p=none∧H'=upd H p (.tup [.int i,x])∧(∀ xs,S.sq K H xs→xs[i]?=some x),
  fun i H=>∃ xs,S.sq K H xs∧xs.length≤i⟩
theorem ZlF {P:Program} {w:World} {K:PySem.W.Frag} {elts:List Expr} {x1} {pos:Pos} (S:Src) (n:Nat) (h1:S.ad<n) :
  ZfK P w K (.Tuple elts x1 pos) (Ite K S) [n+1,n] (n+1) (fun i h=>(∃ old,IsEnum h (n+1) n i old)∧S.it h n i) where
 mem:=by simp
 obj:=fun i h ⟨⟨x,z⟩,c⟩ q hq=>by
  simp only [List.mem_cons,List.not_mem_nil,or_false] at hq
  rcases hq with rfl | rfl
  ·exact ⟨_,z,fun v e=>nomatch (show Data.fields _=Data.cell v from e)⟩
  ·exact S.itOb c
 keep:=fun i h h' ⟨⟨x,z⟩,c⟩ k=>⟨⟨x,k _ (by simp) _ z⟩,S.itAt c fun o e=>k _ (by simp) o e⟩
 item:=by
  intro X hP hw hK hc i pins s σ H E I hf ⟨⟨old,z⟩,c⟩ ⟨xs,x,hx,ex⟩
  subst hP hw hK
  obtain ⟨its,r1,o1,_⟩:=S.of I hx
  obtain ⟨u1,e1,ru1⟩:=r1.get ex
  have l1:=(List.getElem?_eq_some_iff.mp e1).1
  have hlt:n+1<s.heap.objs.size:=Heap.lt_size z
  have nea:S.ad≠(n+1:Nat):=fun e=>absurd (show @LT.lt Nat _ S.ad n from h1) (by rw [e];show ¬ @LT.lt Nat _ _ _;omega)
  refine ZlT (S.sub (P:=X.prog) (w:=X.w) its.toArray) z ⟨c,o1⟩ (by simpa using l1) (by (show @Ne Nat _ _;omega)) (fun z=>nea (List.mem_singleton.mp z).symm) fun x' h' hx' z' ⟨c',_⟩ new kp=>?_
  have hx1:x'=u1:=by simp [e1] at hx';exact hx'.symm
  subst hx1
  refine ⟨_,rfl,ZnG (s:={ s with heap:=h',toks:=s.toks+1 }) z' fun h2' z2 sb=>?_⟩
  have up:∀ q o,q≠n+1→h'.get? q=some o→h2'.get? q=some o:=fun q o hq e=>sb.extBut _ _ hq e
  have I1:Inv X pins σ (upd H s.heap.objs.size (.tup [.int i,x])) { s with heap:=h2' }:=by
   refine I.yielded hf (fun q o hq e=>up q o (fun z=>hq (by simp [z])) (kp q o (fun z=>hq (by simp [z])) (fun z=>hq (by simp [z])) e)) (Nat.le_refl _) ?_
   exact ⟨show 2≤sizeLine by decide,[.int i s.toks,x'],.cons ⟨_,rfl⟩ (.cons ru1 .nil),⟨_,up _ _ (by (show @Ne Nat _ _;omega)) new,rfl,_,rfl⟩⟩
  refine ⟨.ref s.heap.objs.size,_,I1.tok (s.toks+1),rfl,⟨_,x,rfl,I.hok.fresh (Nat.le_refl _),rfl,fun zs hz=>by rw [S.inj I hz hx];exact ex⟩,⟨⟨x',?_⟩,S.itAt c' fun o e=>up _ o (by (show @Ne Nat _ _;omega)) e⟩,fun q hq=>?_⟩
  ·have:((i+1:Nat):Int)=(i:Int)+1:=by omega
   show IsEnum h2' (n+1) n ((i+1:Nat):Int) x'
   rw [this]
   exact z2
  rw [ZB]
  ·exact (hf q hq).1
  ·simp only [List.mem_cons,List.not_mem_nil,or_false] at hq
   rcases hq with rfl | rfl<;>(show @Ne Nat _ _;omega)
 done:=by
  intro X hP hw hK hc i pins s σ H E I hf ⟨⟨old,z⟩,c⟩ ⟨xs,hx,hl⟩
  subst hP hw hK
  obtain ⟨its,r1,o1,_⟩:=S.of I hx
  have q1:=r1.length
  refine Zmn (I.ok.hd hc) (S.sub (P:=X.prog) (w:=X.w) its.toArray) z ⟨c,o1⟩ (by simp only [List.size_toArray];omega) fun h' kp=>⟨rfl,I.turnedL hf fun q o hq e=>kp q o (fun z=>hq (by simp [z])) e⟩
 self:=fun _ _ _ _ _ ⟨⟨_,z⟩,_⟩ q=>wpAny_pyIter_enum z q
theorem Zk3:bootBuiltins "enumerate"=some (.type "enumerate"):=by decide +kernel
def Zdi:Nat→List D→List D
 | _,[]=>[]
 | k,d::ds=>.tup [.int k,d]::Zdi (k+1) ds
theorem Zih:∀ (xs:List D) (k:Nat),(Zdi k xs).length=xs.length
 | [],_=>rfl
 | _::xs,k=>by simp [Zdi,Zih xs]
theorem Zie:∀ (xs:List D) (k i:Nat),(Zdi k xs)[i]?=(xs[i]?).map fun d=>D.tup [.int ((k+i:Nat):Int),d]
 | [],_,_=>by simp [Zdi]
 | x::xs,k,0=>by simp [Zdi]
 | x::xs,k,i+1=>by
  simp only [Zdi,List.getElem?_cons_succ,Zie xs]
  rw [show k+1+i=k+(i+1) by omega]
@[simp] def ZiO (f:VE→Option D):VE→Option (List D):=fun ρ=>match (f ρ).bind ZcZ with
  | some xs=>some (Zdi 0 xs)
  | none=>none
theorem ZnO {K:PySem.W.Frag} {M N:Fb} {H:Hp} {S:Src} {xs:List D} {us:List V} (h1:DenL K N H xs us) (q1:∀ N2 H2,Step M N N2 H H2→S.sq K H2 us):ZkM K M N H (Ite K S) (Zdi 0 xs):=fun N2 H2 St i=>by
 have s1:=q1 _ _ St
 have d1:=DenL.step St _ _ h1
 refine ⟨fun d he=>?_,fun he=>⟨us,s1,?_⟩⟩
 ·rw [Zie] at he
  cases ex:xs[i]? with
  | none=>rw [ex] at he;cases he
  | some x =>
   rw [ex] at he;cases he
   obtain ⟨u,eu,du⟩:=d1.get ex
   refine ⟨⟨us,u,s1,eu⟩,fun z H3 ⟨p,u',e1,hp,e3,w1⟩=>?_⟩
   have:=w1 us s1;rw [eu] at this;cases this
   subst e1 e3
   refine ⟨Zmo hp,ZfD hp (DenL.cons ?_ (DenL.cons du DenL.nil))⟩
   simp [Den]
 ·have l1:=h1.length
  rw [Zih] at he
  omega
section
variable {X:Cx} {M:Fb} {H0:Hp} {f:VE→Option D} {a:Expr} {elts:List Expr} {p pos tpos:Pos}
theorem Zln {x1} (hg:Gl X "enumerate") (hm:X.mg "enumerate"=none) (ha:JE X a (tQ X.K M H0 f)) (hs:starEach [a] X.env=[(false,eval a X.env)]:=by rfl) (hs3:starEach [] X.env=[]:=by rfl) :
  JI X (.Tuple elts x1 tpos) (.Call (.Name "enumerate" p) [a] [] pos) (tI X.K M H0 (ZiO f)):=⟨have ha:=ha.h;by
 intro pins s σ H Q I ⟨ρ,ds,R,e,q⟩
 unfold ZiO at e
 split at e
 ·next xs ex =>
  cases e
  cases hf:f ρ with
  | none=>rw [hf] at ex;cases ex
  | some d1 =>
   rw [hf] at ex
   have PA2:=Zfl ha pa_nil (by rw [hs,hs3])
   refine Call_ (Ze7 I hg hm Zk3 (PyProof.Rows.callWith_type1 (thn (PA2 pos pins s σ H (fun vs H2=>∃ S us,vs=[.ref (Src.ad S)]∧Same H H2∧DenL X.K (Nf M ρ σ) H2 xs us∧(∀ N2 H3,Step M (Nf M ρ σ) N2 H2 H3→S.sq X.K H3 us)) I ?_) fun us s1 ⟨vs,H1,I1,r1,q1⟩=>?_) hs rfl))
   ·refine ⟨ρ,d1,R,hf,fun v1 H1 z1 q1=>?_⟩
    obtain ⟨S,us,e1,dl1,k1⟩:=q1.src ex
    exact ⟨S,us,by rw [e1],z1,dl1,k1⟩
   ·obtain ⟨S,us',e1,z,dl1,k1⟩:=q1
    subst e1
    cases r1 with
    | cons r rr =>
     cases rr
     cases r
     obtain ⟨its,v1,o1,_⟩:=S.of I1 (k1 _ _ Step.refl)
     refine Zl5 o1 fun h' a1 a4 kp=>wpAny_pyIter_enum a1 ?_
     refine ⟨_,_,_,_,H1,rfl,I1.kept (t':=s1.toks) kp,ZlF S s1.heap.objs.size (S.lt o1),⟨⟨_,a1⟩,a4⟩,fun b hb=>?_,q _ _ z (ZnO dl1 k1)⟩
     have hl:s1.heap.objs.size≤b:=by
      simp only [List.mem_cons,List.not_mem_nil,or_false] at hb
      rcases hb with rfl | rfl<;>(show @LE.le Nat _ _ _;omega)
     exact I1.fpOk hl (I1.hok.fresh hl)
 ·cases e⟩
end
end L2
namespace L2
open PySem PySem.Spec PyProof.Rows
abbrev T3:=KT×V×V
def Znp:List T3→List V
 | []=>[]
 | t::r=>t.2.1::t.2.2::Znp r
def Zf3:List T3→KT→Option V
 | [],_=>none
 | t::r,k=>if t.1=k then some t.2.2 else Zf3 r k
def ZfY:List T3→KT→V→List T3
 | [],_,_=>[]
 | t::r,k,v=>(if t.1=k then (t.1,t.2.1,v) else t)::ZfY r k v
def ZhY (tr:List T3) (k:KT) (kv v:V):List T3:=if (Zf3 tr k).isSome=true then ZfY tr k v else tr++[(k,kv,v)]
abbrev RA:List T3→List (At×Value)→Prop:=Paired fun t u=>t.1=.at u.1∧t.2.1=atV u.1∧RelV t.2.2 u.2
theorem RA.val:∀ {tr:List T3} {us:List (At×Value)},RA tr us→∀ a,RelO (Zf3 tr (.at a)) (valueAt us a)
 | _,_,.nil,_=>True.intro
 | t::r,u::us,.cons ⟨h1,h2,h3⟩ hr,a=>by
  have ih:=RA.val hr a
  unfold Zf3 valueAt
  rw [h1,List.find?_cons]
  by_cases e:u.1=a
  ·rw [if_pos (by rw [e])];simp only [e,decide_true];exact h3
  ·rw [if_neg (fun z=>e (KT.at.inj z))];simp only [e,decide_false];exact ih
theorem RelO.isS:∀ {o:Option V} {u:Option Value},RelO o u→o.isSome=u.isSome
 | some _,some _,_=>rfl
 | none,none,_=>rfl
 | some _,none,h=>h.elim
 | none,some _,h=>h.elim
theorem RA.rep {a:At} {v:V} {u:Value} (rv:RelV v u):∀ {tr:List T3} {us:List (At×Value)},RA tr us→RA (ZfY tr (.at a) v) (us.map fun kv=>if kv.1=a then (kv.1,u) else kv)
 | _,_,.nil=>.nil
 | t::r,w::us,.cons ⟨h1,h2,h3⟩ hr=>by
  have ih:=RA.rep (a:=a) rv hr
  unfold ZfY
  rw [List.map_cons]
  refine .cons ?_ ih
  by_cases e:w.1=a
  ·rw [if_pos (by rw [h1,e]),if_pos e];exact ⟨h1,h2,rv⟩
  ·rw [if_neg (fun z=>e (KT.at.inj (h1.symm.trans z))),if_neg e];exact ⟨h1,h2,h3⟩
theorem Paired.snoc' {α β:Type} {F:α→β→Prop} {x:α} {y:β} (h:F x y):∀ {l:List α} {m:List β},Paired F l m→Paired F (l++[x]) (m++[y])
 | _,_,.nil=>.cons h .nil
 | _,_,.cons r t=>.cons r (Paired.snoc' h t)
theorem Znx {us:List (At×Value)} {a:At}:(us.any fun kv=>decide (kv.1=a))=(valueAt us a).isSome:=by
 unfold valueAt
 rw [Option.isSome_map]
 induction us with
 | nil=>rfl
 | cons x r ih =>
  rw [List.any_cons,List.find?_cons]
  cases decide (x.1=a) with
  | true=>rfl
  | false=>simpa using ih
theorem RA.put {tr:List T3} {us:List (At×Value)} {a:At} {v:V} {u:Value} (h:RA tr us) (rv:RelV v u):RA (ZhY tr (.at a) (atV a) v) (stored us a u):=by
 unfold ZhY stored
 rw [Znx,(h.val a).isS]
 by_cases e:(valueAt us a).isSome=true
 ·rw [if_pos e,if_pos e];exact h.rep rv
 ·rw [if_neg e,if_neg e];exact Paired.snoc' ⟨rfl,rfl,rv⟩ h
theorem RA.fst:∀ {tr:List T3} {us:List (At×Value)},RA tr us→tr.map (·.1)=(us.map (·.1)).map KT.at
 | _,_,.nil=>rfl
 | t::r,u::us,.cons ⟨h1,_,_⟩ hr=>by rw [List.map_cons,List.map_cons,List.map_cons,h1,RA.fst hr]
abbrev RT:List T3→List (List At×Addr×Value)→Prop:=Paired fun t u=>t.1=.tup u.1∧t.2.1=.ref u.2.1∧RelV t.2.2 u.2.2
theorem RT.val:∀ {tr:List T3} {us:List (List At×Addr×Value)},RT tr us→∀ l,RelO (Zf3 tr (.tup l)) ((atKey us l).map (·.2))
 | _,_,.nil,_=>True.intro
 | t::r,u::us,.cons ⟨h1,h2,h3⟩ hr,l=>by
  have ih:=RT.val hr l
  unfold Zf3 atKey
  rw [h1,List.find?_cons]
  by_cases e:u.1=l
  ·rw [if_pos (by rw [e])];simp only [e,decide_true];exact h3
  ·rw [if_neg (fun z=>e (KT.tup.inj z))];simp only [e,decide_false];exact ih
theorem RT.rep {l:List At} {v:V} {u:Value} (rv:RelV v u):∀ {tr:List T3} {us:List (List At×Addr×Value)},RT tr us→RT (ZfY tr (.tup l) v) (us.map (putAt l u))
 | _,_,.nil=>.nil
 | t::r,w::us,.cons ⟨h1,h2,h3⟩ hr=>by
  have ih:=RT.rep (l:=l) rv hr
  unfold ZfY
  rw [List.map_cons]
  refine .cons ?_ ih
  unfold putAt
  by_cases e:w.1=l
  ·rw [if_pos (by rw [h1,e]),if_pos e];exact ⟨h1,h2,rv⟩
  ·rw [if_neg (fun z=>e (KT.tup.inj (h1.symm.trans z))),if_neg e];exact ⟨h1,h2,h3⟩
theorem RT.put {tr:List T3} {us:List (List At×Addr×Value)} {l:List At} {p:Addr} {v:V} {u:Value} (h:RT tr us) (rv:RelV v u):RT (ZhY tr (.tup l) (.ref p) v) (storedH us l p u):=by
 unfold ZhY storedH
 have e0:=(h.val l).isS
 rw [Option.isSome_map] at e0
 rw [e0]
 by_cases e:(atKey us l).isSome=true
 ·rw [if_pos e,if_pos e];exact h.rep rv
 ·rw [if_neg e,if_neg e];exact Paired.snoc' ⟨rfl,rfl,rv⟩ h
theorem RT.fst:∀ {tr:List T3} {us:List (List At×Addr×Value)},RT tr us→tr.map (·.1)=(us.map (·.1)).map KT.tup
 | _,_,.nil=>rfl
 | t::r,u::us,.cons ⟨h1,_,_⟩ hr=>by rw [List.map_cons,List.map_cons,List.map_cons,h1,RT.fst hr]
def ZqX (K:PySem.W.Frag) (H:Hp):KT→V→Prop
 | .at a,v=>v=atV a
 | .tup l,v=>∃ p,v=.ref p∧SqT K H p (l.map atV)
def IsDc (K:PySem.W.Frag) (H:Hp) (a:Addr) (tr:List T3):Prop:=Rd H a (.dct (tr.map (·.1)) (Znp tr))∧∀ t∈tr,ZqX K H t.1 t.2.1
section
variable {X:Cx} {pins:List (Addr×Obj)} {σ:St} {H:Hp} {s:Shared} {a p:Addr} {y v:V} {u r:Value} {o:Option V} {A:Around} {E:Value→Shared→Prop} {tr:List T3} {k:KT}
end
end L2
namespace PySem
section
variable {prog:Program} {w:World} {K:Type} [DecidableEq K] {knd:HeapKind prog w K} {A:Around} {E:Value→Shared→Prop} {s:Shared}
end
end PySem
namespace L2
open PySem PySem.Spec PyProof.Rows
theorem IsDc.typeIs {X:Cx} {pins:List (Addr×Obj)} {σ:St} {H:Hp} {s:Shared} {a:Addr} {tr:List T3} (I:Inv X pins σ H s) (h:IsDc X.K H a tr):s.TypeIs (.ref a) "dict":=by
 obtain ⟨_,_,_,o,_,_,e,c,_⟩:=h.1.ok I.hok
 exact ⟨o,e,c.1⟩
section
variable {X:Cx}
end
def okA:D→Option At
 | .non=>some .non
 | .int i=>some (.int i)
 | .str x=>some (.str x)
 | _=>none
def Zjp:List D→Option (List At)
 | []=>some []
 | d::r=>(okA d).bind fun a=>(Zjp r).map (a::·)
def okK:D→Option KT
 | .tup l=>(Zjp l).map KT.tup
 | d=>(okA d).map KT.at
def aD:At→D
 | .non=>.non
 | .int i=>.int i
 | .str x=>.str x
def kD:KT→D
 | .at a=>aD a
 | .tup l=>.tup (l.map aD)
theorem Zpm (a:At):okA (aD a)=some a:=by cases a<;>rfl
theorem Zjx:∀ (l:List At),Zjp (l.map aD)=some l
 | []=>rfl
 | a::l=>by rw [List.map_cons];unfold Zjp;rw [Zpm,Zjx l];rfl
@[simp] theorem ZpZ (k:KT):okK (kD k)=some k:=by
  cases k with
  | «at» a=>cases a<;>rfl
  | tup l=>show (Zjp (l.map aD)).map KT.tup=_;rw [Zjx];rfl
@[simp] theorem Zru:okK .non=some (.at .non):=rfl
@[simp] theorem Zry (i:Int):okK (.int i)=some (.at (.int i)):=rfl
@[simp] theorem Zrw (x:Str):okK (.str x)=some (.at (.str x)):=rfl
abbrev KDs:=List (KT×D)
def Zfw:KDs→List D
 | []=>[]
 | p::r=>kD p.1::p.2::Zfw r
def unf:List D→Option KDs
 | []=>some []
 | k::v::r=>(okK k).bind fun kt=>(unf r).map ((kt,v)::·)
 | _=>none
@[simp] theorem ZmI:∀ kvs:KDs,unf (Zfw kvs)=some kvs
  | []=>rfl
  | p::r=>by unfold Zfw unf;rw [ZpZ,ZmI r];rfl
@[simp] theorem ZrB:unf []=some []:=rfl
def Ze3:KDs→KT→Option D
 | [],_=>none
 | t::r,k=>if t.1=k then some t.2 else Ze3 r k
def ZkD:KDs→KT→D→KDs
 | [],_,_=>[]
 | t::r,k,v=>(if t.1=k then (t.1,v) else t)::ZkD r k v
def Zpx (kvs:KDs) (k:KT) (v:D):KDs:=if (Ze3 kvs k).isSome=true then ZkD kvs k v else kvs++[(k,v)]
def ZkS:KT→Bool
 | .at _=>true
 | _=>false
def Zjg (k:KT) (kvs:KDs):Bool:=kvs.all fun p=>ZkS p.1==ZkS k
section
variable {K:PySem.W.Frag} {N:Fb} {H:Hp}
abbrev PD (K:PySem.W.Frag) (N:Fb) (H:Hp):KDs→List T3→Prop:=Paired fun p t=>p.1=t.1∧Den K N H (kD p.1) t.2.1∧Den K N H p.2 t.2.2
theorem PD.fst:∀ {kvs:KDs} {tr:List T3},PD K N H kvs tr→kvs.map (·.1)=tr.map (·.1)
 | _,_,.nil=>rfl
 | _,_,.cons ⟨h1,_,_⟩ t=>by rw [List.map_cons,List.map_cons,h1,PD.fst t]
def RelD (K:PySem.W.Frag) (N:Fb) (H:Hp):Option D→Option V→Prop
 | some d,some v=>Den K N H d v
 | none,none=>True
 | _,_=>False
theorem PD.val:∀ {kvs:KDs} {tr:List T3},PD K N H kvs tr→∀ k,RelD K N H (Ze3 kvs k) (Zf3 tr k)
 | _,_,.nil,_=>True.intro
 | p::kvs,t::tr,.cons ⟨h1,_,h2⟩ r,k=>by
  have ih:=PD.val r k
  unfold Ze3 Zf3
  rw [h1]
  split
  ·exact h2
  ·exact ih
theorem RelD.isS:∀ {o:Option D} {u:Option V},RelD K N H o u→o.isSome=u.isSome
 | some _,some _,_=>rfl
 | none,none,_=>rfl
 | some _,none,h=>h.elim
 | none,some _,h=>h.elim
theorem PD.rep {k:KT} {d:D} {v:V} (hd:Den K N H d v):∀ {kvs:KDs} {tr:List T3},PD K N H kvs tr→PD K N H (ZkD kvs k d) (ZfY tr k v)
 | _,_,.nil=>.nil
 | p::kvs,t::tr,.cons ⟨h1,h2,h3⟩ r=>by
  have ih:=PD.rep (k:=k) hd r
  unfold ZkD ZfY
  rw [h1]
  refine .cons ?_ ih
  split
  ·exact ⟨rfl,h1 ▸ h2,hd⟩
  ·exact ⟨h1,h2,h3⟩
theorem PD.put {kvs:KDs} {tr:List T3} {k:KT} {d:D} {kv v:V} (h:PD K N H kvs tr) (hk:Den K N H (kD k) kv) (hd:Den K N H d v):PD K N H (Zpx kvs k d) (ZhY tr k kv v):=by
 unfold Zpx ZhY
 rw [(h.val k).isS]
 split
 ·exact h.rep hd
 ·exact Paired.snoc' ⟨rfl,hk,hd⟩ h
end
def ZiS:D→D→Option D
 | .lst xs true,y=>(unf xs).bind fun kvs=>(okK y).bind fun k=>if Zjg k kvs then Ze3 kvs k else none
 | _,_=>none
@[simp] theorem Zqt (kvs:KDs) (y:D):ZiS (.lst (Zfw kvs) true) y=(okK y).bind fun k=>if Zjg k kvs then Ze3 kvs k else none:=by simp [ZiS]
@[simp] theorem ZqO (y:D):ZiS (.lst [] true) y=(okK y).bind fun k=>none:=by simp [ZiS,Ze3]
def Zk2 (neg:Bool):D→D→Option D
 | y,.lst xs true=>(unf xs).bind fun kvs=>(okK y).bind fun k=>if Zjg k kvs then some (.bl (neg != (Ze3 kvs k).isSome)) else none
 | _,_=>none
@[simp] theorem ZqN (neg:Bool) (kvs:KDs) (y:D):Zk2 neg y (.lst (Zfw kvs) true)=(okK y).bind fun k=>if Zjg k kvs then some (.bl (neg != (Ze3 kvs k).isSome)) else none:=by simp [Zk2]
@[simp] theorem Zq6 (neg:Bool) (y:D):Zk2 neg y (.lst [] true)=(okK y).bind fun k=>some (.bl neg):=by simp [Zk2,Ze3,Zjg]
section
variable {X:Cx} {K:PySem.W.Frag} {M:Fb} {H0:Hp} {e a b:Expr} {f g:VE→Option D} {pos:Pos}
def Znl:List D→Option D
 | [.lst xs true]=>(unf xs).bind fun kvs=>if kvs.all (fun p=>ZkS p.1) then some (.int kvs.length) else none
 | _=>none
@[simp] theorem Zqd (kvs:KDs):Znl [.lst (Zfw kvs) true]=if kvs.all (fun p=>ZkS p.1) then some (.int kvs.length) else none:=by simp [Znl]
end
end L2
namespace L2
open PySem PySem.Spec PyProof.Rows
end L2
namespace L2
open PySem PySem.Spec PyProof.Rows
section
variable {X:Cx} {K:PySem.W.Frag} {M:Fb} {H0:Hp} {e a b ek ev:Expr} {f g fk fv:VE→Option D} {fx:VE→Option (D×VE)} {pos:Pos}
def Zq3:D→D→Option D
 | .bl i,.bl j=>some (.bl (decide (i=j)))
 | _,_=>none
@[simp] theorem ZrY (i j:Bool):Zq3 (.bl i) (.bl j)=some (.bl (decide (i=j))):=rfl
end
end L2
namespace L2
open PySem PySem.Spec PyProof.Rows
section
variable {X:Cx} {K:PySem.W.Frag}
noncomputable def Zlf (z:Str):List D→Option D
 | [.int i]=>gd (0≤i∧i<1000000) (some (.str (Txt.zfill z i)))
 | _=>none
@[simp] theorem ZqQ (z:Str) (i:Int) (h0:0≤i) (h1:i<1000000):Zlf z [.int i]=some (.str (Txt.zfill z i)):=by
  unfold Zlf
  exact Zjl ⟨h0,h1⟩
def Zkj:V→List V→Hp→VK→Prop:=fun x vs H Q=>∃ z y,x=.str z∧vs=[.str y]∧Q (.bl (Txt.startswith z y)) H
theorem ZfW:MtR X "str.startswith" Zkj:=by
 intro pins s σ H x vs v us Q I rx rv h
 obtain ⟨z,y,rfl,rfl,q⟩:=h
 obtain ⟨t,rfl⟩:=rx
 obtain ⟨u,rfl,t',rfl⟩:=Zep rv
 exact SC.startswith ⟨.bl _,H,I,rfl,q⟩
@[simp] def Zba (z:Str):List D→Option D
  | [.str y]=>some (.bl (Txt.startswith z y))
  | _=>none
theorem ZfU:RmD K Zkj Zba:=by
 intro N H z vs ds d Q nh h e q
 unfold Zba at e
 split at e
 ·next y =>
  cases e
  obtain ⟨v,rfl,hv⟩:=Paired.one' h
  exact ⟨z,y,rfl,by rw [hv.str],q _ H (Same.refl H) Zch⟩
 ·cases e
end
end L2
namespace L2
open PySem PySem.Spec PyProof.Rows
@[simp] def Zsy (b:D→VE→Option VE) (o:Option D) (ρ:VE):Res:=match o with
  | some d=>(match b d ρ with
   | some ρ'=>.next ρ'
   | none=>.fail)
  | none=>.fail
section
variable {X:Cx} {K:PySem.W.Frag} {M:Fb} {H0:Hp} {e tg:Expr} {f:VE→Option D} {b:D→VE→Option VE} {pos:Pos}
end
end L2
namespace L2
open PySem PySem.Spec PyProof.Rows PySem.W
section
variable (lt:Nat→Nat→Bool)
structure WO (n:Nat):Prop where
 asym:∀ a b,a<n→b<n→lt a b=true→lt b a=false
 neg:∀ a b c,a<n→b<n→c<n→lt a c=true→lt a b=true∨lt b c=true
def le' (a b:Nat):Prop:=lt b a=false
end
section
variable {lt:Nat→Nat→Bool} {n:Nat} (W:WO lt n)
include W
theorem WO.refl {a:Nat} (ha:a<n):le' lt a a:=by
 unfold le'
 cases h:lt a a with
 | false=>rfl
 | true=>have:=W.asym a a ha ha h;rw [h] at this;cases this
theorem WO.trans {a b c:Nat} (ha:a<n) (hb:b<n) (hc:c<n) (h1:le' lt a b) (h2:le' lt b c):le' lt a c:=by
 unfold le' at *
 cases h:lt c a with
 | false=>rfl
 | true =>
  rcases W.neg c b a hc hb ha h with z | z
  ·rw [z] at h2;cases h2
  ·rw [z] at h1;cases h1
end
abbrev pvA (p:Array Nat) (i:Nat):Nat:=p.getD i 0
def Bs (n:Nat) (p:Array Nat):Prop:=p.Perm (List.range n).toArray
theorem Bs.size {n:Nat} {p:Array Nat} (h:Bs n p):p.size=n:=by have:=h.size_eq;simpa using this
theorem Bs.lt {n:Nat} {p:Array Nat} (h:Bs n p) {i:Nat} (hi:i<n):pvA p i<n:=by
 have hs:=h.size
 have hi':i<p.size:=by omega
 have hm:p[i]∈p:=Array.getElem_mem hi'
 have:=(h.mem_iff (a:=p[i])).mp hm
 simp at this
 unfold pvA
 rw [Array.getD_eq_getD_getElem?,Array.getElem?_eq_getElem hi']
 exact this
section
variable {lt:Nat→Nat→Bool} {n:Nat} (W:WO lt n) {cmp:Nat→Nat→(Bool→Shared→Prop)→Shared→Prop} {s:Shared} (hc:∀ i j C,i<n→j<n→C (lt i j) s→cmp i j C s)
include W hc
end
end L2
namespace L2
open PySem PySem.Spec PyProof.Rows PySem.W
section
variable {prog:Program} {w:World} {A:Around} {E:Value→Shared→Prop} {s:Shared}
end
section
variable {X:Cx} {pins:List (Addr×Obj)} {σ:St} {H:Hp} {s:Shared} {N:Fb}
def KMode (b:Option Bool) (k:D):Prop:=match b with
 | some true=>∃ i r,k=.tup (.int i::r)
 | some false=>∃ f r,k=.tup (.tup f::r)
 | none=>∃ r,k=.lst r
theorem KMode.tup {b:Bool} {k:D} (h:KMode (some b) k):∃ f r,k=.tup (f::r):=by
 cases b with
 | true=>obtain ⟨i,r,e⟩:=h;exact ⟨_,_,e⟩
 | false=>obtain ⟨i,r,e⟩:=h;exact ⟨_,_,e⟩
structure Off (X:Cx) (pins:List (Addr×Obj)) (a:Addr):Prop where
 nL:a≠X.env.locals
 s0:X.s₀.heap.objs.size≤a
 cl:∀ x c,X.env.cells.lookup x=some c→c≠a
 pn:∀ p∈X.pn++pins,p.1≠a
 nf:a∉X.fs
end
end L2
namespace L2
open PySem PySem.Spec PyProof.Rows PySem.W
def Zjw (F:List Sl→Option Rv) (x:D):D:=((F [.val x]).map rvD).getD .non
def ltF (F:List Sl→Option Rv) (x y:D):Bool:=match ltN 6 (Zjw F x) (Zjw F y) with
 | some true=>true
 | _=>false
structure SortOk (F:List Sl→Option Rv) (xs:List D):Prop where
 few:xs.length<64
 tells:∀ x∈xs,∃ r,F [.val x]=some r
 mode:∃ b,∀ x∈xs,KMode b (Zjw F x)
 cmp:∀ x∈xs,∀ y∈xs,∃ r,ltN 6 (Zjw F x) (Zjw F y)=some r
 asym:∀ x∈xs,∀ y∈xs,ltF F x y=true→ltF F y x=false
 neg:∀ x∈xs,∀ y∈xs,∀ z∈xs,ltF F x z=true→ltF F x y=true∨ltF F y z=true
 anti:∀ x∈xs,∀ y∈xs,ltF F x y=false→ltF F y x=false→x=y
def Zg4 (lt:D→D→Bool) (x:D):List D→List D
 | []=>[x]
 | y::r=>if lt x y then x::y::r else y::Zg4 lt x r
def Zk6 (lt:D→D→Bool):List D→List D
 | []=>[]
 | x::r=>Zg4 lt x (Zk6 lt r)
theorem Zf4 (lt:D→D→Bool) (x:D):∀ l,(Zg4 lt x l).Perm (x::l)
 | []=>.refl _
 | y::r=>by
  unfold Zg4
  split
  ·exact .refl _
  ·exact ((Zf4 lt x r).cons y).trans (.swap x y r)
theorem ZeK (lt:D→D→Bool):∀ l,(Zk6 lt l).Perm l
 | []=>.refl _
 | x::r=>(Zf4 lt x _).trans ((ZeK lt r).cons x)
theorem Zir {F:List Sl→Option Rv} {xs:List D} (h:SortOk F xs) {x:D} (hx:x∈xs):∀ l:List D,(∀ y∈l,y∈xs)→l.Pairwise (fun a b=>ltF F b a=false)→(Zg4 (ltF F) x l).Pairwise fun a b=>ltF F b a=false
 | [],_,_=>by simp [Zg4]
 | y::r,hm,hp=>by
  obtain ⟨h1,h2⟩:=List.pairwise_cons.mp hp
  have hy:=hm y List.mem_cons_self
  unfold Zg4
  split
  ·next hl =>
   refine List.pairwise_cons.mpr ⟨fun z hz=>?_,hp⟩
   rcases List.mem_cons.mp hz with e | hz
   ·subst e;exact h.asym x hx z hy hl
   ·cases hc:ltF F z x with
    | false=>rfl
    | true =>
     rcases h.neg z (hm z (List.mem_cons_of_mem _ hz)) y hy x hx hc with q | q
     ·rw [h1 z hz] at q;cases q
     ·rw [h.asym x hx y hy hl] at q;cases q
  ·next hl =>
   rw [Bool.not_eq_true] at hl
   refine List.pairwise_cons.mpr ⟨fun z hz=>?_,Zir h hx r (fun z hz=>hm z (List.mem_cons_of_mem _ hz)) h2⟩
   rcases List.mem_cons.mp ((Zf4 (ltF F) x r).subset hz) with e | hz
   ·subst e;exact hl
   ·exact h1 z hz
theorem Zis {F:List Sl→Option Rv} {xs:List D} (h:SortOk F xs):∀ l:List D,(∀ y∈l,y∈xs)→(Zk6 (ltF F) l).Pairwise fun a b=>ltF F b a=false
 | [],_=>.nil
 | x::r,hm=>Zir h (hm x List.mem_cons_self) _ (fun y hy=>hm y (List.mem_cons_of_mem _ ((ZeK _ r).subset hy))) (Zis h r fun y hy=>hm y (List.mem_cons_of_mem _ hy))
theorem SortOk.same {F:List Sl→Option Rv} {xs ys:List D} (h:SortOk F xs) (hp:ys.Perm xs) (hs:ys.Pairwise fun a b=>ltF F b a=false):ys=Zk6 (ltF F) xs :=
 List.Perm.eq_of_pairwise (le:=fun a b=>ltF F b a=false) (fun a b ha hb h1 h2=>h.anti a (hp.subset ha) b ((ZeK _ xs).subset hb) h2 h1) hs (Zis h xs fun _ hy=>hy) (hp.trans (ZeK _ xs).symm)
section
variable {X:Cx} {pins:List (Addr×Obj)} {σ:St} {H:Hp} {s:Shared} {N:Fb}
end
end L2
namespace L2
open PySem PySem.Spec PyProof.Rows PySem.W
section
variable {X:Cx} {pins:List (Addr×Obj)} {σ:St} {H:Hp} {s:Shared} {N:Fb}
theorem Off.more {a b:Addr} {o:Obj} (f:Off X pins a) (h:b≠a):Off X (pins++[(b,o)]) a :=
 ⟨f.nL,f.s0,f.cl,fun p hp=>by
  rw [← List.append_assoc] at hp
  rcases List.mem_append.mp hp with hp | hp
  ·exact f.pn p hp
  ·simp only [List.mem_singleton] at hp;subst hp;exact h,f.nf⟩
variable {k:Nat} {fn:Addr} {fd:FuncData} {ps:List Str} {F:List Sl→Option Rv}
theorem Same.none {H H':Hp} (h:Same H H') {a:Addr} (e:H' a=none):H a=none:=by
 cases q:H a with
 | none=>rfl
 | some o=>rw [h a o q] at e;cases e
end
end L2
namespace L2
open PySem PySem.Spec PyProof.Rows PySem.W
section
variable {X:Cx} {M:Fb} {H0:Hp} {k:Nat} {fn:Addr} {fd:FuncData} {ps:List Str} {F:List Sl→Option Rv} {e:Expr} {f:VE→Option D} {x y:Str} {p p2 kpos pos:Pos}
end
end L2
namespace L2
open PySem PySem.Spec PyProof.Rows
section
variable {X:Cx} {K:PySem.W.Frag} {M:Fb} {H0:Hp} {pos:Pos} {tg elt iter:Expr} {ifs:List Expr} {scope:Scope} {ws:List Nat} {f:VE→Option (List D)} {b:D→VE→Option VE} {t:VE→Option Bool} {e:VE→Option D} {k:Nat} {oix:List Nat}
@[simp] theorem Zom (xs:List D):Zi4 (.lst xs)=some xs:=rfl
end
end L2
namespace L2
open PySem PySem.Spec PyProof.Rows PySem.W
section
variable {X:Cx} {pins:List (Addr×Obj)} {σ:St} {H:Hp} {s:Shared} {A:Around} {E:Value→Shared→Prop} {tr:List T3} {a:Addr} {k:KT} {y v:V} {u r:Value}
end
section
variable {X:Cx} {pins:List (Addr×Obj)} {σ:St} {H:Hp} {A:Around} {a it l:Addr} {N:Fb} {us:List Value} {R:Result→Shared→Prop}
end
section
variable {X:Cx} {M:Fb} {H0:Hp} {e:Expr} {f:VE→Option D} {p pos:Pos}
end
end L2
namespace L2
open PySem PySem.Spec PyProof.Rows PySem.W
section
variable {X:Cx} {K:PySem.W.Frag} {M:Fb} {H0:Hp}
theorem Zbt {st:Stmt}:JS X st (tS K M H0 fun _=>.fail):=⟨fun pins s σ H D I ⟨ρ,R,q⟩=>False.elim q⟩
@[simp] def Zsx:List D→Option D
  | [.int i]=>if i.natAbs.log2<1920 then some (.str (toString i)) else none
  | [.str z]=>some (.str z)
  | _=>none
theorem Zl3:CallR X (.type "int") (fun xs H Q=>∃ z n,xs=[.str z]∧z.length≤640∧PySem.intText? z=some n∧Q (.int n) H):=by
 intro pins s σ H xs us Q I r h
 obtain ⟨z,n,rfl,hl,hn,q⟩:=h
 obtain ⟨u,rfl,t,rfl⟩:=Zep r
 exact KIN.call_text hn hl ⟨.int n,H,I.tok _,⟨_,rfl⟩,q⟩
@[simp] def ZjM:List D→Option D
  | [.str z]=>if z.length≤640 then (PySem.intText? z).map D.int else none
  | _=>none
theorem Zn1:RcD K (fun xs H Q=>∃ z n,xs=[.str z]∧z.length≤640∧PySem.intText? z=some n∧Q (.int n) H) ZjM:=by
 intro N H vs ds d Q nh h e q
 unfold ZjM at e
 split at e
 ·next z =>
  split at e
  ·next hz =>
   cases hn:PySem.intText? z with
   | none=>rw [hn] at e;cases e
   | some n =>
    rw [hn] at e
    cases e
    obtain ⟨v,rfl,hv⟩:=Paired.one' h
    exact ⟨z,n,by rw [hv.str],hz,hn,q _ H (Same.refl H) ZcW⟩
  ·cases e
 ·cases e
def ZlQ:V→List V→Hp→VK→Prop:=fun x vs H Q=>∃ z y,x=.str z∧vs=[.str y]∧(y.length==0)=false∧z.length≤sizeLine∧(Txt.split z y).length≤sizeLine∧∀ p,H p=none→Q (.ref p) (upd H p (.lst ((Txt.split z y).map V.str)))
theorem ZeF:∀ (l:List (Str×Tok)),Vals ((l.map (·.1)).map V.str) (strValues l)
 | []=>.nil
 | p::l=>.cons ⟨p.2,rfl⟩ (ZeF l)
theorem ZdB:MtR X "str.split" ZlQ:=by
 intro pins s σ H x vs v us Q I rx rv h
 obtain ⟨z,y,rfl,rfl,hy,hz,hl,q⟩:=h
 obtain ⟨t,rfl⟩:=rx
 obtain ⟨u,rfl,t',rfl⟩:=Zep rv
 have hfr:H s.heap.objs.size=none:=I.hok.fresh (Nat.le_refl _)
 unfold Txt.split at hl q
 cases h1:(decide (z.length<y.length)||decide (Builtin.Str.strKind z<Builtin.Str.strKind y))
 ·rw [h1] at hl q
  simp only [Bool.false_eq_true,if_false] at hl q
  cases hf:(Builtin.Str.occurrences z y 0 z.length (z.length+1)).isEmpty
  ·rw [hf] at hl q
   simp only [Bool.false_eq_true,if_false] at hl q
   refine call_meets F.slot_str_split (typeIs_str _ _ _) F.entry_str_split (F.args_str_split_2 _ _) (meets_str_split_sep z y t t' h1 hy hf hz hl) ?_
   have hv:=ZeF (numbered s.toks (Builtin.Str.partsBetween z (Builtin.Str.occurrences z y 0 z.length (z.length+1)) y.length))
   rw [numbered_texts,← strsFrom_eq] at hv
   exact ⟨.ref s.heap.objs.size,_,I.lnew hv (by simpa using hl),rfl,q _ hfr⟩
  ·rw [hf] at hl q
   simp only [if_true] at hl q
   refine call_meets F.slot_str_split (typeIs_str _ _ _) F.entry_str_split (F.args_str_split_2 _ _) (meets_str_split_not_found z y t t' h1 hy hf) ?_
   exact ⟨.ref s.heap.objs.size,_,I.lnew (t':=s.toks) (ZeF [(z,t)]) (by simpa using hl),rfl,q _ hfr⟩
 ·rw [h1] at hl q
  simp only [if_true] at hl q
  refine call_meets F.slot_str_split (typeIs_str _ _ _) F.entry_str_split (F.args_str_split_2 _ _) (meets_str_split_cannot_occur z y t t' h1) ?_
  exact ⟨.ref s.heap.objs.size,_,I.lnew (t':=s.toks) (ZeF [(z,t)]) (by simpa using hl),rfl,q _ hfr⟩
@[simp] def Zb1 (z:Str):List D→Option D
  | [.str y]=>if (y.length==0)=false∧z.length≤sizeLine∧(Txt.split z y).length≤sizeLine then some (.lst ((Txt.split z y).map D.str)) else none
  | _=>none
theorem Zhm {N:Fb} {H:Hp}:∀ (bs:List Str),DenL K N H (bs.map D.str) (bs.map V.str)
 | []=>DenL.nil
 | b::bs=>DenL.cons ZdF (Zhm bs)
theorem ZdM:RmD K ZlQ Zb1:=by
 intro N H z vs ds d Q nh h e q
 unfold Zb1 at e
 split at e
 ·next y =>
  split at e
  ·next hz =>
   cases e
   obtain ⟨v,rfl,hv⟩:=Paired.one' h
   refine ⟨z,y,rfl,by rw [hv.str],hz.1,hz.2.1,hz.2.2,fun p hp=>q _ _ (ZaZ hp) ?_⟩
   simp only [Den]
   exact ⟨p,_,rfl,.of (fun w=>nh p w hp) Zaw,Zhm _⟩
  ·cases e
 ·cases e
end
end L2
namespace L2
open PySem PySem.Spec PyProof.Rows
def cN (c:Nat) (z:Str):Nat:=z.cps.toList.count c
theorem ZhV (x:Str) (c limit:Nat):∀ (l:List Nat) (st:Array Nat×Nat),l.Pairwise (·<·)→(∀ i∈l,st.2≤i)→st.1.size+l.length≤limit →
  (forIn l st (StrLaws.occBody x ⟨#[c]⟩ x.length limit)).run.fst.toList=st.1.toList++l.filter (fun i=>decide (x.cps.toList[i]?=some c))
 | [],st,_,_,_=>by simp
 | a::l,st,hp,hf,hl=>by
  obtain ⟨h1,h2⟩:=List.pairwise_cons.mp hp
  simp only [List.length_cons] at hl
  have ha:=hf a List.mem_cons_self
  rw [List.forIn_cons]
  unfold StrLaws.occBody
  by_cases hc:x.cps.toList[a]?=some c
  ·have hs:=(StrLaws.subAt_one x c a).mpr hc
   rw [if_pos ⟨⟨⟨by omega,ha⟩,hs.1⟩,hs.2⟩]
   have ih:=ZhV x c limit l (st.1.push a,a+(⟨#[c]⟩:Str).length) h2 (fun i hi=>by have:=h1 i hi;show a+1≤i;omega) (by simp;omega)
   rw [List.filter_cons_of_pos (by simpa using hc)]
   rw [Array.toList_push,List.append_assoc] at ih
   exact ih
  ·rw [if_neg (fun h=>hc ((StrLaws.subAt_one x c a).mp ⟨h.1.2,h.2⟩))]
   rw [List.filter_cons_of_neg (by simpa using hc)]
   exact ZhV x c limit l st h2 (fun i hi=>hf i (List.mem_cons_of_mem _ hi)) (by omega)
theorem Zgc (c:Nat):∀ (l:List Nat) (k:Nat),((List.range' k (l.length+1)).filter fun i=>decide (l[i-k]?=some c)).length=l.count c
 | [],k=>by simp [List.range'_succ]
 | a::l,k=>by
  have ih:=Zgc c l (k+1)
  rw [List.length_cons,List.range'_succ,List.filter_cons]
  have e:(List.range' (k+1) (l.length+1)).filter (fun i=>decide ((a::l)[i-k]?=some c))=(List.range' (k+1) (l.length+1)).filter (fun i=>decide (l[i-(k+1)]?=some c)):=by
   refine List.filter_congr fun i hi=>?_
   obtain ⟨h1,_⟩:=List.mem_range'_1.mp hi
   rw [show i-k=(i-(k+1))+1 by omega,List.getElem?_cons_succ]
  rw [e,Nat.sub_self,List.getElem?_cons_zero,List.count_cons]
  by_cases h:a=c
  ·subst h;simp [ih]
  ·have h':¬ (some a=some c):=fun z=>h (Option.some.inj z)
   rw [decide_eq_false h']
   simp [h,ih]
theorem ZlL (x:Str) (c:Nat):(Builtin.Str.occurrences x ⟨#[c]⟩ 0 x.length (x.length+1)).length=cN c x:=by
 have hl:x.length=x.cps.toList.length:=by simp [Str.length]
 rw [StrLaws.occ_eq,ZhV x c (x.length+1) _ _ List.pairwise_lt_range' (fun _ _=>Nat.zero_le _) (by simp)]
 have:=Zgc c x.cps.toList 0
 rw [← hl] at this
 simpa [cN] using this
theorem Zj7 (x:Str):1≤Builtin.Str.strKind x:=by
 unfold Builtin.Str.strKind
 split
 ·omega
 ·split<;>omega
theorem ZlH (x:Str) (c:Nat) (hc:c<256):(Txt.split x ⟨#[c]⟩).length=cN c x+1:=by
 have ho:=ZlL x c
 have hk:Builtin.Str.strKind ⟨#[c]⟩=1:=by
  unfold Builtin.Str.strKind
  rw [if_pos (by simp [hc])]
 have h1:=Zj7 x
 unfold Txt.split
 rw [hk]
 split
 ·next h =>
  have hx:x.length<1:=by
   simp only [Bool.or_eq_true,decide_eq_true_eq] at h
   rcases h with h | h
   ·exact h
   ·omega
  have:x.cps.toList=[]:=by
   have:x.cps.toList.length=0:=by have e:x.length=x.cps.toList.length:=by simp [Str.length]
                                  omega
   exact List.length_eq_zero_iff.mp this
  simp [cN,this]
 ·split
  ·next h =>
   rw [List.isEmpty_iff.mp h] at ho
   rw [← ho];rfl
  ·rw [StrLaws.partsBetween_eq]
   have:∀ (cuts:List Nat) (a:Nat),(StrLaws.partsFrom x (⟨#[c]⟩:Str).length a cuts).length=cuts.length+1:=by
    intro cuts
    induction cuts with
    | nil=>intro a;rfl
    | cons d r ih=>intro a;show (StrLaws.partsFrom x _ _ r).length+1=_;rw [ih];rfl
   rw [this,ho]
theorem Zlq (c:Nat) (x y:Str):cN c (x++y)=cN c x+cN c y:=by
 show ((x.cps++y.cps).toList).count c=_
 rw [Array.toList_append,List.count_append];rfl
theorem Zbr (c:Nat):∀ (a:Str) (zs:List Str),cN c (Str.join ⟨#[c]⟩ (a::zs))=((a::zs).map (cN c)).sum+zs.length
 | a,[]=>by simp [Str.join]
 | a,b::r=>by
  have ih:=Zbr c b r
  show cN c (a++⟨#[c]⟩++Str.join ⟨#[c]⟩ (b::r))=_
  rw [Zlq,Zlq,ih]
  have e:cN c ⟨#[c]⟩=1:=by simp [cN]
  rw [e]
  simp only [List.map_cons,List.sum_cons,List.length_cons]
  omega
theorem Ziq {c:Nat}:∀ {a b r s:List Nat},c∉a→c∉b→a++c::r=b++c::s→a=b∧r=s
 | [],[],r,s,_,_,h=>by simp at h;exact ⟨rfl,h⟩
 | [],b::bs,r,s,_,hb,h=>by simp at h;exact absurd (by simp [h.1]) hb
 | a::as,[],r,s,ha,_,h=>by simp at h;exact absurd (by simp [h.1]) ha
 | a::as,b::bs,r,s,ha,hb,h=>by
  simp only [List.cons_append,List.cons.injEq] at h
  obtain ⟨e1,e2⟩:=Ziq (fun z=>ha (List.mem_cons_of_mem _ z)) (fun z=>hb (List.mem_cons_of_mem _ z)) h.2
  exact ⟨by rw [h.1,e1],e2⟩
theorem Zl6 {x y:Str} (h:x.cps.toList=y.cps.toList):x=y:=by
 obtain ⟨⟨a⟩⟩:=x
 obtain ⟨⟨b⟩⟩:=y
 simp at h
 rw [h]
theorem Zpp (x y:Str):(x++y).cps.toList=x.cps.toList++y.cps.toList:=by
 show (x.cps++y.cps).toList=_
 simp
theorem Zjs {c:Nat}:∀ (a:Str) (as:List Str) (b:Str) (bs:List Str),(∀ z∈a::as,c∉z.cps.toList)→(∀ z∈b::bs,c∉z.cps.toList)→Str.join ⟨#[c]⟩ (a::as)=Str.join ⟨#[c]⟩ (b::bs)→a::as=b::bs
 | a,[],b,[],_,_,h=>by rw [show a=b from h]
 | a,a'::as,b,[],ha,hb,h=>by
  have e:=congrArg (cN c) h
  rw [Zbr,Zbr] at e
  have:cN c b=0:=List.count_eq_zero.mpr (hb b List.mem_cons_self)
  simp only [List.map_cons,List.sum_cons,List.map_nil,List.sum_nil,List.length_cons,List.length_nil,this] at e
  omega
 | a,[],b,b'::bs,ha,hb,h=>by
  have e:=congrArg (cN c) h
  rw [Zbr,Zbr] at e
  have:cN c a=0:=List.count_eq_zero.mpr (ha a List.mem_cons_self)
  simp only [List.map_cons,List.sum_cons,List.map_nil,List.sum_nil,List.length_cons,List.length_nil,this] at e
  omega
 | a,a'::as,b,b'::bs,ha,hb,h=>by
  have h:a++⟨#[c]⟩++Str.join ⟨#[c]⟩ (a'::as)=b++⟨#[c]⟩++Str.join ⟨#[c]⟩ (b'::bs):=h
  have e:=congrArg (fun s:Str=>s.cps.toList) h
  simp only [Zpp] at e
  rw [List.append_assoc,List.append_assoc] at e
  obtain ⟨e1,e2⟩:=Ziq (ha a List.mem_cons_self) (hb b List.mem_cons_self) e
  rw [Zl6 e1,Zjs a' as b' bs (fun z hz=>ha z (List.mem_cons_of_mem _ hz)) (fun z hz=>hb z (List.mem_cons_of_mem _ hz)) (Zl6 e2)]
theorem ZkG {c:Nat} (hc:c<256) (zs:List Str) (h0:zs≠[]) (hz:∀ z∈zs,c∉z.cps.toList):Txt.split (Str.join ⟨#[c]⟩ zs) ⟨#[c]⟩=zs:=by
 have h1:=StrLaws.join_split (Str.join ⟨#[c]⟩ zs) ⟨#[c]⟩
 have h2:=ZlH (Str.join ⟨#[c]⟩ zs) c hc
 cases zs with
 | nil=>exact absurd rfl h0
 | cons a zs =>
  rw [Zbr] at h2
  have hs:((a::zs).map (cN c)).sum=0:=by
   refine Nat.eq_zero_of_not_pos fun hp=>?_
   have:∀ l:List Str,(∀ z∈l,c∉z.cps.toList)→(l.map (cN c)).sum=0:=by
    intro l
    induction l with
    | nil=>intro _;rfl
    | cons z l ih =>
     intro h
     rw [List.map_cons,List.sum_cons,ih fun y hy=>h y (List.mem_cons_of_mem _ hy)]
     have:cN c z=0:=List.count_eq_zero.mpr (h z List.mem_cons_self)
     omega
   have:=this (a::zs) hz
   omega
  rw [hs] at h2
  cases hP:Txt.split (Str.join ⟨#[c]⟩ (a::zs)) ⟨#[c]⟩ with
  | nil=>rw [hP] at h2;simp at h2
  | cons p ps =>
   rw [hP] at h1 h2
   have hcnt:=congrArg (cN c) h1
   rw [Zbr,Zbr,hs] at hcnt
   simp only [List.length_cons] at h2
   have hps:((p::ps).map (cN c)).sum=0:=by omega
   have hfree:∀ z∈p::ps,c∉z.cps.toList:=by
    have:∀ l:List Str,(l.map (cN c)).sum=0→∀ z∈l,c∉z.cps.toList:=by
     intro l
     induction l with
     | nil=>intro _ z h;cases h
     | cons y l ih =>
      intro h z hz
      rw [List.map_cons,List.sum_cons] at h
      rcases List.mem_cons.mp hz with rfl | hz
      ·exact List.count_eq_zero.mp (show cN c z=0 by omega)
      ·exact ih (by omega) z hz
    exact this _ hps
   exact Zjs p ps a zs hfree hz h1
def dg (m:Nat):List Nat:=(Nat.toDigits 10 m).map Char.toNat
theorem Zek {m:Nat} (h:m<10):dg m=[48+m]:=by
 unfold dg
 rw [Nat.toDigits_of_lt_base h]
 have:∀ m,m<10→[(Nat.digitChar m)].map Char.toNat=[48+m]:=by decide
 exact this m h
theorem ZfH {m:Nat} (h:10≤m):dg m=dg (m / 10)++[48+m%10]:=by
 have hm:m%10<10:=Nat.mod_lt m (by decide)
 have t:Nat.toDigits 10 (m / 10)++Nat.toDigits 10 (m%10)=Nat.toDigits 10 (10 * (m / 10)+m%10):=Nat.toDigits_append_toDigits (by decide) (by omega) hm
 rw [Nat.div_add_mod] at t
 have e:=Zek hm
 unfold dg at e ⊢
 rw [← t,List.map_append,e]
theorem Zcp (m:Nat):∀ c∈dg m,48≤c∧c≤57:=by
 induction m using Nat.strongRecOn with
 | _ m ih =>
  intro c hc
  by_cases h:m<10
  ·rw [Zek h] at hc;simp at hc;omega
  ·rw [ZfH (by omega)] at hc
   rcases List.mem_append.mp hc with hc | hc
   ·exact ih (m / 10) (by omega) c hc
   ·simp at hc;omega
theorem ZgB (m:Nat):dg m≠[]:=by
 by_cases h:m<10
 ·rw [Zek h];simp
 ·rw [ZfH (by omega)];simp
theorem Ze8:∀ (k m:Nat),1≤k→m<10^k→(dg m).length≤k
 | k,m,hk,hm=>by
  induction k generalizing m with
  | zero=>omega
  | succ k ih =>
   by_cases h:m<10
   ·rw [Zek h];simp
   ·rw [ZfH (by omega),List.length_append,List.length_singleton]
    cases k with
    | zero=>simp at hm;omega
    | succ k =>
     have:m / 10<10^(k+1):=by rw [Nat.pow_succ] at hm;exact Nat.div_lt_of_lt_mul (by omega)
     have:=ih (m / 10) (by omega) this
     omega
theorem Znz {m:Nat} (h0:0<m):∃ c r,dg m=c::r∧c≠48:=by
 induction m using Nat.strongRecOn with
 | _ m ih =>
  by_cases h:m<10
  ·exact ⟨48+m,[],Zek h,by omega⟩
  ·obtain ⟨c,r,e,hc⟩:=ih (m / 10) (by omega) (by omega)
   exact ⟨c,r++[48+m%10],by rw [ZfH (by omega),e];rfl,hc⟩
def iT (i:Int):Str:=Str.ofString (toString i)
theorem Zdw (m:Nat):(iT (m:Int)).cps.toList=dg m:=PySem.W.KIN.signs_num m
theorem Zdr {m:Nat} (h:0<m):(iT (-(m:Int))).cps.toList=45::dg m:=by
 obtain ⟨k,rfl⟩:∃ k,m=k+1:=⟨m-1,by omega⟩
 unfold iT
 rw [signs_ofString]
 show ("-"++Nat.repr (k+1)).toList.map Char.toNat=_
 rw [String.toList_append,List.map_append]
 have e:=PySem.W.KIN.signs_num (k+1)
 rw [signs_ofString] at e
 have e2:(toString (((k+1:Nat)):Int)).toList=(Nat.repr (k+1)).toList:=rfl
 rw [e2] at e
 rw [e]
 rfl
theorem ZmV (i:Int) (h:(iT i).length≤640):PySem.intText? (iT i)=some i:=by
 by_cases h0:0≤i
 ·obtain ⟨m,rfl⟩:=Int.eq_ofNat_of_zero_le h0
  have e:=Zdw m
  have:=PySem.intText_digits (x:=iT (m:Int)) (by rw [e];exact Zcp m) (by rw [e];exact ZgB m) (by omega)
  rw [this,e]
  have hv:=PySem.W.KIN.val_back m
  show some ((PySem.NumText.digitsVal (dg m):Nat):Int)=_
  unfold dg
  rw [hv]
 ·obtain ⟨m,hm,rfl⟩:∃ m:Nat,0<m∧i = -(m:Int):=⟨i.natAbs,by omega,by omega⟩
  have:=PySem.intText_neg (Zdr hm) (Zcp m) (ZgB m) (by omega)
  rw [this]
  have hv:=PySem.W.KIN.val_back m
  unfold dg
  rw [hv]
end L2
namespace L2
open PySem PySem.Spec PyProof.Rows PySem.W
section
variable {X:Cx} {M:Fb} {H0:Hp} {e a b:Expr} {es:List Expr} {f:VE→Option D} {pos:Pos}
@[simp] def ZsL:Option D→Option D
  | some (.int i)=>if i.natAbs.log2<1920 then some (.str (toString i)) else none
  | some (.str z)=>if z.length≤sizeLine then some (.str z) else none
  | _=>none
def Zo4 (acc:Str) (zs:List Str):Str:=zs.foldl (·++·) acc
@[simp] def ZsG (o:Option D) (p:Option (List Str)):Option (List Str):=match o,p with
  | some (.str z),some zs=>some (z::zs)
  | _,_=>none
@[simp] def ZsC (p:Option (List Str)):Option D:=match p with
  | some zs=>if (Zo4 Str.empty zs).length≤sizeLine then some (.str (Zo4 Str.empty zs)) else none
  | none=>none
end
end L2
namespace L2
open PySem PySem.Spec PyProof.Rows PySem.W
structure Za3 (K:Frag) (C:Addr):Prop where
 ga:findIn K (.ref C) "__getattribute__"=some (some (.builtin "BaseException.__getattribute__"))
 cl:findIn K (.ref C) "__class__"=some (some (.builtin "object.__class__"))
 gr:findIn K (.ref C) "__getattr__"=some none
 bx:subIn K (.ref C) (.type "BaseException")=some true
 ob:subIn K (.ref C) (.type "object")=some true
 ty:typeIn K (.ref C)=some (.type "type")
 is:∃ cd,clsIn K C=some cd
section
variable {prog:Program} {w:World} {A:Around} {E:Value→Shared→Prop} {h:Heap} {g:Array GenState} {d:Drawn} {t:Nat} {os:OsState} {e C:Addr} {K:Frag}
theorem Zp5 {R:Result→Shared→Prop} (X:K.In h) (F:Za3 K C) (p:XAt e C h) (hq:R (.ok (.ret (.ref C))) ⟨h,g,d,t,os⟩):codeAny (model prog w) A (.call (.builtin "getset_descriptor.__get__") ⟨[.builtin "object.__class__",.ref e,.ref C],[]⟩) R ⟨h,g,d,t,os⟩:=by
 obtain ⟨o,vs,h1,h2,h3⟩:=p
 have T5:(⟨h,g,d,t,os⟩:Shared).TypeIs (.builtin "object.__class__") "getset_descriptor":=PySem.F.typeOf_object_class
 have L1:Looks (model prog w) h (isSubtype (.ref C) (.type (".".intercalate ("object.__class__".cutAt '.').dropLast))) true:=by rw [PySem.F.owner_object_class];exact looks_subIn X F.ob
 refine codeAny_call_builtin PySem.F.slot_gs_get.plain PySem.F.entry_gs_get (PySem.F.slot_gs_get.check _ _ _ _ _ _ _ _ T5 (PySem.F.args_gs_get _ _ _) ?_)
 repeat (any_goals (first | assumption | (with_reducible refine wpAny_loadPart_at h1 ?_;rw [h2]) | (with_reducible refine Looks.at L1 ?_) | wp_step))
 refine ⟨Code.quiet_builtin _ (by decide +kernel),codeAny_builtin PySem.F.entry_object_class ?_⟩
 repeat (any_goals (first | assumption | (with_reducible refine wpAny_loadPart_at h1 ?_;rw [h2]) | wp_step))
theorem Zoe {tk:Tok} {Q:Fin→Shared→Prop} (X:K.In h) (F:Za3 K C) (p:XAt e C h) (hq:Q (.done (.ret (.ref C))) ⟨h,g,d,t,os⟩):wpAny (model prog w) A (Builtin.«object.__getattribute__» ⟨[.ref e,.str "__class__" tk],[]⟩) Q E ⟨h,g,d,t,os⟩:=by
 obtain ⟨o,vs,h1,h2,h3⟩:=id p
 have T5:(⟨h,g,d,t,os⟩:Shared).TypeIs (.builtin "object.__class__") "getset_descriptor":=PySem.F.typeOf_object_class
 have L1:Looks (model prog w) h (typeLookup (.ref C) "__class__") _:=looks_findIn X F.cl
 have e5:=PySem.F.typeOf_object_class
 have e6:=PySem.F.slot_gs_get.lookup
 have e7:=PySem.F.slot_gs_set.lookup
 repeat (any_goals (first | assumption | (with_reducible refine wpAny_loadPart_at h1 ?_;rw [h2]) | (with_reducible refine Looks.at L1 ?_) | wp_step))
 refine Zp5 X F p ?_
 repeat (any_goals (first | assumption | wp_step))
theorem ZnK {M:Model} {nv:Value} {Q:Unit→Shared→Prop} (X:K.In h) (F:Za3 K C) (p:XAt e C h) (hq:Q () ⟨h,g,d,t,os⟩):wpAny M A (checkBuiltinCall "BaseException.__getattribute__" ⟨[.ref e,nv],[]⟩) Q E ⟨h,g,d,t,os⟩:=by
 obtain ⟨o,vs,h1,h2,h3⟩:=p
 have k1:builtinKind "BaseException.__getattribute__"=some .slot:=by decide +kernel
 have k2:splitId "BaseException.__getattribute__"=some ("BaseException","__getattribute__"):=by decide +kernel
 have L1:Looks M h (isSubtype (.ref C) (.type "BaseException")) true:=looks_subIn X F.bx
 have k3:=PySem.F.args_bexc_ga (.ref e) nv
 simp only [checkBuiltinCall,k1,k2]
 refine wpAny_bind ?_
 unfold isInstance
 repeat (first | (with_reducible refine wpAny_loadPart_at h1 ?_;rw [h2]) | (with_reducible refine Looks.at L1 ?_) | wp_step)
 exact hq
theorem ZoD {tk:Tok} {R:Result→Shared→Prop} (X:K.In h) (F:Za3 K C) (p:XAt e C h) (hq:R (.ok (.ret (.ref C))) ⟨h,g,d,t,os⟩) :
  codeAny (model prog w) A (.call (.builtin "BaseException.__getattribute__") ⟨[.ref e,.str "__class__" tk],[]⟩) R ⟨h,g,d,t,os⟩ :=
 codeAny_call_builtin PySem.F.excAttr_ValueError.ga.plain PySem.F.entry_bexc_ga (ZnK X F p (Zoe X F p hq))
theorem Zq8 {tk:Tok} {Q:Value→Shared→Prop} (X:K.In h) (F:Za3 K C) (p:XAt e C h) (hq:Q (.ref C) ⟨h,g,d,t,os⟩):wpAny (model prog w) A (getAttrBy (.ref e) (.str "__class__" tk) false) Q E ⟨h,g,d,t,os⟩:=by
 obtain ⟨o,vs,h1,h2,h3⟩:=id p
 have L1:Looks (model prog w) h (typeLookup (.ref C) "__getattribute__") _:=looks_findIn X F.ga
 have L2:Looks (model prog w) h (typeLookup (.ref C) "__getattr__") _:=looks_findIn X F.gr
 have b3:=PySem.F.excAttr_ValueError.ga.bind (.ref e)
 have b2:(Value.builtin "BaseException.__getattribute__"==Value.builtin "object.__getattribute__")=false:=by decide +kernel
 have b1:(onTheHeap (Value.ref C)&&Value.builtin "BaseException.__getattribute__"==Value.builtin "object.__getattribute__")=false:=by rw [b2];rfl
 repeat (any_goals (first | assumption | (with_reducible refine wpAny_loadPart_at h1 ?_;rw [h2]) | (with_reducible refine Looks.at L1 ?_) | (with_reducible refine Looks.at L2 ?_) | wp_step))
 refine ZoD X F p ?_
 repeat (any_goals (first | assumption | wp_step))
theorem ZpS {s:Shared} {Q:Option Value→Shared→Prop} (X:K.In s.heap) (F:Za3 K C) (p:XAt e C s.heap) (hq:Q (some (.ref C)) { s with toks:=s.toks+1 }):wpAny (model prog w) A (getAttr? (.ref e) "__class__") Q E s:=by
 obtain ⟨h,g,d,t,os⟩:=s
 unfold getAttr? getAttrBy?
 repeat (any_goals (first | assumption | with_reducible apply Zq8 X F p | wp_step))
theorem Zp7 (F:Za3 K C):KitX K (.ref e) (.ref C) (XAt e C) where
 ty:=fun M h X p=>by
  obtain ⟨o,vs,h1,h2,h3⟩:=p
  intro A Q E s k q
  unfold typeOf
  exact wpAny_bind (wpAny_loadPart (k _ _ h1) (wpAny_pure (by rw [h2];exact q)))
 it:=fun M h X _=>by
  obtain ⟨cd,hc⟩:=F.is
  unfold clsIn at hc
  split at hc
  ·rename_i ho
   intro A Q E s k q
   unfold isType loadHead
   exact wpAny_bind (wpAny_loadPart (k _ _ (X _ _ ho)) (wpAny_pure q))
  ·cases hc
 ne:=fun h tp dd its n sl X htp=>by
  obtain ⟨cd,hc⟩:=F.is
  refine Bool.eq_false_iff.mpr fun q=>?_
  obtain rfl:C=tp:=Value.ref.inj (beq_iff_eq.mp q)
  unfold clsIn at hc
  split at hc
  ·rename_i ho
   have z:=(X _ _ ho).symm.trans htp
   cases z
  ·cases hc
 ca:=fun X p k=>ZpS X F p k
end
end L2
namespace L2
open PySem PySem.Spec PyProof.Rows PySem.W
structure Air (B:Heap) (l:List Env) (e:Addr) (C fl:Value) (h:Heap):Prop where
 stay:B.StaysIn h
 new:B.get? e=none
 fun_:h.FunFrames B l
 rcd:∃ oe vs,h.get? e=some oe∧oe.cls=C∧oe.data=.fields vs∧vs[2]?=some .none∧(vs[1]?=some .none∨∃ T oT ts,vs[1]?=some (.ref T)∧B.get? T=none∧T≠e∧h.get? T=some oT∧oT.data=.fields ts∧ts[3]?=some fl)
section
variable {M:Model} {A:Around} {E:Value→Shared→Prop} {s:Shared} {B:Heap} {l outer:List Env} {env:Env} {e L:Addr} {C fl:Value} {Q:Unit→Shared→Prop}
theorem Air.outs {h:Heap} (a:Air B (env::outer) e C fl h):Air B outer e C fl h:=⟨a.stay,a.new,a.fun_.2.2,a.rcd⟩
theorem Zht {h:Heap} {b x:Addr} {o ox:Obj} {ws:Array Value} (hb:h.get? b=some o) (nf:∀ vs,o.data≠.fields vs) (hx:h.get? x=some ox) (dx:ox.data=.fields ws):b≠x:=fun q=>by
 subst q;rw [hb] at hx;cases hx;exact nf ws dx
theorem Zik {head:Value} {hn:Bool} {oe:Obj} {vs:Array Value} (hfr:A.frames=some (env::outer)) (hf:env.frame=some L) (st:B.StaysIn s.heap) (nw:B.get? e=none) (ff:s.heap.FunFrames B (env::outer))
  (h1:s.heap.get? e=some oe) (h2:oe.cls=C) (h3:oe.data=.fields vs) (h4:vs[2]?=some .none) (hz:1<vs.size) (q:∀ h',Air B (env::outer) e C (rawInt L) h'→(∃ oe vs T,h'.get? e=some oe∧oe.data=.fields vs∧vs[1]?=some (Value.ref T))→s.heap.UpToSlots h'→Q () { s with heap:=h' }) :
  wpAny M A (do let a ← frameOf env;let pl ← entryPlaceOf L hn;let b ← EntryCells.newEntry head a .none (rawInt L) .none pl;setField (.ref e) 1 b) Q E s:=by
 have ef:e∉(env::outer).filterMap (·.frame):=fun hm=>by
  obtain ⟨_,o,ho,z⟩:=ff.mem hm
  rw [h1] at ho;cases ho;exact z vs h3
 refine wpAny_bind (wpAny_frameOf_fun hfr ff hf fun g1 sg=>wpAny_bind (wpAny_entryPlaceOf fun pq hpq=>?_))
 unfold EntryCells.newEntry newFields;refine wpAny_bind (wpAny_newObj_type ?_ (hpq.sizeOk5 _ _ _ _ _))
 have e1:g1.get? e=some oe:=(sg.2.1 e ef).trans h1
 have s1:B.StaysIn g1:=fun b o z=>(sg.2.1 b fun hm=>by rw [(ff.mem hm).1] at z;cases z).trans (st b o z)
 generalize ho:({ cls:=.type "traceback",dict:=none,data:=.fields ([head,.ref L,.none,rawInt L,.none]++(if pq.isEmpty then List.replicate 6 Value.none else pq)).toArray }:Obj)=tb
 have tbd:∃ ts,tb.data=.fields ts∧ts[3]?=some (rawInt L):=by subst ho;exact ⟨_,rfl,by simp⟩
 have tbf:tb.isFreed=false:=by subst ho;rfl
 obtain ⟨ts,td,t3⟩:=tbd
 have e2:=Heap.get?_push_of_some (h:=g1) tb e1
 refine wpAny_setField e2 h3 hz (q _ ?_ ⟨_,_,g1.objs.size,Heap.get?_update_self _ e2 (Obj.isFreed_of_fields (Obj.data_mapFields h3 _)),Obj.data_mapFields h3 _,by simp [hz]⟩ ?_)
 all_goals
  have d3:=Obj.data_mapFields h3 (·.setIfInBounds 1 (Value.ref g1.objs.size))
  have e3:=Heap.get?_update_self (Obj.mapFields (·.setIfInBounds 1 (Value.ref g1.objs.size))) e2 (Obj.isFreed_of_fields d3)
  have ne:g1.objs.size≠e:=Nat.ne_of_gt (Heap.lt_size e1)
  have kp:∀ b o,b≠e→g1.get? b=some o→((g1.push tb).update e (Obj.mapFields (·.setIfInBounds 1 (Value.ref g1.objs.size)))).get? b=some o:=fun b o z zb=>by
   rw [Heap.get?_update_other _ _ (Ne.symm z)];exact Heap.get?_push_of_some _ zb
 ·refine ⟨fun b o z=>kp b o (fun y=>by rw [y,nw] at z;cases z) (s1 b o z),nw,ff.of_keeps fun b o zb nf=>?_,_,_,e3,(Obj.cls_mapFields _ _).trans h2,d3,by rw [Array.getElem?_setIfInBounds_ne (by decide)];exact h4,.inr ⟨g1.objs.size,tb,ts,by simp [hz],s1.fresh,ne,?_,td,t3⟩⟩
  ·obtain ⟨sl,hs⟩:=sg.2.2 b o zb
   exact ⟨_,kp b _ (Zht zb nf h1 h3) hs,rfl⟩
  ·rw [Heap.get?_update_other _ _ (Ne.symm ne)];exact Heap.get?_push_size g1 tbf
 ·intro b o zb nf
  obtain ⟨sl,hs⟩:=sg.2.2 b o zb
  exact ⟨sl,kp b _ (Zht zb nf h1 h3) hs⟩
theorem Zg8 {T:Addr} {oT oe:Obj} {ts:Array Value} {v:Value} (st:B.StaysIn s.heap) (ff:s.heap.FunFrames B l) (h1:s.heap.get? e=some oe) (nT:B.get? T=none) (ne:T≠e) (hT:s.heap.get? T=some oT) (dT:oT.data=.fields ts) (hz:3<ts.size)
  (q:∀ h',B.StaysIn h'→h'.FunFrames B l→h'.get? e=some oe→(∃ o2 t2,h'.get? T=some o2∧o2.data=.fields t2∧t2[3]?=some v)→s.heap.UpToSlots h'→Q () { s with heap:=h' }):wpAny M A (setField (.ref T) 3 v) Q E s:=by
 refine wpAny_setField hT dT hz ?_
 have oth:∀ b,b≠T→(s.heap.update T (Obj.mapFields (·.setIfInBounds 3 v))).get? b=s.heap.get? b:=fun b z=>Heap.get?_update_other _ _ (Ne.symm z)
 refine q _ (fun b o z=>(oth b fun y=>by rw [y,nT] at z;cases z).trans (st b o z)) (ff.of_keeps fun b o zb nf=>⟨o,(oth b (Zht zb nf hT dT)).trans zb,rfl⟩) ((oth e (Ne.symm ne)).trans h1)
  ⟨_,_,Heap.get?_update_self _ hT (Obj.isFreed_of_fields (Obj.data_mapFields dT _)),Obj.data_mapFields dT _,by simp [hz]⟩ fun b o zb nf=>⟨o.slots,(oth b (Zht zb nf hT dT)).trans zb⟩
theorem ZhF {x:Value} {env env':Env} (h:env'.frame=env.frame):noteFrame x env'=noteFrame x env:=by
 unfold noteFrame PySem.frameOf;rw [h]
theorem Zg2 (hfl:fl=.none∨fl=rawInt L) (hfr:A.frames=some (env::outer)) (hf:env.frame=some L) (a:Air B (env::outer) e C fl s.heap) (q:∀ h',Air B (env::outer) e C (rawInt L) h'→(∃ oe vs T,h'.get? e=some oe∧oe.data=.fields vs∧vs[1]?=some (Value.ref T))→s.heap.UpToSlots h'→Q () { s with heap:=h' }) :
  wpAny M A (noteFrame (.ref e) env) Q E s:=by
 obtain ⟨st,nw,ff,oe,vs,h1,h2,h3,h4,r⟩:=a
 unfold noteFrame;simp only [hf]
 rcases r with r | ⟨T,oT,ts,r,nT,ne,hT,dT,t3⟩
 ·refine wpAny_bind (wpAny_field h1 h3 r ?_)
  rw [if_neg (by decide)]
  exact Zik hfr hf st nw ff h1 h2 h3 h4 (Array.getElem?_eq_some_iff.mp r).1 q
 ·refine wpAny_bind (wpAny_field h1 h3 r ?_)
  rw [if_pos (show (Value.ref T != Value.none)=true by simp)]
  refine wpAny_bind (wpAny_field hT dT t3 ?_)
  rcases hfl with rfl | rfl
  ·rw [if_neg (show ¬ (Value.none==rawInt L)=true by simp [rawInt])]
   refine wpAny_bind (Zg8 st ff h1 nT ne hT dT (Array.getElem?_eq_some_iff.mp t3).1 fun h' st' ff' h1' _ u=>?_)
   exact Zik (s:={ s with heap:=h' }) hfr hf st' nw ff' h1' h2 h3 h4 (Array.getElem?_eq_some_iff.mp r).1 fun h2 a ht u2=>q h2 a ht (u.trans u2)
  ·rw [if_pos (show (rawInt L==rawInt L)=true by simp [rawInt])]
   exact wpAny_pure (q s.heap ⟨st,nw,ff,oe,vs,h1,h2,h3,h4,.inr ⟨T,oT,ts,r,nT,ne,hT,dT,t3⟩⟩ ⟨oe,vs,T,h1,h3,r⟩ (.refl _))
theorem Zhd (a:Air B l e C fl s.heap) (q:∀ h',Air B l e C .none h'→s.heap.UpToSlots h'→Q () { s with heap:=h' }):wpAny M A (setFlight (.ref e) none) Q E s:=by
 obtain ⟨st,nw,ff,oe,vs,h1,h2,h3,h4,r⟩:=a
 unfold setFlight
 rcases r with r | ⟨T,oT,ts,r,nT,ne,hT,dT,t3⟩
 ·refine wpAny_bind (wpAny_field h1 h3 r ?_)
  rw [if_neg (by decide)]
  exact wpAny_pure (q s.heap ⟨st,nw,ff,oe,vs,h1,h2,h3,h4,.inl r⟩ (.refl _))
 ·refine wpAny_bind (wpAny_field h1 h3 r ?_)
  rw [if_pos (show (Value.ref T != Value.none)=true by simp)]
  exact Zg8 st ff h1 nT ne hT dT (Array.getElem?_eq_some_iff.mp t3).1 fun h' st' ff' h1' ⟨o2,t2,z1,z2,z3⟩ u=>q h' ⟨st',nw,ff',oe,vs,h1',h2,h3,h4,.inr ⟨T,o2,t2,r,nT,ne,z1,z2,z3⟩⟩ u
theorem Zlr (hfl:fl=.none∨fl=rawInt L) (hfr:A.frames=some (env::outer)) (hf:env.frame=some L) (a:Air B (env::outer) e C fl s.heap) (q:∀ h',Air B outer e C .none h'→s.heap.UpToSlots h'→Q () { s with heap:=h' }):wpAny M A (leaving env (.ref e)) Q E s:=by
 unfold leaving
 exact wpAny_bind (Zg2 hfl hfr hf a fun h1 a1 _ u1=>Zhd (s:={ s with heap:=h1 }) a1 fun h2 a2 u2=>q h2 a2.outs (u1.trans u2))
theorem Zl8 {α:Type} {what:String} {cenv:Env} {Q:α→Shared→Prop} {fl:Value} (hf:cenv.frame=some L) (a:Air B l e C fl s.heap) (ht:∃ oe vs T,s.heap.get? e=some oe∧oe.data=.fields vs∧vs[1]?=some (Value.ref T))
  (q:∀ h',Air B l e C (rawInt L) h'→s.heap.UpToSlots h'→E (.ref e) { s with heap:=h' }):wpAny M A (passOn what (.ref e) cenv) Q E s:=by
 obtain ⟨st,nw,ff,oe,vs,h1,h2,h3,h4,r⟩:=a
 obtain ⟨oe',vs',T',g1,g2,g3⟩:=ht
 rw [h1] at g1;cases g1
 rw [h3] at g2;cases g2
 unfold PySem.passOn
 rcases r with r | ⟨T,oT,ts,r,nT,ne,hT,dT,t3⟩
 ·rw [r] at g3;cases g3
 ·refine wpAny_bind (wpAny_field h1 h3 r ?_)
  rw [if_neg (show ¬ (Value.ref T==Value.none)=true by simp)]
  refine wpAny_bind ?_
  rw [hf]
  unfold setFlight
  refine wpAny_bind (wpAny_field h1 h3 r ?_)
  rw [if_pos (show (Value.ref T != Value.none)=true by simp)]
  exact Zg8 st ff h1 nT ne hT dT (Array.getElem?_eq_some_iff.mp t3).1 fun h' st' ff' h1' ⟨o2,t2,z1,z2,z3⟩ u=>wpAny_throw (q h' ⟨st',nw,ff',oe,vs,h1',h2,h3,h4,.inr ⟨T,o2,t2,r,nT,ne,z1,z2,z3⟩⟩ u)
theorem _root_.L2.ObjOk.ob {P:Program} {w:World} {H:Hp} {h:Heap} {x:Addr} {o:HO} (z:ObjOk P w H h x o):∃ ob,h.get? x=some ob:=by
 cases o with
 | lst xs=>obtain ⟨_,_,_,_,q⟩:=z;exact ⟨_,q⟩
 | tup xs=>obtain ⟨_,_,_,ob,q,_⟩:=z;exact ⟨_,q⟩
 | dK kvs=>obtain ⟨_,_,_,_,ob,_,_,q,_⟩:=z;exact ⟨_,q⟩
 | dT kvs=>obtain ⟨_,_,_,_,ob,_,_,q,_⟩:=z;exact ⟨_,q⟩
 | dct ks vs=>obtain ⟨_,_,_,ob,_,_,q,_⟩:=z;exact ⟨_,q⟩
 | set S n=>obtain ⟨ob,_,_,_,q,_⟩:=z;exact ⟨_,q⟩
 | ins D dx fs=>obtain ⟨_,_,_,q,_⟩:=z;exact ⟨_,q⟩
 | own y=>exact z
 | xd fs=>obtain ⟨_,⟨_,_,_,q,_⟩,_⟩:=z;exact ⟨_,q⟩
 | rng lo hi=>obtain ⟨_,_,_,q⟩:=z;exact ⟨_,q⟩
 | frz ob u=>exact ⟨_,z.1⟩
 | tbl ps=>exact ⟨_,z⟩
 | met f y=>exact ⟨_,z⟩
 | ext φ=>exact z.2.1
def ZoU (P:Program) (w:World) (l:List Env) (H H':Hp) (s:Heap) (e C:Addr) (h:Heap) (fl:Value):Prop :=
 Same H H'∧Un (frs l) [] H H' s h∧∃ B,HOk P w H' B∧(∀ b o,s.get? b=some o→H b=none→b∉frs l→B.get? b=some o)∧Air B l e (.ref C) fl h
def Fly (P:Program) (w:World) (l:List Env) (H H':Hp) (s:Heap) (e C:Addr) (h:Heap):Prop:=ZoU P w l H H' s e C h .none
def Mrk (Y:Cx) (fl:Value):Prop:=fl=.none∨∃ L,Y.env.frame=some L∧fl=rawInt L
def CXv (P:Program) (w:World):CXT:=fun outer H s E e s'=>∃ a C H',e=.ref a∧s'.os=s.os∧AllBare s'.gens∧Fly P w outer H H' s.heap a C s'.heap∧E (.ref C) none H'
def Thr (Y:Cx) (pins:List (Addr×Obj)) (σ:St) (H:Hp) (C:Addr) (e:Value) (s':Shared):Prop :=
 ∃ fl a H2 H' s2,Mrk Y fl∧e=.ref a∧Inv Y pins σ H2 s2∧Same H H2∧s'.os=s2.os∧AllBare s'.gens∧ZoU Y.prog Y.w Y.stack H2 H' s2.heap a C s'.heap fl
theorem Thr.from {Y:Cx} {pins:List (Addr×Obj)} {σ:St} {H H1:Hp} {C:Addr} {v:Value} {s':Shared} (sm:Same H H1) (t:Thr Y pins σ H1 C v s'):Thr Y pins σ H C v s':=by
 obtain ⟨fl,a,H2,H',s2,mk,e1,I,sm2,r⟩:=t
 exact ⟨fl,a,H2,H',s2,mk,e1,I,sm.trans sm2,r⟩
theorem Zjc {fs:List Addr} {l:List Env} {H H2 H':Hp} {s s2 h h':Heap} {P:Program} {w:World} {C:Value} (u1:Un fs [] H H2 s s2) (u2:Un (frs l) [] H2 H' s2 h) (hk:HOk P w H' B) (k:∀ b o,s2.get? b=some o→H2 b=none→b∉frs l→B.get? b=some o)
  (hs:∀ b o,s.get? b=some o→H b=none→b∈frs l→b∈fs) (sm:Same H2 H') (a:Air B l e C fl h) (st:B.StaysIn h') (up:∀ b o,b∈frs l→h.get? b=some o→(∀ vs,o.data≠.fields vs)→∃ sl,h'.get? b=some { o with slots:=sl }):Un fs [] H H' s h':=by
 have nx:∀ b:Addr,b∉([]:List Addr):=fun b=>by simp
 have fr:∀ b o,s2.get? b=some o→H2 b=none→b∈frs l→∃ sl,h'.get? b=some { o with slots:=sl }:=fun b o z n hb=>by
  obtain ⟨sl,z1⟩:=u2.any z n (nx b)
  obtain ⟨_,o',z2,nf⟩:=a.fun_.mem hb
  rw [z1] at z2;cases z2
  obtain ⟨sl',z3⟩:=up b _ hb z1 nf
  exact ⟨sl',z3⟩
 refine ⟨fun b o z n hb _=>?_,fun b o z n hb _=>?_,fun b o z n _=>?_,fun b o z _=>?_,fun b xs z=>u2.tups b xs (u1.tups b xs z),fun b o u z=>u2.frzs b o u (u1.frzs b o u z),fun b ps z=>?_⟩
 ·exact st b o (k b o (u1.keep b o z n hb (nx b)) (u1.free b o z n (nx b)) fun hl=>hb (hs b o z n hl))
 ·obtain ⟨sl,z1⟩:=u1.slot b o z n hb (nx b)
  by_cases hl:b∈frs l
  ·obtain ⟨sl',z2⟩:=fr b _ z1 (u1.free b o z n (nx b)) hl
   exact ⟨sl',z2⟩
  ·exact ⟨sl,st b _ (k b _ z1 (u1.free b o z n (nx b)) hl)⟩
 ·obtain ⟨o',z1⟩:=u1.there b o z (nx b)
  exact u2.free b o' z1 (u1.free b o z n (nx b)) (nx b)
 ·obtain ⟨o1,z1⟩:=u1.there b o z (nx b)
  cases hb:H2 b with
  | none =>
   by_cases hl:b∈frs l
   ·obtain ⟨sl',z2⟩:=fr b o1 z1 hb hl
    exact ⟨_,z2⟩
   ·exact ⟨o1,st b _ (k b _ z1 hb hl)⟩
  | some u =>
   obtain ⟨o2,z2⟩:=(hk b u (sm b u hb)).ob
   exact ⟨o2,st b _ z2⟩
 ·obtain ⟨m1,z1⟩:=u1.tbls b ps z
  obtain ⟨m2,z2⟩:=u2.tbls b _ z1
  exact ⟨m1++m2,by rw [z2,Array.append_assoc]⟩
theorem ZgV {P:Program} {w:World} {H:Hp} {h:Heap} {fs:List Addr} (hk:HOk P w H h) (nf:∀ b∈fs,H b=none):HOk P w H (hideAll h fs):=fun x o z =>
 (hk x o z).stay (fun b u hb q=>hideAll_get _ q fun hm=>by
  have:=nf b hm
  rcases hb with y | y
  ·rw [y,z] at this;cases this
  ·rw [y] at this;cases this) (fun _ q=>q) fun _ _ q=>q
theorem ZmB {Y:Cx} {pins:List (Addr×Obj)} {σ:St} {H:Hp} {s:Shared} {D x:Addr} {vs:List Value} {h':Heap} (I:Inv Y pins σ H s) (m:Heap.MadeExcOf s.heap h' x (.ref D) vs):Thr Y pins σ H D (.ref x) { s with heap:=h' }:=by
 have ff:=I.stack
 have hin:∀ env∈Y.stack,∀ b,env.frame=some b→b∈Y.stack.filterMap (·.frame):=fun env he b hb=>List.mem_filterMap.mpr ⟨env,he,hb⟩
 have fb:(hideAll s.heap (frs Y.stack)).get? x=none:=by
  cases q:(hideAll s.heap (frs Y.stack)).get? x with
  | none=>rfl
  | some o=>have:=of_hideAll _ q;rw [m.new] at this;cases this
 have ff2:=funFrames_hide ff hin
 obtain ⟨tp,t1,t2,t3⟩:=m.there
 refine ⟨.none,x,H,H,s,.inl rfl,rfl,I,Same.refl H,rfl,I.bare,Same.refl H,Un.kept m.keeps,hideAll s.heap (frs Y.stack),ZgV I.hok I.stkFree,fun b o z n hb=>hideAll_get _ z hb,⟨fun b o z=>m.keeps b o (of_hideAll _ z),fb,?_,_,_,t1,rfl,rfl,rfl,.inl rfl⟩⟩
 exact ff2.of_keeps fun b o z _=>⟨o,m.keeps b o z,rfl⟩
theorem ZlX {Y:Cx} {pins:List (Addr×Obj)} {σ:St} {H:Hp} {s':Shared} {D:Addr} {v:Value} {E':XK} (ys:Y.stack=Y.env::Y.outer) (yf:Y.env.frame=some Y.env.locals) (ye:Y.ex=[]) (sm0:Same Y.H₀ H) (t:Thr Y pins σ H D v s') (hE:∀ H',Same Y.H₀ H'→E' (.ref D) none H') :
  wpAny M Y.A (leaving Y.env v) (fun _ s''=>CXv Y.prog Y.w Y.outer Y.H₀ Y.s₀ E' v s'') E s':=by
 obtain ⟨fl,x,H2,H',s2,mk,rfl,I,sm,os,ba,sm2,u,B,hk,kb,air⟩:=t
 have frm:=I.ok.frames
 rw [ys] at air u kb frm
 have hfl:fl=.none∨fl=rawInt Y.env.locals:=by
  rcases mk with z | ⟨L,z1,z2⟩
  ·exact .inl z
  ·rw [yf] at z1;cases z1;exact .inr z2
 refine Zlr hfl frm yf air fun h' a2 up=>⟨x,D,H',rfl,os.trans I.os,ba,⟨(sm0.trans sm).trans sm2,?_,B,hk,fun b o z n hb=>?_,a2⟩,hE H' ((sm0.trans sm).trans sm2)⟩
 ·have b0:=I.base
  rw [ye] at b0
  refine Zjc (l:=Y.env::Y.outer) b0 u hk kb (fun b o z n hb=>?_) sm2 air a2.stay (fun b o _=>up b o)
  rcases List.mem_cons.mp (show b∈Y.env.locals::frs Y.outer by unfold frs at hb ⊢;rw [List.filterMap_cons,yf] at hb;exact hb) with y | y
  ·exact absurd (y ▸ Heap.lt_size z) (Nat.not_lt.mpr I.ok.above)
  ·exact y
 ·have b0:=I.base
  rw [ye] at b0
  refine kb b o (b0.keep b o z n hb (by simp)) (b0.free b o z n (by simp)) fun hm=>?_
  rcases List.mem_cons.mp (show b∈Y.env.locals::frs Y.outer by unfold frs at hm ⊢;rw [List.filterMap_cons,yf] at hm;exact hm) with y | y
  ·exact absurd (y ▸ Heap.lt_size z) (Nat.not_lt.mpr I.ok.above)
  ·exact hb y
end
end L2
namespace L2
open PySem PySem.Spec PyProof.Rows PySem.W
abbrev Cx.hand (Y:Cx) (x:Addr):Cx:={ Y with A:=Y.A.mark (some (.ref x)),calm:=false }
section
variable {Y:Cx} {pins:List (Addr×Obj)} {σ:St} {H H2 H':Hp} {s s2 s':Shared} {x D G:Addr} {fl f0:Value} {B h h':Heap}
theorem Inv.hand (I:Inv Y pins σ H s) (x:Addr):Inv (Y.hand x) pins σ H s :=
 ⟨⟨I.ok.mod,I.ok.kind,I.ok.glob,I.ok.blt,I.ok.above,I.ok.inj,I.ok.has,I.ok.cab,(fun z=>nomatch z),I.ok.frames,I.ok.stk,I.ok.exf,I.ok.bs,I.ok.bsz,I.ok.noex,I.ok.exfs,I.ok.funs,I.ok.frf⟩,I.os,I.bare,I.base,I.loc,I.cell,I.free,I.freeC,I.pin,I.hok,I.len⟩
theorem Inv.back (ok:Y.Ok) (I:Inv (Y.hand x) pins σ H s):Inv Y pins σ H s:=⟨ok,I.os,I.bare,I.base,I.loc,I.cell,I.free,I.freeC,I.pin,I.hok,I.len⟩
theorem Zkh (I:Inv Y pins σ H2 s2) (os:s'.os=s2.os) (ba:AllBare s'.gens) (sm:Same H2 H') (u:Un (frs Y.stack) [] H2 H' s2.heap h) (hk:HOk Y.prog Y.w H' B) (kb:∀ b o,s2.heap.get? b=some o→H2 b=none→b∉frs Y.stack→B.get? b=some o)
  (a0:Air B Y.stack x (.ref D) f0 h) (a:Air B Y.stack x (.ref D) fl h') (up:h.UpToSlots h'):H2 x=none∧Same H2 (upd H' x (.ext (XAt x D)))∧Inv Y pins σ (upd H' x (.ext (XAt x D))) { s' with heap:=h' }:=by
 have hx:H' x=none:=by
  cases q:H' x with
  | none=>rfl
  | some o=>obtain ⟨ob,z⟩:=(hk x o q).ob;rw [a.new] at z;cases z
 have sx:s2.heap.get? x=none:=by
  cases q:s2.heap.get? x with
  | none=>rfl
  | some o =>
   cases q2:H2 x with
   | some o2=>rw [sm x o2 q2] at hx;cases hx
   | none =>
    by_cases hf:x∈frs Y.stack
    ·obtain ⟨_,o3,z3,nf⟩:=a0.fun_.mem hf
     obtain ⟨oe,vs,z1,_,z2,_⟩:=a0.rcd
     rw [z1] at z3;cases z3;exact absurd z2 (nf vs)
    ·have:=kb x o q q2 hf;rw [a.new] at this;cases this
 have u':=Zjc (Un.refl (fs:=frs Y.stack)) u hk kb (fun _ _ _ _ z=>z) sm a0 a.stay (fun b o _=>up b o)
 have ub:∀ b o,H' b=some o→(upd H' x (.ext (XAt x D))) b=some o:=fun b o q=>by rw [ZB (ZX q hx)];exact q
 refine ⟨sm.free hx,fun b o q=>ub b o (sm b o q),I.call' (s':={ s' with heap:=h' }) (ch:=[]) os ⟨u'.keep,u'.slot,fun b o z n hb=>?_,u'.there,fun b xs z=>ub b _ (u'.tups b xs z),fun b o v z=>ub b _ (u'.frzs b o v z),fun b ps z=>?_⟩ (fun b v q=>?_) ba (fun b z=>absurd z (by simp))⟩
 ·rw [ZB (fun y=>by rw [y,sx] at z;cases z)];exact u'.free b o z n hb
 ·obtain ⟨m,q⟩:=u'.tbls b ps z;exact ⟨m,ub b _ q⟩
 ·by_cases e:b=x
  ·subst e
   rw [Zaw] at q;cases q
   obtain ⟨oe,vs,z1,z2,z3,z4,_⟩:=a.rcd
   exact ⟨⟨oe,vs,z1,z2,z3,z4⟩,⟨oe,z1⟩,fun h1 h2 ⟨o,ws,y1,y2⟩ k=>⟨o,ws,k o y1,y2⟩⟩
  ·rw [ZB e] at q
   exact (hk b v q).stay (fun c o _ z=>a.stay c o z) (fun c z=>ub c _ z) fun c xs z=>ub c _ z
theorem Inv.gone {m':Str→Option Value} {tk:Nat} (I:Inv Y pins σ H s) (hn:h'.Ns Y.env.locals m') (sb:Heap.SameBut Y.env.locals s.heap h'):Inv Y pins (List.replicate Y.N.length none) H { s with heap:=h',toks:=tk }:=by
 have lt:∀ b o,Y.s₀.heap.get? b=some o→b≠Y.env.locals:=fun b o z=>Nat.ne_of_lt (Nat.lt_of_lt_of_le (Heap.lt_size z) I.ok.above)
 refine ⟨I.ok,I.os,I.bare,⟨fun b o z n hb hx=>(sb.2 b (lt b o z)).trans (I.base.keep b o z n hb hx),fun b o z n hb hx=>?_,I.base.free,fun b o z hx=>?_,I.base.tups,I.base.frzs,I.base.tbls⟩,⟨m',hn,fun i y v e1 e2 _=>?_⟩,fun y c z=>?_,I.free,I.freeC,fun p hp=>?_,fun b v q=>?_,by simp⟩
 ·obtain ⟨sl,q⟩:=I.base.slot b o z n hb hx;exact ⟨sl,(sb.2 b (lt b o z)).trans q⟩
 ·obtain ⟨o',q⟩:=I.base.there b o z hx;exact ⟨o',(sb.2 b (lt b o z)).trans q⟩
 ·rw [List.getElem?_replicate] at e2;split at e2<;>cases e2
 ·obtain ⟨w,q⟩:=I.cell y c z;exact ⟨w,q.sameBut sb (I.cne y c z)⟩
 ·obtain ⟨z,n,ne,nf,dd⟩:=I.pin p hp;exact ⟨(sb.2 p.1 ne).trans z,n,ne,nf,dd⟩
 ·refine (I.hok b v q).stay (fun c o hc z=>(sb.2 c fun y=>?_).trans z) (fun _ z=>z) fun _ _ z=>z
  have nl:=I.free
  rcases hc with hc | hc
  ·rw [hc] at y;rw [y,nl] at q;cases q
  ·rw [y,nl] at hc;cases hc
theorem Zl7 {i:Nat} {cx n:Str} {np pos:Pos} {b0:Stmt} {suite:List Stmt} {ZV:List ExceptHandler} {v:Value} {Q:Flow→Shared→Prop} {E:Value→Shared→Prop} {Q':VK} (ys:Y.stack=Y.env::Y.outer) (yf:Y.env.frame=some Y.env.locals) (t:Thr Y pins σ H D v s')
  (hm:Y.mg cx=some (.ref G)) (hg:Gl Y cx) (hx:exmOne Y.K (.ref D) (.ref G)=some true) (hN:Y.N.Nodup) (hi:Y.N[i]?=some n) (hl:Y.env.scope.names.lookup n=some .local)
  (k:∀ x H3 s3,H x=none→Same H H3→Inv (Y.hand x) pins (σ.set i (some (.ref x))) H3 s3→H3 x=some (.ext (XAt x D)) →
   wpAny (model Y.prog Y.w) (Y.A.mark (some (.ref x))) (execs (b0::suite) Y.env) (fun f s4=>∃ u vv σ' H',f=.ret u∧Inv (Y.hand x) pins σ' H' s4∧RelV vv u∧Q' vv H') (fun _ _=>False) s3)
  (fin:∀ u vv σ' H' s5,Inv Y pins σ' H' s5→RelV vv u→Q' vv H'→Q (.ret u) s5) (hd:(cx==("__debug__":Str))=false:=by decide) :
  wpAny (model Y.prog Y.w) Y.A (noteFrame v Y.env) (fun _ s2=>wpAny (model Y.prog Y.w) Y.A (setFlight v none) (fun _ s3=>wpAny (model Y.prog Y.w) Y.A (handleBy v Y.env (.ExceptHandler (some (.Name cx np)) (some n) (b0::suite) pos::ZV)) Q E s3) E s2) E s':=by
 obtain ⟨fl,x,H2,H',s2,mk,rfl,I,sm0,os,ba,sm,u,B,hk,kb,air⟩:=t
 have frm:=I.ok.frames
 have air1:=air
 rw [ys] at frm air1
 have hfl:fl=.none∨fl=rawInt Y.env.locals:=by
  rcases mk with z | ⟨L,z1,z2⟩
  ·exact .inl z
  ·rw [yf] at z1;cases z1;exact .inr z2
 refine Zg2 hfl frm yf air1 fun h4 a4 _ up4=>Zhd (s:={ s' with heap:=h4 }) a4 fun h5 a5 up5=>?_
 rw [← ys] at a5
 have up:=up4.trans up5
 obtain ⟨_,sm5,I5⟩:=Zkh I os ba sm u hk kb air a5 up
 obtain ⟨oe,vs,e1,e2,e3,_⟩:=id a5.rcd
 have LT:Looks (model Y.prog Y.w) h5 (typeOf (.ref x)) (.ref D):=fun A' Q' E' s' kk q=>by
  unfold typeOf;exact wpAny_bind (wpAny_loadPart (kk _ _ e1) (wpAny_pure (by rw [e2];exact q)))
 refine wpAny_handleBy_cons (codeAny_handlers_test ?_) (by intro q;cases q)
 refine Zfh (X:=Y.hand x) (I5.hand x) hg hm ?_ hd
 refine (exm_one (K:=Y.K) I5.kIn LT hx).here ?_
 refine codeAny_handlers_suite_as (Zhd (s:={ s' with heap:=h5 }) a5 fun h6 a6 up6=>?_)
 obtain ⟨hx6,sm6,I6⟩:=Zkh (s':=s') I os ba sm u hk kb air a6 (up.trans up6)
 refine Zg6 (X:=Y.hand x) (I6.hand x) hN hi (.inl hl) (v:=.ref x) rfl (fun s7 I7=>?_) (.inr hl)
 refine wpAny_mono (k x _ s7 (sm0.free hx6) (sm0.trans sm6) I7 Zaw) (fun f s8 hf=>?_) fun _ _ z=>z.elim
 obtain ⟨uu,vv,σ',H8,rfl,I8,rv,q⟩:=hf
 obtain ⟨m8,n8,_⟩:=id I8.loc
 refine wpAny_nameGoes hl n8 (by rw [I.ok.kind];rfl) fun h9 m9 n9 sb9=>?_
 exact fin uu vv _ H8 _ ((I8.back I.ok).gone n9 sb9) rv q
end
end L2
namespace L2
open PySem PySem.Spec PyProof.Rows PySem.W
def ThrC (Y:Cx) (pins:List (Addr×Obj)) (σ:St) (H:Hp) (c:Str) (e:Value) (s':Shared):Prop:=∃ D,nsIn Y.K mainGlobals c=some (some (.ref D))∧Thr Y pins σ H D e s'
def NoX (Y:Cx):Prop:=∀ e s,¬ Y.xe e s
theorem ThrC.from {Y:Cx} {pins:List (Addr×Obj)} {σ:St} {H H1:Hp} {c:Str} {v:Value} {s':Shared} (sm:Same H H1) (t:ThrC Y pins σ H1 c v s'):ThrC Y pins σ H c v s':=by
 obtain ⟨D,e,t⟩:=t
 exact ⟨D,e,t.from sm⟩
structure XE (Y:Cx) (K:Frag) (M:Fb) (H0:Hp) (e:Expr) (h:VE→Option Str):Prop where
 h:∀ pins s σ H ρ c,Inv Y pins σ H s→Rel K M H0 ρ σ H→h ρ=some c→wpAny (model Y.prog Y.w) Y.A (eval e Y.env) (fun _ _=>False) (ThrC Y pins σ H c) s
structure XT (Y:Cx) (K:Frag) (M:Fb) (H0:Hp) (st:Stmt) (h:VE→Option Str):Prop where
 h:∀ pins s σ H ρ c,Inv Y pins σ H s→Rel K M H0 ρ σ H→h ρ=some c→wpAny (model Y.prog Y.w) Y.A (exec st Y.env) (fun _ _=>False) (ThrC Y pins σ H c) s
structure XS (Y:Cx) (K:Frag) (M:Fb) (H0:Hp) (st:Stmt) (h:VE→Option Str):Prop where
 h:∀ pins s σ H ρ c,Inv Y pins σ H s→Rel K M H0 ρ σ H→h ρ=some c→wpAny (model Y.prog Y.w) Y.A (exec st Y.env) (fun _ _=>False) (fun e s'=>∃ σ' H1,Same H0 H1∧ThrC Y pins σ' H1 c e s') s
structure XB (Y:Cx) (K:Frag) (M:Fb) (H0:Hp) (b:List Stmt) (h:VE→Option Str):Prop where
 h:∀ pins s σ H ρ c,Inv Y pins σ H s→Rel K M H0 ρ σ H→h ρ=some c→wpAny (model Y.prog Y.w) Y.A (execs b Y.env) (fun _ _=>False) (fun e s'=>∃ σ' H1,Same H0 H1∧ThrC Y pins σ' H1 c e s') s
section
variable {Y:Cx} {K:Frag} {M:Fb} {H0:Hp} {e:Expr} {es:List Expr} {st:Stmt} {ZV a b:List Stmt} {h h1 h2:VE→Option Str} {g:VE→Res} {pos p np cpos:Pos} {fa:VE→Option (List Sl)} {x:Str}
theorem XT.s (z:XT Y K M H0 st h):XS Y K M H0 st h:=⟨fun pins s σ H ρ c I R q=>wpAny_mono (z.h pins s σ H ρ c I R q) (fun _ _ z=>z) fun _ _ z=>⟨σ,H,R.same,z⟩⟩
theorem Zb0 (z:XE Y K M H0 e h):XT Y K M H0 (.Return (some e) pos) h:=⟨fun pins s σ H ρ c I R q=>wpAny_Return_some (wpAny_mono (z.h pins s σ H ρ c I R q) (fun _ _ z=>z.elim) fun _ _ z=>z)⟩
theorem Zhw {pos':Pos} (z:XE Y K M H0 e h) (hs:swapsWith e (some (.Name x pos')) pos.line Y.env=pure false:=by rfl):XT Y K M H0 (.Assign [.Name x pos'] e pos) h :=
 ⟨fun pins s σ H ρ c I R q=>wpAny_Assign_Name (wpAny_mono (z.h pins s σ H ρ c I R q) (fun _ _ z=>z.elim) fun _ _ z=>z) hs⟩
theorem ZnZ (z:XE Y K M H0 e h) (hs:swapsWith e none pos.line Y.env=pure false:=by rfl):XT Y K M H0 (.Expr e pos) h :=
 ⟨fun pins s σ H ρ c I R q=>wpAny_Expr_any (wpAny_mono (z.h pins s σ H ρ c I R q) (fun _ _ z=>z.elim) fun _ _ z=>z) I.quiet hs⟩
theorem Zad (z:XS Y K M H0 st h):XB Y K M H0 (st::ZV) h:=⟨fun pins s σ H ρ c I R q=>wpAny_execs_cons (wpAny_mono (z.h pins s σ H ρ c I R q) (fun _ _ z=>z.elim) fun _ _ z=>z)⟩
@[simp] def nxO (r:Res) (h:VE→Option Str):Option Str:=match r with
  | .next ρ=>h ρ
  | _=>none
@[simp] def orX (o:Option Str) (r:Option Str):Option Str:=match o with
  | some c=>some c
  | none=>r
theorem Zke (nx:NoX Y) (z1:JS Y st (tS K M H0 g)) (z2:XB Y K M H0 ZV h):XB Y K M H0 (st::ZV) (fun ρ=>nxO (g ρ) h):=⟨fun pins s σ H ρ c I R q=>by
 cases hg:g ρ with
 | next ρ' =>
  rw [hg] at q
  refine wpAny_execs_cons (wpAny_mono (z1.h pins s σ H { nx:=fun σ' H'=>Rel K M H0 ρ' σ' H',rt:=fun _ _=>False } I ⟨ρ,R,?_⟩) (fun f s1 z=>?_) fun e s' z=>(nx e s' z).elim)
  ·rw [hg];exact fun σ' H' R' _=>R'
  ·cases f with
   | next=>obtain ⟨σ',H',I',R'⟩:=z;exact z2.h pins s1 σ' H' ρ' c I' R' q
   | ret v=>obtain ⟨_,_,_,_,_,z⟩:=z;exact z.elim
   | brk=>obtain ⟨_,_,_,z⟩:=z;exact z.elim
   | cont=>obtain ⟨_,_,_,z⟩:=z;exact z.elim
 | fail=>rw [hg] at q;cases q
 | brk ρ'=>rw [hg] at q;cases q
 | cont ρ'=>rw [hg] at q;cases q
 | ret r=>rw [hg] at q;cases q⟩
theorem ZbN (nx:NoX Y) (z0:XS Y K M H0 st h1) (z1:JS Y st (tS K M H0 g)) (z2:XB Y K M H0 ZV h):XB Y K M H0 (st::ZV) (fun ρ=>orX (h1 ρ) (nxO (g ρ) h)):=⟨fun pins s σ H ρ c I R q=>by
 cases hh:h1 ρ with
 | some c'=>rw [hh] at q;cases q;exact (Zad z0).h pins s σ H ρ c I R hh
 | none=>rw [hh] at q;exact (Zke nx z1 z2).h pins s σ H ρ c I R q⟩
@[simp] def Z4 (t:Option Bool) (a b:Option Str):Option Str:=match t with
  | some true=>a
  | some false=>b
  | none=>none
theorem ZdR {c:Expr} {t:VE→Option Bool} (nx:NoX Y) (hc:JT Y c (tB' K M H0 t)) (za:XB Y K M H0 a h1) (zb:XB Y K M H0 b h2):XS Y K M H0 (.If c a b pos) (fun ρ=>Z4 (t ρ) (h1 ρ) (h2 ρ)):=⟨fun pins s σ H ρ n I R q=>by
 cases ht:t ρ with
 | none=>rw [ht] at q;cases q
 | some k =>
  rw [ht] at q
  refine wpAny_If (wpAny_mono (hc.h pins s σ H (fun k' H'=>k'=k∧Same H H') I ⟨ρ,k,R,ht,fun H' sm=>⟨rfl,sm⟩⟩) (fun d s1 ⟨H1,I1,e1,sm⟩=>?_) fun e s' z=>(nx e s' z).elim)
  subst e1
  cases d with
  | true=>exact za.h pins s1 σ H1 ρ n I1 (R.st sm) q
  | false=>exact zb.h pins s1 σ H1 ρ n I1 (R.st sm) q⟩
def spX (K:Frag) (F:List Sl→Option Str):Sp:=fun vs H Q E=>∃ N ss c,(∀ a,N a→H a≠none)∧ArgsOk K N H ss vs∧F ss=some c∧∀ D H',nsIn K mainGlobals c=some (some (.ref D))→Same H H'→E (.ref D) none H'
def fnX (np n:Nat) (h:VE→Option Str):List Sl→Option Str:=fun ss=>if ss.length=np then h (ss++List.replicate (n-np) .no) else none
theorem ZY {F:List Sl→Option Str} {k:Nat} {fn:Addr} {fd:FuncData} {ps:List Str} (nx:NoX Y) (hK:Y.K=K) (G:FnOk Y.prog Y.w Y.K Y.mg Y.base (CXv Y.prog Y.w) k fn fd ps (spX K F)) (hr:Room k Y.A) (hg:Gl Y x) (hm:Y.mg x=some (.ref fn)) (hk:keepIn Y.K (.ref fn)=true) (hb:Binds Y.K fd ps [])
  (ha:JA Y (e::es) (tA' K M H0 fa)) (hdb:(x==("__debug__":Str))=false:=by decide) (he:starEach (e::es) Y.env=(false,eval e Y.env)::starEach es Y.env:=by exact Zb5 (fun _ _ z=>nomatch z)) (hpl:(backTo pos (starEach es Y.env)).any (·.1)=false:=by rfl) :
  XE Y K M H0 (.Call (.Name x p) (e::es) [] pos) (fun ρ=>(fa ρ).bind F):=⟨fun pins s σ H ρ c I R q=>by
 cases hf:fa ρ with
 | none=>rw [hf] at q;cases q
 | some ss =>
  rw [hf] at q
  refine wpAny_Call_Name_kw (Zfh I hg hm ?_ hdb)
  refine callWith_K (h₀:=Y.base) I.ok.mod.kin hk (wpAny_mono (ha.h pos pins s σ H (fun vs H1=>Same H H1∧ArgsOk K (Nf M ρ σ) H1 ss vs) I ⟨ρ,ss,R,hf,fun vs H1 sm h1=>⟨sm,h1⟩⟩) (fun us s1 ⟨vs,H1,I1,r,sm,h1⟩=>⟨I1.kIn,?_⟩) fun e s' z=>(nx e s' z).elim) he hpl
  have sp:spX K F vs H1 (fun _ _=>False) (fun v _ H'=>∃ D,v=.ref D∧nsIn K mainGlobals c=some (some (.ref D))∧Same H1 H'):=⟨Nf M ρ σ,ss,c,(R.st sm).nh,h1,q,fun D H' e1 e2=>⟨D,rfl,e1,e2⟩⟩
  have hl:(us++[]).length=ps.length:=by rw [List.append_nil,← r.length];exact G.len _ _ _ _ sp
  have bd:=hb s1 us I1.kIn hl
  rw [List.append_nil] at bd
  refine wpAny_call (codeAny_mono (G.run Y.A Y.stack s1 H1 ⟨us,[]⟩ us vs _ _ hr I1.env0 bd r sp) fun r s' hq=>?_)
  cases r with
  | error v =>
   obtain ⟨a,C,H',e1,os,ba,fl,D,e2,e3,e4⟩:=hq
   cases e2
   exact ⟨C,by rw [hK];exact e3,.none,a,H1,H',s1,.inl rfl,e1,I1,sm,os,ba,fl⟩
  | ok f =>
   cases f with
   | ret u=>obtain ⟨_,_,_,_,_,_,_,z⟩:=hq;exact z.elim
   | next=>exact hq.elim
   | brk=>exact hq.elim
   | cont=>exact hq.elim⟩
structure XMk (K:Frag) (D:Addr):Prop where
 ex:∃ nm q N bs bm hdct sn sub ab col dd k0 k1 k2 k3 k5,K.lookup D=some (excClassObj nm q D N bs bm hdct sn sub ab col dd k0 k1 k2 k3 k5 "ValueError.__new__")∧tailIn K [.type "ValueError",.type "Exception",.type "BaseException",.type "object"] bm=true∧nsOkIn K N=true∧nsIn K N "__init__"=some none
@[simp] def ZbV (o:Option (List Sl)) (x:Str):Option Str:=match o with
  | some [_]=>some x
  | _=>none
theorem ZdG {D:Addr} (nx:NoX Y) (hK:Y.K=K) (hc:Y.calm=true) (mk:XMk K D) (hn:nsIn K mainGlobals x=some (some (.ref D))) (hg:Gl Y x) (hm:Y.mg x=some (.ref D)) (ha:JA Y (e::es) (tA' K M H0 fa))
  (hdb:(x==("__debug__":Str))=false:=by decide) (he:starEach (e::es) Y.env=(false,eval e Y.env)::starEach es Y.env:=by exact Zb5 (fun _ _ z=>nomatch z)) (hpl:(backTo cpos (starEach es Y.env)).any (·.1)=false:=by rfl) :
  XT Y K M H0 (.Raise (some (.Call (.Name x np) (e::es) [] cpos)) none pos) (fun ρ=>ZbV (fa ρ) x):=⟨fun pins s σ H ρ c I R q=>by
 subst hK
 cases hf:fa ρ with
 | none=>rw [hf] at q;cases q
 | some ss =>
  rw [hf] at q
  obtain ⟨s0,rfl⟩:∃ s0,ss=[s0]:=by
   cases ss with
   | nil=>cases q
   | cons s0 r=>cases r with
    | nil=>exact ⟨s0,rfl⟩
    | cons _ _=>cases q
  cases q
  obtain ⟨nm,qn,N,bs,bm,hdct,sn,sub,ab,col,dd,k0,k1,k2,k3,k5,l1,l2,l3,l4⟩:=mk.ex
  have F:=PySem.F.excBase_ValueError
  refine wpAny_Raise_call_subU (mN:=Y.base.nsMap N) (nm:=nm) (q:=qn) (N:=N) (bs:=bs) (hdct:=hdct) (sn:=sn) (sub:=sub) (ab:=ab) (col:=col) (dd:=dd) (k0:=k0) (k1:=k1) (k2:=k2) (k3:=k3) (k5:=k5) F F.hasB F ((tail_of_in I.kIn l2).hasType F.hasBase) (I.ok.hd hc) (by rw [he];exact hpl) (nsMap_none_of_in I.ok.mod.kin l3 l4) (Zfh I hg hm ⟨rfl,?_⟩ hdb)
  rw [he]
  refine Calls.evalArgs_plain (wpAny_mono (he ▸ ha.h cpos pins s σ H (fun vs H1=>Same H H1∧ArgsOk Y.K (Nf M ρ σ) H1 [s0] vs) I ⟨ρ,[s0],R,hf,fun vs H1 sm h1=>⟨sm,h1⟩⟩) (fun us s1 ⟨vs,H1,I1,r,sm,h1⟩=>?_) fun e s' z=>(nx e s' z).elim)
  have ul:us.length=1:=by rw [← r.length,← h1.length];rfl
  refine ⟨rfl,?_,I1.kIn _ _ l1,?_,tail_of_in I1.kIn l2,fun h' v m=>⟨D,hn,(ZmB I1 m).from sm⟩⟩
  ·show us.length≤sizeLine
   rw [ul];exact Nat.le_of_lt (Zlt (by decide))
  ·exact (Heap.Ns.of_isNs (isNs_of_in I.ok.mod.kin l3)).keeps I1.bk⟩
theorem Zb6 {P:Program} {w:World} {mg:Str→Option Value} {base:Heap} {x qual:Str} {st:Stmt} {f:Addr} {fd:FuncData} {N ps:List Str} {k:Nat} {h:VE→Option Str} (F:Fun K x qual st f fd) (S:ZI N ps (Zn st)) (hnp:ps.length≤N.length)
  (hb:∀ (cdv:Value) (A:Around) (outer:List Env) (s:Shared) (H:Hp) (E:XK) (M:Fb) (H0:Hp),Room k (A.deeper (envOfC qual (Zn st) s.heap.objs.size f cdv)) →
   XB (ZeZ CX0 P w K mg base N qual (Zn st) f cdv A outer s H E).nox K M H0 (ZG st) h):FnOk P w K mg base (CXv P w) (k+1) f fd ps (spX K (fnX ps.length N.length h)):=by
 obtain ⟨oc,od,kV,doc,pm,an,cdv,ct,osl,rfl,lk,hcd⟩:=F.ex
 have len:∀ vs H Q E,spX K (fnX ps.length N.length h) vs H Q E→vs.length=ps.length:=fun vs H Q E z=>by
  obtain ⟨N',ss,c,nh,ha,hF,q⟩:=z
  unfold fnX at hF
  split at hF
  ·next hl=>rw [← ha.length];exact hl
  ·cases hF
 refine Znq lk hcd S len fun A outer s H vs Q E hr z=>?_
 obtain ⟨N',ss,c,nh,ha,hF,q⟩:=z
 unfold fnX at hF
 split at hF
 ·next hl =>
  have hs:Zcf N vs=vs.map some++List.replicate (N.length-ps.length) none:=by unfold Zcf;rw [← ha.length,hl]
  refine ⟨fun D σ H1=>D={ nx:=fun _ H'=>Q .non H',rt:=Q }∧H1=H∧Rel K N' H (ss++List.replicate (N.length-ps.length) .no) σ H,fun pins s' σ H1 D I hz=>?_,rfl,rfl,by rw [hs];exact Zin nh ha _⟩
  obtain ⟨_,rfl,R⟩:=hz
  refine wpAny_mono ((hb cdv A outer s H1 E N' H1 hr).h pins s' σ H1 _ c (I.wish _) R hF) (fun _ _ z=>z.elim) fun v s'' z=>?_
  obtain ⟨σ',H2,sm,D',e1,t⟩:=z
  exact ZlX (Y:=(ZeZ CX0 P w K mg base N qual (Zn st) f cdv A outer s H1 E).nox) rfl rfl rfl sm t fun H' e2=>q D' H' e1 e2
 ·cases hF
theorem Rel.more {ρ:VE} {σ:St} {H:Hp} {y C:Addr} (R:Rel K M H0 ρ σ H) (hy:H y=some (.ext (XAt y C))):Rel K M (upd H0 y (.ext (XAt y C))) ρ σ H where
 len:=R.len
 same:=fun b o z=>by
  by_cases e:b=y
  ·rw [e,Zaw] at z;rw [e,hy,z]
  ·rw [ZB e] at z;exact R.same b o z
 mh:=R.mh
 slot:=fun j sl z=>by
  have q:=R.slot j sl z
  cases sl with
  | no=>trivial
  | val d=>exact q
  | lent xs fl=>exact q
  | exc c=>exact q
  | own xs fl =>
   obtain ⟨b,vs,e1,h1,h2,h3,h4⟩:=q
   refine ⟨b,vs,e1,?_,h2,h3,h4⟩
   rw [ZB (fun e=>by rw [e,hy] at h3;cases fl<;>cases h3)];exact h1
 inj:=R.inj
@[simp] def Zpt:Res→Res
  | .ret r=>.ret r
  | _=>.fail
@[simp] def ZkR (cs:List Str) (i:Nat) (o:Option Str) (r:Res) (g:VE→Res) (ρ:VE):Res:=match o with
  | none=>r
  | some c=>if cs.contains c=true then Zpt (g (ρ.set i (.exc c))) else .fail
theorem Zpj {gs:VE→Res} {hx:VE→Option Str} {G:Addr} {cx n:Str} {b0:Stmt} {suite:List Stmt} {hp:Pos} (i:Nat) (cs:List Str) (nx:NoX Y) (hK:Y.K=K) (ys:Y.stack=Y.env::Y.outer) (yf:Y.env.frame=some Y.env.locals) (zx:XT Y K M H0 st hx) (zb:JS Y st (tS K M H0 g))
  (hm:Y.mg cx=some (.ref G)) (hg:Gl Y cx) (hc:∀ c D,cs.contains c=true→nsIn K mainGlobals c=some (some (.ref D))→exmOne K (.ref D) (.ref G)=some true) (hN:Y.N.Nodup) (hi:Y.N[i]?=some n) (hl:Y.env.scope.names.lookup n=some .local)
  (zs:∀ (x:Addr) (H1:Hp),(∃ C,H1 x=some (.ext (XAt x C)))→JB (Y.hand x) (b0::suite) (tS K M H1 gs)) (hd:(cx==("__debug__":Str))=false:=by decide) :
  JS Y (.Try [st] [.ExceptHandler (some (.Name cx np)) (some n) (b0::suite) hp] [] [] pos) (tS K M H0 fun ρ=>ZkR cs i (hx ρ) (g ρ) gs ρ):=⟨fun pins s σ H D I ⟨ρ,R,q⟩=>by
 subst hK
 try dsimp only at q
 cases ho:hx ρ with
 | none =>
  rw [ho] at q
  refine wpAny_Try_except (wpAny_execs_cons (wpAny_mono (zb.h pins s σ H D I ⟨ρ,R,q⟩) (fun f s1 z=>?_) fun e s' z=>(nx e s' z).elim))
  cases f with
  | next=>exact wpAny_execs_nil (wpAny_execs_nil z)
  | ret v=>exact z
  | brk=>exact z
  | cont=>exact z
 | some c =>
  rw [ho] at q
  simp only [ZkR] at q
  split at q
  ·next hcc =>
   refine wpAny_Try_except (wpAny_execs_cons (wpAny_mono (zx.h pins s σ H ρ c I R ho) (fun f s1 z=>z.elim) fun v s1 z=>?_))
   obtain ⟨D',e1,t⟩:=z
   cases hg':gs (ρ.set i (.exc c)) with
   | ret r =>
    rw [hg'] at q
    refine Zl7 (Q':=D.rt) ys yf t hm hg (hc c D' hcc e1) hN hi hl (fun x H3 s3 hx0 sm I3 hx3=>?_) (fun u vv σ' H' s5 I5 rv qq=>⟨vv,σ',H',I5,rv,qq⟩) hd
    have S:Step M (Nf M ρ σ) (Nf M (ρ.set i (.exc c)) (σ.set i (some (.ref x)))) H H3:=⟨fun a o e _=>sm a o e,fun b hb=>by
     rcases Zfq R.len hb with q | ⟨xs,_,e,_⟩
     ·exact .inl q
     ·cases e⟩
    have R3:Rel Y.K M H0 (ρ.set i (.exc c)) (σ.set i (some (.ref x))) H3:=R.put S (R.same.trans sm) (fun j a vs xs fl _ _ _ e=>sm _ _ e) (fun _=>⟨x,D',rfl,e1,hx3⟩) (fun xs fl a j ys fl' e=>nomatch e)
    have n0:=R.same.free hx0
    refine wpAny_mono ((zs x _ ⟨D',Zaw⟩).h pins s3 _ H3 { nx:=fun _ _=>False,rt:=D.rt } I3 ⟨_,R3.more hx3,?_⟩) (fun f s4 z=>?_) fun e s' z=>(nx e s' z).elim
    ·rw [hg']
     refine fun v H' s1 rv=>q v H' (fun b o z=>s1 b o (by rw [ZB (ZX z n0)];exact z)) ?_
     cases r with
     | val d=>exact rv
     | own xs fl =>
      obtain ⟨b,vs,e1,z1,z2⟩:=rv
      refine ⟨b,vs,e1,?_,z2⟩
      by_cases e:b=x
      ·rw [e];exact n0
      ·rw [ZB e] at z1;exact z1
    ·cases f with
     | ret u=>obtain ⟨vv,σ',H',I',rv,qq⟩:=z;exact ⟨u,vv,σ',H',rfl,I',rv,qq⟩
     | next=>obtain ⟨_,_,_,z⟩:=z;exact z.elim
     | brk=>obtain ⟨_,_,_,z⟩:=z;exact z.elim
     | cont=>obtain ⟨_,_,_,z⟩:=z;exact z.elim
   | next _=>rw [hg'] at q;exact q.elim
   | fail=>rw [hg'] at q;exact q.elim
   | brk _=>rw [hg'] at q;exact q.elim
   | cont _=>rw [hg'] at q;exact q.elim
  ·exact q.elim⟩
end
end L2
namespace L2
open PySem PySem.Spec PyProof.Rows PySem.W
theorem Zj2:entryFor table "proto.unchain"=some Builtin.«proto.unchain»:=entryFor_of_tree (by kernel_rfl)
section
variable {prog:Program} {w:World} {A:Around} {E:Value→Shared→Prop} {s:Shared} {x C:Addr}
theorem Zm7 {e:Addr} {Q:Value→Shared→Prop} (p:XAt x C s.heap) (q:Q .none s):wpAny (model prog w) A (runValue (.builtin "proto.unchain" ⟨[.ref e,.ref x,.ref x,.bool false],[]⟩)) Q E s:=by
 obtain ⟨o,vs,h1,h2,h3,h4⟩:=p
 refine wpAny_runValue ?_
 refine codeAny_builtin Zj2 ?_
 unfold Builtin.«proto.unchain»
 dsimp only
 refine wpAny_bind (wpAny_field h1 h3 h4 ?_)
 rw [if_pos (by decide)]
 exact wpAny_pure q
theorem Zm8 {α:Type} {a:Addr} {o:Obj} {vs:Array Value} {Q:α→Shared→Prop} (hh:A.handled=some (.ref x)) (p:XAt x C s.heap) (ne:x≠a) (ho:s.heap.get? a=some o) (hd:o.data=.fields vs) (hz:2<vs.size)
  (q:E (.ref a) { s with heap:=s.heap.update a (Obj.mapFields (·.setIfInBounds 2 (.ref x))) }):wpAny (model prog w) A (raiseNew (.ref a):Sem α) Q E s:=by
 unfold raiseNew
 refine wpAny_bind (wpAny_handled ?_)
 rw [hh]
 dsimp only
 rw [if_pos (by simp [ne])]
 refine wpAny_bind (wpAny_holding (Zm7 p ?_))
 refine wpAny_bind ?_
 unfold updateField
 refine wpAny_bind (wpAny_load ho ?_)
 rw [hd]
 dsimp only
 rw [if_pos hz]
 exact wpAny_update ho (wpAny_throw q)
theorem ZjV {it l:Addr} {i:Nat} {items:Array Value} {Q:Option Value→Shared→Prop} (hh:A.handled=some (.ref x)) (p:XAt x C s.heap) (px:x≠it) (hit:s.heap.IsListIter it l i) (hl:s.heap.IsList l items) (hx:items[i]?=none)
  (hq:∀ h',Heap.ExtBut it s.heap h'→Q none { s with heap:=h' }):wpAny (model prog w) A (pyNext (.ref it)) Q E s:=by
 obtain ⟨oi,i1,i2,i3⟩:=id hit
 obtain ⟨ol,l1,_,nl,l3⟩:=hl
 unfold pyNext
 refine wpAny_bind (wpAny_attempt (wpAny_callSpecial?_slot (name:=Str.ofString "__next__") hit.typeIs slot_listiter_next (wpAny_call_entry slot_listiter_next hit.typeIs entry_listiter_next ?_ (args_listiter_next _))))
 show wpAny _ _ (field (.ref it) 0 >>= _) _ _ s;refine wpAny_bind (wpAny_field i1 i3 (x:=.ref l) rfl ?_)
 show wpAny _ _ (if (Value.ref l==Value.none)=true then _ else _) _ _ s;rw [if_neg (show ¬ ((Value.ref l==Value.none)=true) from Bool.false_ne_true)]
 show wpAny _ _ (field (.ref it) 1 >>= _) _ _ s;refine wpAny_bind (wpAny_field i1 i3 (x:=.int i 0) rfl ?_)
 show wpAny _ _ (seqItems? (.ref l) >>= _) _ _ s;refine wpAny_bind (wpAny_seqItems l1 l3 ?_)
 simp only [Int.toNat_natCast,hx]
 refine wpAny_bind (wpAny_rule (wpAny_bind (wpAny_setField i1 i3 (by simp) ?_)))
 obtain ⟨ox,vx,x1,x2,x3,x4⟩:=p
 show wpAny _ _ (newExc (.type "StopIteration") [] >>= _) _ _ _
 refine wpAny_bind ?_
 simp only [newExc,newTuple]
 refine wpAny_bind (wpAny_newObj_type ?_ (by size_fits))
 refine wpAny_bind (m:=firstArgMember _ _) (wpAny_of_eq (a:=Value.none) (by first | rfl | (simp only [firstArgMember];rfl)) ?_)
 refine wpAny_newObj_type ?_ (by size_fits)
 have k1:((s.heap.update it (Obj.mapFields (·.setIfInBounds 0 .none))).push { cls:=.type "tuple",data:=.seq #[] }).get? x=some ox:=Heap.get?_push_of_some _ ((Heap.get?_update_other _ _ (Ne.symm px)).trans x1)
 have nx:x≠((s.heap.update it (Obj.mapFields (·.setIfInBounds 0 .none))).push { cls:=.type "tuple",data:=.seq #[] }).objs.size:=Nat.ne_of_lt (Heap.lt_size k1)
 refine Zm8 (x:=x) (C:=C) hh ⟨ox,vx,Heap.get?_push_of_some _ k1,x2,x3,x4⟩ nx (Heap.get?_push_size _ rfl) rfl (by simp only [Array.size_append,List.size_toArray,List.length_cons];omega) ?_
 refine wpAny_bind (wpAny_isInstance (T:="StopIteration") (b:=true) ⟨_,Heap.get?_update_self _ (Heap.get?_push_size _ rfl) rfl,rfl⟩ isSubtype_stop ?_)
 refine wpAny_pure (hq _ fun b o hb z=>?_)
 have z1:=Heap.get?_push_of_some { cls:=.type "tuple",data:=.seq #[] } ((Heap.get?_update_other s.heap (Obj.mapFields (·.setIfInBounds 0 .none)) (Ne.symm hb)).trans z)
 exact (Heap.get?_update_other _ _ (Ne.symm (Nat.ne_of_lt (Heap.lt_size z1)))).trans (Heap.get?_push_of_some _ z1)
theorem XAt.at {h h':Heap} (p:XAt x C h) (k:∀ o,h.get? x=some o→h'.get? x=some o):XAt x C h':=let ⟨o,vs,h1,r⟩:=p;⟨o,vs,k o h1,r⟩
theorem Zmf (hh:A.handled=some (.ref x)) (I ax:Addr) (ne:ax≠I) (nx:x≠I) (items:Array Value) :
  Walks prog w A I [I,ax,x] [I] items.size (fun i v=>items[i]?=some v) (fun i h=>h.IsListIter I ax i∧h.IsList ax items∧XAt x C h) where
 sub:=fun b hb=>by simp at hb;simp [hb]
 frame:=fun _ _ _ st hk=>⟨st.1.at fun o z=>hk I (by simp) o z,st.2.1.at fun o z=>hk ax (by simp) o z,st.2.2.at fun o z=>hk x (by simp) o z⟩
 item:=fun i s Q E hi st hq=>wpAny_pyNext_list_item st.1 st.2.1 (x:=items[i]) (by simp [hi]) fun h' hit sb =>
  hq _ h' s.toks (by simp [hi]) ⟨hit,st.2.1.extBut sb.extBut ne,st.2.2.at fun o z=>sb.extBut _ _ nx z⟩ fun b o hb z=>sb.extBut b o (fun y=>hb (by simp [y])) z
 done:=fun s Q E st hq=>ZjV hh st.2.2 nx st.1 st.2.1 (by simp) fun h' eb=>hq h' s.toks fun b o hb z=>eb b o (fun y=>hb (by simp [y])) z
 self:=fun _ _ _ _ st hq=>wpAny_pyIter_listiter st.1 hq
end
section
variable {Y:Cx} {K:Frag} {M:Fb} {H0:Hp} {x:Addr}
theorem Zkx (hh:Y.A.handled=some (.ref x)):CallR Y (.builtin "any") (fun xs H Q=>(∃ C,H x=some (.ext (XAt x C)))∧∃ (a:Addr) (bs:List Bool),xs=[.ref a]∧SqL Y.K H a (bs.map V.bl)∧Q (.bl (bs.any id)) H):=by
 intro pins s σ H xs us Q I r h
 obtain ⟨⟨C,hx⟩,a,bs,rfl,hq,q⟩:=h
 obtain ⟨u,rfl,ru⟩:=Zep r
 cases ru
 obtain ⟨its,rv,pl,hz⟩:=I.list hq
 have hb:=ZgI rv
 have hl:=pl.isList
 have p:XAt x C s.heap:=(show ObjOk Y.prog Y.w H s.heap x (.ext (XAt x C)) from I.hok x _ hx).1
 have hlt:a<s.heap.objs.size:=by obtain ⟨_,z,_⟩:=hl;exact Heap.lt_size z
 have hxt:x<s.heap.objs.size:=by obtain ⟨_,_,z,_⟩:=p;exact Heap.lt_size z
 refine call_any_walk (wpAny_pyIter_list hl ?_)
 refine ⟨s.heap.objs.size,[s.heap.objs.size,a,x],[s.heap.objs.size],its.toArray.size,_,_,fun i=>(bs[i]?).getD false,rfl,Zmf (A:=Y.A.in1) (C:=C) hh _ a (Nat.ne_of_lt hlt) (Nat.ne_of_lt hxt) its.toArray,
  ⟨⟨_,Heap.get?_push_size _ rfl,rfl,rfl⟩,hl.push _,p.at fun o z=>Heap.get?_push_of_some _ z⟩,fun i v s' Q' E' hP hQ=>?_,fun h' tk hk=>⟨.bl _,H,I.kept (LSm.kept_iter hk),rfl,?_⟩⟩
 ·obtain ⟨b,z,rfl⟩:=hb.get i v (by simpa using hP)
  simp only [z,Option.getD_some] at hQ
  exact wpAny_truthy_bool hQ
 ·have z:((List.range its.toArray.size).any fun i=>(bs[i]?).getD false)=bs.any id:=by
   rw [List.size_toArray,hb.length];exact LSm.range_any bs
  rw [z];exact q
theorem Zm3 {e:Expr} {es:List Expr} {fa:VE→Option (List Sl)} {p pos:Pos} {n:Str} (hh:Y.A.handled=some (.ref x)) (hK:Y.K=K) (h0:∃ C,H0 x=some (.ext (XAt x C))) (hg:Gl Y n) (hm:Y.mg n=none) (hv:bootBuiltins n=some (.builtin "any")) (ha:JA Y (e::es) (tA' K M H0 fa))
  (hn:n≠"__name__":=by decide) (hdb:(n==("__debug__":Str))=false:=by decide) (he:starEach (e::es) Y.env=(false,eval e Y.env)::starEach es Y.env:=by exact Zb5 (fun _ _ z=>nomatch z)) (hpl:(backTo pos (starEach es Y.env)).any (·.1)=false:=by rfl) :
  JE Y (.Call (.Name n p) (e::es) [] pos) (tD K M H0 (ZD Zk7 fa)):=⟨(Zg9 (Zkx hh) hg hm hv ha.h hn hdb he hpl).mono fun σ H Q h=>by
 subst hK
 obtain ⟨ρ,d,R,z,q⟩:=h
 have t:=Zk8 (K:=Y.K) (M:=M) (H0:=H0) (fa:=fa) Zo1 (σ:=σ) (H:=H) (Q:=Q) ⟨ρ,d,R,z,q⟩
 obtain ⟨ρ',ss,R',hf,k⟩:=t
 exact ⟨ρ',ss,R',hf,fun vs H1 sm h1=>⟨let ⟨C,hx⟩:=h0;⟨C,sm _ _ (R'.same _ _ hx)⟩,k vs H1 sm h1⟩⟩⟩
def Zq7 (K:Frag):List V→Hp→VK→Prop:=fun xs H Q=>∃ a C cv c b,xs=[.ref a,cv]∧(∀ u,RelV cv u→u=c)∧H a=some (.ext (XAt a C))∧Za3 K C∧kitOne K (.ref C) c=some b∧Q (.bl b) H
theorem ZmT:CallR Y (.builtin "isinstance") (Zq7 Y.K):=by
 intro pins s σ H xs us Q I r h
 obtain ⟨a,C,cv,c,b,rfl,hc,hx,F,e,q⟩:=h
 obtain ⟨u,v,rfl,ru,rv⟩:=Znk r
 cases ru
 cases hc v rv
 exact kia_one (Zp7 F) I.kIn (show ObjOk Y.prog Y.w H s.heap a (.ext (XAt a C)) from I.hok a _ hx).1 e (fun z=>nomatch z) fun tk=>⟨.bl b,H,I.tok _,rfl,q⟩
@[simp] def isX (i:Nat) (cs:List Str) (f:Str→Bool) (ρ:VE):Option D:=match ρ[i]? with
  | some (.exc c)=>if cs.contains c=true then some (.bl (f c)) else none
  | _=>none
theorem Zdx {te:Expr} {cv:V} {cu:Value} {n m:Str} {np p pos:Pos} (i:Nat) (cs:List Str) (f:Str→Bool) (hK:Y.K=K) (hN:Y.N[i]?=some n) (hvs:Vis Y.env.scope n) (ht:PE Y te (tC cv)) (hu:∀ u,RelV cv u→u=cu)
  (hc:∀ c C,cs.contains c=true→nsIn K mainGlobals c=some (some (.ref C))→Za3 K C∧kitOne K (.ref C) cu=some (f c)) (hg:Gl Y m) (hm:Y.mg m=none) (hv:bootBuiltins m=some (.builtin "isinstance"))
  (hn:m≠"__name__":=by decide) (hdb:(m==("__debug__":Str))=false:=by decide) (hd:(n==("__debug__":Str))=false:=by decide) (hcd:(n==("__classdict__":Str))=false:=by decide)
  (he:starEach [.Name n np,te] Y.env=(false,eval (.Name n np) Y.env)::starEach [te] Y.env:=by exact Zb5 (fun _ _ z=>nomatch z)) (he2:starEach [te] Y.env=(false,eval te Y.env)::starEach [] Y.env:=by exact Zb5 (fun _ _ z=>nomatch z)) (hpl:(backTo pos (starEach [te] Y.env)).any (·.1)=false:=by rfl) :
  JE Y (.Call (.Name m p) [.Name n np,te] [] pos) (tD K M H0 (isX i cs f)):=⟨(Zg9 ZmT hg hm hv (Zfl (Zfa hN hvs hd hcd) (Zfl ht pa_nil he2) he) hn hdb he hpl).mono fun σ H Q h=>by
 subst hK
 obtain ⟨ρ,d,R,z,q⟩:=h
 unfold isX at z
 split at z
 ·next c hs =>
  split at z
  ·next hcc =>
   cases z
   obtain ⟨a,C,e1,e2,e3⟩:=R.slot i _ hs
   obtain ⟨F,kk⟩:=hc c C hcc e2
   exact ⟨.ref a,join_some e1,a,C,cv,cu,f c,rfl,hu,e3,F,kk,q _ H (Same.refl H) (by simp only [Den])⟩
  ·cases z
 ·cases z⟩
end
end L2
namespace L2
open PySem PySem.Spec PyProof.Rows PySem.W
theorem ZE {X:Cx}:NoX X.nox:=fun _ _ z=>z
abbrev bmV:List Value:=[.type "ValueError",.type "Exception",.type "BaseException",.type "object"]
def ZU (t c:Str):Bool:=c==t||t=="CubeError"||t=="ValueError"
section
variable {K:Frag} {C D G:Addr} {b:Bool} {cd:ClassData}
theorem Zqu {nm q:Str} {N:Addr} {bs bm:List Value} {hdct:Bool} {sn:List Str} {sub:List Value} {ab:Bool} {col:Option Bool} {dd:Option Addr} {k0 k1 k2 k3 k5:Option Value}
  (l:K.lookup D=some (excClassObj nm q D N bs bm hdct sn sub ab col dd k0 k1 k2 k3 k5 "ValueError.__new__")) (e:excIn K D bmV "ValueError.__new__"=true):XMk K D:=by
 unfold excIn at e
 rw [l] at e
 simp only [Bool.and_eq_true,beq_iff_eq,Bool.not_eq_true'] at e
 exact ⟨nm,q,N,bs,bm,hdct,sn,sub,ab,col,dd,k0,k1,k2,k3,k5,l,e.1.1.2,e.1.2,e.2⟩
theorem Znf {t:Value} (z:clsIn K G=some cd) (y:typeIn K (.ref G)=some (.type "type")) (s:subIn K t (.ref G)=some b):kitCls K t (.ref G)=some b:=by
 unfold kitCls
 dsimp only
 rw [if_pos (by rw [z,y];rfl)];exact s
theorem ZeB (ne:(Value.ref C==Value.ref G)=false) (z:clsIn K G=some cd) (y:typeIn K (.ref G)=some (.type "type")) (s:subIn K (.ref C) (.ref G)=some b):kitOne K (.ref C) (.ref G)=some b:=by
 unfold kitOne
 rw [if_neg (fun q=>by rw [ne] at q;cases q)];exact Znf z y s
theorem Zm0:kitOne K (.ref C) (.ref C)=some true:=by
 unfold kitOne
 rw [if_pos (beq_self_eq_true _)]
theorem Zqa (s:subIn K (.ref C) (.type "ValueError")=some b):kitOne K (.ref C) (.type "ValueError")=some b:=by
 unfold kitOne
 rw [if_neg (fun q=>by cases (show (Value.ref C=Value.type "ValueError") from beq_iff_eq.mp q))]
 unfold kitCls
 dsimp only
 rw [if_pos (by decide +kernel)];exact s
theorem Zp1 (x:subIn K (.ref G) (.type "BaseException")=some true) (z:clsIn K G=some cd) (y:typeIn K (.ref G)=some (.type "type")) (s:subIn K (.ref C) (.ref G)=some true):exmOne K (.ref C) (.ref G)=some true:=by
 unfold exmOne
 rw [if_pos (by rw [x];rfl)];exact Znf z y s
end
section
variable {Y:Cx} {K:Frag} {M:Fb} {H0:Hp} {b:List Stmt} {h h':VE→Option Str}
theorem Zbn (z:XB Y K M H0 b h) (e:h=h'):XB Y K M H0 b h':=e ▸ z
theorem Zca:XB Y K M H0 b (fun _=>none):=⟨fun _ _ _ _ _ _ _ _ q=>nomatch q⟩
end
end L2
namespace L2
open PySem PySem.Spec PyProof.Rows
section
variable {X:Cx} {K:PySem.W.Frag} {M:Fb} {H0:Hp} {pos:Pos} {st:Stmt}
@[simp] def Zsz (i:Nat) (ρ:VE):Res:=match rdO ρ i with
  | some _=>.next (ρ.set i (.own []))
  | _=>.fail
@[simp] def ZsP (c:Bool) (a b:Res):Res:=if c=true then a else b
def Zqz:D→D→Option D
 | .bl i,.bl j=>some (.bl (!decide (i=j)))
 | _,_=>none
@[simp] theorem Zrx (i j:Bool):Zqz (.bl i) (.bl j)=some (.bl (!decide (i=j))):=rfl
@[simp] def Zsr (i:Nat) (ρ:VE):Bool:=match ρ[i]? with
  | some (.own _ false)=>true
  | _=>false
end
end L2
namespace L2
open PySem PySem.Spec PyProof.Rows
def ZkE (i j:Int):Prop:=0<j∧j<2^100
instance (i j:Int):Decidable (ZkE i j):=by unfold ZkE;exact inferInstance
section
variable {X:Cx} {K:PySem.W.Frag} {M:Fb} {H0:Hp} {a b:Expr} {f g:VE→Option D} {pos:Pos}
@[simp] def Zso:D→D→Option D:=i2 fun i j=>if ZkE i j then some (.int (i / j)) else none
end
end L2
namespace L2
open PySem PySem.Spec PyProof.Rows
section
variable {X:Cx}
variable {K:PySem.W.Frag} {M:Fb} {H0:Hp} {ek ev:Expr} {fk fv:VE→Option D} {pos:Pos}
end
end L2
namespace L2
open PySem PySem.Spec PyProof.Rows
section
variable {prog:Program} {w:World} {A:Around} {E:Value→Shared→Prop} {s:Shared}
variable {z tin tout ia ib ic:Addr} {fa fb fc:List Addr} {n m l k:Nat} {isA isB isC:Nat→Value→Prop} {sa sb sc:Nat→Heap→Prop} {a b c:Value}
end
end L2
namespace L2
open PySem PySem.Spec PyProof.Rows
section
variable {prog:Program} {w:World} {A:Around} {E:Value→Shared→Prop} {s:Shared}
end
@[simp] def Zsl (f g k:VE→Option D):VE→Option (List D):=fun ρ=>match (f ρ).bind ZcZ,(g ρ).bind ZcZ,(k ρ).bind ZcZ with
  | some xs,some ys,some zs=>some (List.zipWith (fun x y=>D.tup [x,y.1,y.2]) xs (ys.zip zs))
  | _,_,_=>none
section
variable {X:Cx} {M:Fb} {H0:Hp} {f g k:VE→Option D} {a b c:Expr} {elts:List Expr} {p pos tpos:Pos}
end
end L2
namespace L2
open PySem PySem.Spec PyProof.Rows PySem.W
def RawD (h:Heap) (d:Addr) (es:Array DictEntry) (ep:Nat):Prop:=∃ o,h.get? d=some o∧o.ExactDict∧o.data=.dict es ep
section
variable {prog:Program} {w:World} {A:Around} {E:Value→Shared→Prop} {s:Shared} {d it:Addr} {es:Array DictEntry} {ep i:Nat}
theorem RawD.type (x:RawD s.heap d es ep):s.TypeIs (.ref d) "dict":=by
 obtain ⟨o,e1,e2,_⟩:=x
 exact ⟨o,e1,e2.1⟩
theorem RawD.at {h h':Heap} (x:RawD h d es ep) (k:∀ o,h.get? d=some o→h'.get? d=some o):RawD h' d es ep:=by
 obtain ⟨o,e1,e2⟩:=x
 exact ⟨o,k o e1,e2⟩
end
end L2
namespace L2
open PySem PySem.Spec PyProof.Rows PySem.W
section
variable {X:Cx}
end
def Zol:List D→Option (List D)
 | [.lst xs true]=>(unf xs).map fun kvs=>kvs.map fun p=>kD p.1
 | _=>none
@[simp] theorem ZqP (kvs:KDs):Zol [.lst (Zfw kvs) true]=some (kvs.map fun p=>kD p.1):=by simp [Zol]
section
variable {K:PySem.W.Frag} {N:Fb} {H:Hp}
end
end L2
namespace L2
open PySem PySem.Spec PyProof.Rows PySem.W
section
variable {prog:Program} {w:World} {A:Around} {E:Value→Shared→Prop} {s:Shared} {T:String} {r d:Addr} {n:Nat} {P:Nat→Value→Prop} {OK:Heap→Prop}
end
section
variable {X:Cx} {pins:List (Addr×Obj)} {σ:St} {H:Hp} {s:Shared} {N:Fb} {k:Nat} {fn:Addr} {fd:FuncData} {ps:List Str} {F:List Sl→Option Rv}
end
section
variable {X:Cx} {M:Fb} {H0:Hp} {k:Nat} {fn:Addr} {fd:FuncData} {ps:List Str} {F:List Sl→Option Rv} {e:Expr} {f:VE→Option D} {x y:Str} {p p2 kpos pos:Pos}
end
end L2
namespace L2
open PySem PySem.Spec PyProof.Rows
section
variable {prog:Program} {w:World} {A:Around} {E:Value→Shared→Prop} {s:Shared}
variable {z tin tout ia ib:Addr} {fa fb:List Addr} {n m k:Nat} {isA isB:Nat→Value→Prop} {sa sb:Nat→Heap→Prop} {a b:Value} {v0:Value} {b1:Bool}
end
section
variable {X:Cx} {M:Fb} {H0:Hp} {f g:VE→Option D} {a b tg:Expr} {p pos:Pos}
end
end L2
namespace L2
open PySem PySem.Spec PyProof.Rows
section
variable {prog:Program} {w:World} {A:Around} {E:Value→Shared→Prop} {s:Shared} {l:Addr} {xs:Array (Int×Tok)}
end
section
variable {X:Cx}
end
@[simp] def Zsh:List D→Option D
  | [.tup xs]=>((Ze2 xs).bind ZpF).map D.int
  | _=>none
@[simp] def Zsn:List D→Option D
  | [.tup xs]=>((Ze2 xs).bind Zpi).map D.int
  | _=>none
section
variable {K:PySem.W.Frag}
end
@[simp] def ZpV (o:Option D) (ρ:VE):Res:=match o with
  | some _=>.next ρ
  | none=>.fail
section
variable {X:Cx} {K:PySem.W.Frag} {M:Fb} {H0:Hp} {e:Expr} {f:VE→Option D} {pos:Pos}
theorem Zmb (h:JE X e (tD K M H0 f)) (hs:swapsWith e none pos.line X.env=pure false:=by rfl):JS X (.Expr e pos) (tS K M H0 fun ρ=>ZpV (f ρ) ρ):=⟨(Zkd h.h hs).mono fun D' σ H ⟨ρ,R,q⟩=>by
 try dsimp only at q
 cases hf:f ρ with
 | none=>rw [hf] at q;exact False.elim q
 | some d =>
  rw [hf] at q
  exact ⟨ρ,d,R,hf,fun v H' s hv=>q σ H' (R.st s) (Step.of_same s)⟩⟩
end
end L2
namespace L2
open PySem PySem.Spec PyProof.Rows PySem.W
structure XA (Y:Cx) (K:Frag) (M:Fb) (H0:Hp) (es:List Expr) (h:VE→Option Str):Prop where
 h:∀ pos pins s σ H ρ c,Inv Y pins σ H s→Rel K M H0 ρ σ H→h ρ=some c→wpAny (model Y.prog Y.w) Y.A (spliced (backTo pos (starEach es Y.env))) (fun _ _=>False) (ThrC Y pins σ H c) s
section
variable {Y:Cx} {K:Frag} {M:Fb} {H0:Hp} {e a b:Expr} {es:List Expr} {h h1 h2:VE→Option Str} {f:VE→Option D} {pos p:Pos} {x:Str}
theorem ZhX:XE Y K M H0 e (fun _=>none):=⟨fun _ _ _ _ _ _ _ _ q=>nomatch q⟩
theorem Zjn {c:Expr} {t:VE→Option Bool} (nx:NoX Y) (hc:JT Y c (tB' K M H0 t)) (za:XE Y K M H0 a h1) (zb:XE Y K M H0 b h2):XE Y K M H0 (.IfExp c a b pos) (fun ρ=>Z4 (t ρ) (h1 ρ) (h2 ρ)):=⟨fun pins s σ H ρ n I R q=>by
 cases ht:t ρ with
 | none=>rw [ht] at q;cases q
 | some k =>
  rw [ht] at q
  refine wpAny_IfExp (wpAny_mono (hc.h pins s σ H (fun k' H'=>k'=k∧Same H H') I ⟨ρ,k,R,ht,fun H' sm=>⟨rfl,sm⟩⟩) (fun d s1 ⟨H1,I1,e1,sm⟩=>?_) fun e s' z=>(nx e s' z).elim)
  subst e1
  cases d with
  | true=>exact wpAny_mono (za.h pins s1 σ H1 ρ n I1 (R.st sm) q) (fun _ _ z=>z.elim) fun _ _ z=>z.from sm
  | false=>exact wpAny_mono (zb.h pins s1 σ H1 ρ n I1 (R.st sm) q) (fun _ _ z=>z.elim) fun _ _ z=>z.from sm⟩
theorem ZfZ:XA Y K M H0 [] (fun _=>none):=⟨fun _ _ _ _ _ _ _ _ _ q=>nomatch q⟩
@[simp] def Zcc (o:Option D) (r:Option Str):Option Str:=match o with
  | some _=>r
  | none=>none
theorem Zc2 (nx:NoX Y) (z1:XE Y K M H0 e h1) (zv:JE Y e (tD K M H0 f)) (z2:XA Y K M H0 es h2) (hs:starEach (e::es) Y.env=(false,eval e Y.env)::starEach es Y.env:=by exact Zb5 (fun _ _ z=>nomatch z)) :
  XA Y K M H0 (e::es) (fun ρ=>orX (h1 ρ) (Zcc (f ρ) (h2 ρ))):=⟨fun pos pins s σ H ρ c I R q=>by
 rw [hs]
 show wpAny _ _ (spliced ((false,eval e Y.env)::backTo pos (starEach es Y.env))) _ _ s
 cases hh:h1 ρ with
 | some c' =>
  rw [hh] at q;cases q
  exact Calls.spliced_cons (wpAny_mono (z1.h pins s σ H ρ c I R hh) (fun _ _ z=>z.elim) fun _ _ z=>z)
 | none =>
  rw [hh] at q
  cases hf:f ρ with
  | none=>rw [hf] at q;cases q
  | some d =>
   rw [hf] at q
   refine Calls.spliced_cons (wpAny_mono (zv.h pins s σ H (fun v H1=>Same H H1) I ⟨ρ,d,R,hf,fun v H1 sm _=>sm⟩) (fun u s1 ⟨x,H1,I1,r1,sm⟩=>?_) fun e s' z=>(nx e s' z).elim)
   exact wpAny_mono (z2.h pos pins s1 σ H1 ρ c I1 (R.st sm) q) (fun _ _ z=>z.elim) fun _ _ z=>z.from sm⟩
theorem Zlj {x1} (z:XA Y K M H0 es h):XE Y K M H0 (.Tuple es x1 pos) h:=⟨fun pins s σ H ρ c I R q=>wpAny_Tuple_spliced (wpAny_mono (z.h pos pins s σ H ρ c I R q) (fun _ _ z=>z.elim) fun _ _ z=>z)⟩
theorem Zf6 {T:String} (hg:Gl Y x) (hm:Y.mg x=none) (hv:bootBuiltins x=some (.type T)) (z:XA Y K M H0 (e::es) h) (hn:x≠"__name__":=by decide) (hdb:(x==("__debug__":Str))=false:=by decide)
  (he:starEach (e::es) Y.env=(false,eval e Y.env)::starEach es Y.env:=by exact Zb5 (fun _ _ z=>nomatch z)) (hpl:(backTo pos (starEach es Y.env)).any (·.1)=false:=by rfl):XE Y K M H0 (.Call (.Name x p) (e::es) [] pos) h:=⟨fun pins s σ H ρ c I R q=>by
 refine wpAny_Call_Name_kw (Ze7 I hg hm hv ?_ hn hdb)
 exact PyProof.Rows.callWith_type1 (wpAny_mono (z.h pos pins s σ H ρ c I R q) (fun _ _ z=>z.elim) fun _ _ z=>z) he hpl⟩
end
def cpX (M:Model) (A:Around) (E:Value→Shared→Prop) (cenv:Env) (r:Result) (s':Shared):Prop:=match r with
 | .ok _=>False
 | .error x=>∃ m,s'.heap.Ns cenv.locals m∧∀ h',Heap.SameBut cenv.locals s'.heap h'→wpAny M A (PySem.passOn "comprehension.variables-let-go" x cenv:Sem Value) (fun _ _=>False) E { s' with heap:=h' }
theorem ZfI {M:Model} {A:Around} {E:Value→Shared→Prop} {s:Shared} {env:Env} {e:Expr} {scope:Scope} {pos:Pos} {newAcc first:Sem Value} {g:Comprehension} {gs:List Comprehension} {cl:List (Str×Addr)} {use:Option (Value→Sem Unit)}
  {Q:Value→Shared→Prop}
  (hcl:clausesOf e=g::gs) (hs:∀ x,foldedSetIterable g.iter env x=pure x) (hclos:closureFor scope env=pure cl)
  (hkind:scope.kind=.function) (hnames:∀ x∈scope.names,x.2=.local→scope.names.lookup x.1=some .local)
  (h:wpAny M A first (fun x s₁=>wpAny M A (pyIter x) (fun it s₂=>wpAny M A newAcc (fun acc s₃ =>
   wpAny M A (newFunctionEnv scope env.globals cl [] env.qual none .none (some env)) (fun cenv s₄ =>
    codeAny M A (.compStart e 0 it acc { cenv with scope:=relabel scope env }) (cpX M A E { cenv with scope:=relabel scope env }) s₄) E s₃) E s₂) E s₁) E s) :
  wpAny M A (comprehension e scope env pos newAcc false first use) Q E s:=by
 unfold comprehension
 rw [hclos,hcl]
 refine wpAny_bind (wpAny_mono h (fun x s₁ h₁=>wpAny_bind (wpAny_standAt (wpAny_bind (wpAny_of_eq (hs x) (wpAny_bind (wpAny_holding (wpAny_mono h₁ (fun it s₂ h₂ =>
  wpAny_standIf (wpAny_bind (wpAny_mono h₂ (fun acc s₃ h₃=>wpAny_bind (wpAny_pure (wpAny_bind (wpAny_mono h₃ (fun cenv s₄ h₄=>?_) fun _ _ h'=>h')))) fun _ _ h'=>h')))
   fun _ _ h'=>h'))))))) fun _ _ h'=>h')
 dsimp only
 have hv:∀ x∈(scope.names.filter fun x=>(x.2==.local||x.2==.cell)&&x.1 != (".0":Str)).reverse,x.2=.local →
   Env.kindOf { cenv with scope:=relabel scope env } x.1=some .local:=fun x hx hl=>lookup_relabel_local (hnames x (List.mem_filter.mp (List.mem_reverse.mp hx)).1 hl)
 refine wpAny_holding (wpAny_bind (wpAny_attempt (wpAny_holding (wpAny_run (codeAny_mono h₄ fun r s' hr=>?_)))))
 cases r with
 | ok f=>exact hr.elim
 | error x =>
  obtain ⟨m,hn,hr⟩:=hr
  exact wpAny_bind (wpAny_holding (wpAny_comp_letGo (cenv:={ cenv with scope:=relabel scope env }) hkind _ s' m hv hn fun h' m' _ hs'=>wpAny_mono (hr h' hs') (fun _ _ f=>f.elim) fun _ _ y=>y))
end L2
namespace L2
open PySem PySem.Spec PyProof.Rows PySem.W
theorem ZdZ {B:Heap} {C L:Addr} (hn:B.get? L=none):(hideAll B [C]).get? L=none:=by
 cases q:(hideAll B [C]).get? L with
 | none=>rfl
 | some o=>have:=of_hideAll _ q;rw [hn] at this;cases this
theorem Zh0 {B h:Heap} {C:Addr}:∀ {l:List Env},h.FunFrames B l→h.FunFrames (hideAll B [C]) l
 | [],_=>trivial
 | env::l,⟨hk,⟨L,o,hf,hn,ho,hd⟩,hr⟩=>⟨hk,⟨L,o,hf,ZdZ hn,ho,hd⟩,Zh0 hr⟩
section
variable {X:Cx} {pins pY:List (Addr×Obj)} {σ σ4:St} {H2 H4:Hp} {s2 s':Shared} {own outs:List Str} {scope:Scope} {C:Addr} {fp:List Addr} {cn:Str} {e:Value} {L:Addr} {M:Model} {E:Value→Shared→Prop} {what:String}
theorem Zmi (I2:Inv X pins σ H2 s2) (f2:∀ b∈fp,Zdp X pins H2 b) (hC:s2.heap.objs.size≤C) (ys:X.stack=X.env::X.outer) (yf:X.env.frame=some L) (sm4:Same H2 H4)
  (t:ThrC (cxC X own outs scope C s2 H2 fp pins) pY σ4 H4 cn e s') :
  wpAny M X.A (noteFrame e (cxC X own outs scope C s2 H2 fp pins).env) (fun _ s''=>∃ m,s''.heap.Ns C m∧∀ h',Heap.SameBut C s''.heap h'→∀ cenv:Env,cenv.frame=X.env.frame→wpAny M X.A (PySem.passOn what e cenv:Sem Value) (fun _ _=>False) (ThrC X pins σ H2 cn) { s'' with heap:=h' }) E s':=by
 obtain ⟨D,en,fl,a,H5,H',s5,mk,rfl,I5,sm5,os,ba,smF,u,B,hk,kb,air⟩:=t
 have u:Un (frs X.stack) [] H5 H' s5.heap s'.heap:=u
 have kb:∀ b o,s5.heap.get? b=some o→H5 b=none→b∉frs X.stack→B.get? b=some o:=kb
 have air:Air B X.stack a (.ref D) fl s'.heap:=air
 have hk:HOk X.prog X.w H' B:=hk
 have hfl:fl=.none∨fl=rawInt L:=by
  rcases mk with z | ⟨L',z1,z2⟩
  ·exact .inl z
  ·have z1:X.env.frame=some L':=z1
   rw [yf] at z1;cases z1;exact .inr z2
 have frm:X.A.frames=some X.stack:=I2.ok.frames
 have fsLt:∀ b∈frs X.stack,b<s2.heap.objs.size:=fun b hb=>by
  obtain ⟨_,o,ho,_⟩:=I2.stack.mem hb
  exact Heap.lt_size ho
 have hCf:C∉frs X.stack:=fun h=>absurd (fsLt _ h) (Nat.not_lt.mpr hC)
 obtain ⟨m5,n5,_⟩:=I5.loc
 have n5:s5.heap.Ns C m5:=n5
 have fC:H5 C=none:=I5.free
 obtain ⟨oC,esC,epC,gC,dC,rC⟩:=n5
 have BC:B.get? C=some oC:=kb C oC gC fC hCf
 have fC':H' C=none:=u.free C oC gC fC (by simp)
 have aC:a≠C:=fun h=>by have:=air.new;rw [h,BC] at this;cases this
 rw [ZhF (env:=X.env) (env':=(cxC X own outs scope C s2 H2 fp pins).env) rfl]
 have frm1:=frm
 have air1:=air
 rw [ys] at frm1 air1
 refine Zg2 hfl frm1 yf air1 fun h4 a4 ht up4=>?_
 rw [← ys] at a4
 refine ⟨m5,⟨oC,esC,epC,a4.stay C oC BC,dC,rC⟩,fun h' sb cenv hce=>?_⟩
 have sb:Heap.SameBut C h4 h':=sb
 have ne4:∀ b,b≠C→h'.get? b=h4.get? b:=fun b hb=>sb.2 b hb
 have hid:∀ b o,(hideAll B [C]).get? b=some o→b≠C∧B.get? b=some o:=fun b o q=>⟨fun z=>(by rw [z,hideAll_none [C] (by simp)] at q;cases q),of_hideAll _ q⟩
 have ffk:h'.FunFrames B X.stack:=by
  have nf:∀ b∈frs X.stack,b≠C:=fun b hb z=>hCf (z ▸ hb)
  have go:∀ l:List Env,(∀ b∈frs l,b≠C)→h4.FunFrames B l→h'.FunFrames B l:=by
   intro l
   induction l with
   | nil=>intro _ _;trivial
   | cons env l ih =>
    rintro hn ⟨hk,⟨L',o,hf,hb,ho,hd⟩,hr⟩
    refine ⟨hk,⟨L',o,hf,hb,(ne4 L' (hn L' ?_)).trans ho,hd⟩,ih (fun b hb=>hn b ?_) hr⟩
    ·show L'∈List.filterMap _ (env::l)
     rw [List.filterMap_cons,hf];exact List.mem_cons_self
    ·show b∈List.filterMap _ (env::l)
     exact List.mem_filterMap.mpr (by obtain ⟨x,hx,e⟩:=List.mem_filterMap.mp hb;exact ⟨x,List.mem_cons_of_mem _ hx,e⟩)
  exact go _ nf a4.fun_
 have air2:Air (hideAll B [C]) X.stack a (.ref D) (rawInt L) h':=by
  obtain ⟨st,nw,ff,oe,vs,h1,h2,h3,h4',r⟩:=a4
  refine ⟨fun b o q=>?_,?_,Zh0 ffk,oe,vs,(ne4 a aC).trans h1,h2,h3,h4',?_⟩
  ·obtain ⟨q1,q2⟩:=hid b o q
   exact (ne4 b q1).trans (st b o q2)
  ·exact ZdZ nw
  ·rcases r with r | ⟨T,oT,ts,r1,r2,r3,r4,r5,r6⟩
   ·exact .inl r
   ·have TC:T≠C:=fun h=>by rw [h,BC] at r2;cases r2
    exact .inr ⟨T,oT,ts,r1,ZdZ r2,r3,(ne4 T TC).trans r4,r5,r6⟩
 refine Zl8 (s:={ s' with heap:=h' }) (hce.trans yf) air2 (by obtain ⟨oe,vs,T,g1,g2,g3⟩:=ht;exact ⟨oe,vs,T,(ne4 a aC).trans g1,g2,g3⟩) fun h5 a5 up5=>?_
 have un0:Un (frs X.stack) fp H2 H5 s2.heap s5.heap:=I5.base
 have neC:∀ b o,s2.heap.get? b=some o→b∉[C]:=fun b o q z=>by
  have:=Heap.lt_size q
  rw [List.mem_singleton.mp z] at this
  exact absurd this (Nat.not_lt.mpr hC)
 have un5:Un (frs X.stack) fp H2 H5 s2.heap (hideAll s5.heap [C]) :=
  ⟨fun b o q n hb hx=>hideAll_get _ (un0.keep b o q n hb hx) (neC b o q),fun b o q n hb hx=>by obtain ⟨sl,z⟩:=un0.slot b o q n hb hx;exact ⟨sl,hideAll_get _ z (neC b o q)⟩,un0.free,fun b o q hx=>by obtain ⟨o',z⟩:=un0.there b o q hx;exact ⟨o',hideAll_get _ z (neC b o q)⟩,un0.tups,un0.frzs,un0.tbls⟩
 have hok5:HOk X.prog X.w H5 (hideAll s5.heap [C]):=ZgV I5.hok fun b hb=>by rw [List.mem_singleton.mp hb];exact fC
 have IX:Inv X pins σ H5 { s5 with heap:=hideAll s5.heap [C] }:=I2.call' (s':={ s5 with heap:=hideAll s5.heap [C] }) (ch:=fp) I5.os un5 hok5 I5.bare fun b hb=>⟨(f2 b hb).2.2.2.1,(f2 b hb).2.1,(f2 b hb).2.2.2.2.1,(f2 b hb).2.2.2.2.2⟩
 have hk2:HOk X.prog X.w H' (hideAll B [C]):=ZgV hk fun b hb=>by rw [List.mem_singleton.mp hb];exact fC'
 have of1:∀ b o,(hideAll s5.heap [C]).get? b=some o→b≠C∧s5.heap.get? b=some o:=fun b o q=>⟨fun z=>(by rw [z,hideAll_none [C] (by simp)] at q;cases q),of_hideAll _ q⟩
 have kb2:∀ b o,(hideAll s5.heap [C]).get? b=some o→H5 b=none→b∉frs X.stack→(hideAll B [C]).get? b=some o:=fun b o q n hb=>by
  obtain ⟨q1,q2⟩:=of1 b o q
  exact hideAll_get _ (kb b o q2 n hb) (by simpa using q1)
 have u2:Un (frs X.stack) [] H5 H' (hideAll s5.heap [C]) s'.heap:=⟨fun b o q=>u.keep b o (of1 b o q).2,fun b o q=>u.slot b o (of1 b o q).2,fun b o q=>u.free b o (of1 b o q).2,fun b o q=>u.there b o (of1 b o q).2,u.tups,u.frzs,u.tbls⟩
 have air0:Air (hideAll B [C]) X.stack a (.ref D) fl s'.heap:=by
  obtain ⟨st,nw,ff,oe,vs,h1,h2,h3,h4',r⟩:=air
  refine ⟨fun b o q=>st b o (hid b o q).2,?_,Zh0 ff,oe,vs,h1,h2,h3,h4',?_⟩
  ·exact ZdZ nw
  ·rcases r with r | ⟨T,oT,ts,r1,r2,r3,r4,r5,r6⟩
   ·exact .inl r
   ·exact .inr ⟨T,oT,ts,r1,ZdZ r2,r3,r4,r5,r6⟩
 have un':=Zjc (Un.refl (fs:=frs X.stack)) u2 hk2 kb2 (fun _ _ _ _ z=>z) smF air0 a5.stay (fun b o hb q nf=>by
  obtain ⟨sl,q1⟩:=up4 b o q nf
  have bC:b≠C:=fun z=>hCf (z ▸ hb)
  have q2:=(ne4 b bC).trans q1
  obtain ⟨sl2,q3⟩:=up5 b _ q2 nf
  exact ⟨sl2,q3⟩)
 exact ⟨D,en,rawInt L,a,H5,H',_,.inr ⟨L,yf,rfl⟩,rfl,IX,sm4.trans sm5,os,ba,smF,un',hideAll B [C],hk2,kb2,a5⟩
end
def Zgs (k:Nat) (oix:List Nat) (g:TG) (te:TE) (xr:St→Hp→Str→Prop) (cn:Str) (J:It) (σ:St) (H:Hp):Prop :=
 ∃ (n:Nat) (W:Nat→List V→Hp→Prop),W 0 [] H∧∀ i ys H2,W i ys H2 →
  (J.go i H2∧i<n∧ys.length<sizeLine∧∃ N:List V→Hp→Prop,(∀ ys' H',N ys' H'→W (i+1) ys' H'∧Same H H')∧∀ x H3,J.yld i H2 x H3→g x (Z5 k oix σ) H3 fun σ4 H4=>σ4.drop k=(Z5 k oix σ).drop k∧Same H2 H4 ∧
   (xr σ4 H4 cn∨te σ4 H4 fun y H6=>N (ys++[y]) H6))
theorem Zhs {X:Cx} {pins:List (Addr×Obj)} {σ:St} {H H2:Hp} (smX:Same H H2) {s2:Shared} {tg elt iter:Expr} {scope:Scope} {pos:Pos} {J:It} {fp:List Addr} {it:Addr} {tn:Nat→Heap→Prop}
  {own outs:List Str} {oix:List Nat} {g:TG} {te:TE} {xr:St→Hp→Str→Prop} {cn:Str} {E:Value→Shared→Prop}
  (S:ZR own outs scope X.env.scope) (hox:oix.map (fun j=>X.N[j]?)=outs.map some) (hc:X.calm=true)
  (hg:∀ C s2 H2 fp pins,PG (cxC X own outs scope C s2 H2 fp pins) tg g)
  (he:∀ C s2 H2 fp pins,PE (cxC X own outs scope C s2 H2 fp pins) elt te)
  (hxe:∀ C s2 H2 fp pins pY s σ4 H4,Inv (cxC X own outs scope C s2 H2 fp pins) pY σ4 H4 s→xr σ4 H4 cn→wpAny (model X.prog X.w) X.A (eval elt (cxC X own outs scope C s2 H2 fp pins).env) (fun _ _=>False) (ThrC (cxC X own outs scope C s2 H2 fp pins) pY σ4 H4 cn) s)
  (ys0:X.stack=X.env::X.outer) {L:Addr} (yf:X.env.frame=some L)
  (I2:Inv X pins σ H2 s2) (T:ZfK X.prog X.w X.K tg J fp it tn) (st:tn 0 s2.heap) (f2:∀ b∈fp,Zdp X pins H2 b)
  (h:Zgs own.length oix g te xr cn J σ H2) :
  wpAny (model X.prog X.w) X.A (newList []) (fun acc s₃=>wpAny (model X.prog X.w) X.A (newFunctionEnv scope X.env.globals (ZaS X.env scope.names []) [] X.env.qual none .none (some X.env)) (fun cenv s₄ =>
   codeAny (model X.prog X.w) X.A (.compStart (.ListComp elt [⟨tg,iter,[],0⟩] scope pos) 0 (.ref it) acc { cenv with scope:=relabel scope X.env }) (cpX (model X.prog X.w) X.A (ThrC X pins σ H cn) { cenv with scope:=relabel scope X.env }) s₄) E s₃) E s2:=by
 obtain ⟨n,W,w0,turn⟩:=h
 refine wpAny_newObj_type (wpAny_newFunctionEnv S.nocell (by intro y hy;simp at hy) (fun h₁ hns₁ hsb₁=>?_) S.kind)
 dsimp only at hns₁ hsb₁ ⊢
 generalize hP:s2.heap.push { cls:=.type "list",dict:=none,data:=.seq ([]:List Value).toArray }=hp at hns₁ hsb₁ ⊢
 have hC:hp.objs.size=s2.heap.objs.size+1:=by rw [← hP,Heap.size_push]
 generalize hCC:hp.objs.size=C at hns₁ hsb₁ hC ⊢
 have hDC:s2.heap.objs.size≠C:=by rw [hC];exact Nat.ne_of_lt (Nat.lt_succ_self _)
 have hDC':s2.heap.objs.size<C:=by rw [hC];exact Nat.lt_succ_self _
 have old:∀ b o,s2.heap.get? b=some o→h₁.get? b=some o:=fun b o e =>
  hsb₁.extBut b o (Nat.ne_of_lt (Nat.lt_trans (Heap.lt_size e) hDC')) (Heap.get?_push_of_some _ (hP ▸ Heap.get?_push_of_some _ e))
 have hacc:h₁.get? s2.heap.objs.size=some (ZaF [] 0):=hsb₁.extBut _ _ hDC (Heap.get?_push_of_some _ (hP ▸ Heap.get?_push_size _ rfl))
 -- the cells of the closure are cells of the frame
 have hcells:∀ x∈scope.names,x.2=.free→∃ c,X.env.cells.lookup x.1=some c:=fun x hx hf=>I2.ok.has x.1 (S.free x hx hf)
 have clX:∀ x c,(ZaS X.env scope.names []).lookup x=some c→X.env.cells.lookup x=some c:=fun x c e =>
  ZeU scope.names [] hcells (fun p hp=>by cases hp) (x,c) (PySem.mem_of_lookup e)
 have clHas:∀ x,(x,NameKind.free)∈scope.names→∃ c,(ZaS X.env scope.names []).lookup x=some c:=fun x hx=>by
  obtain ⟨c,hc⟩:=ZeL (env:=X.env) scope.names [] x (.inl hx)
  exact ZfF hc
 have fpLt:∀ b∈fp,b<s2.heap.objs.size:=fun b hb=>by
  obtain ⟨o,e,_⟩:=T.obj 0 _ st b hb
  exact Heap.lt_size e
 have cLt:∀ x c,X.env.cells.lookup x=some c→c<s2.heap.objs.size:=fun x c e=>by
  obtain ⟨v,q⟩:=I2.cell x c e
  exact q.lt
 have fpStk:∀ b∈fp,b∉frs X.stack:=fun b hb z=>by
  rcases List.mem_cons.mp (I2.stkSub b z) with e | z
  ·exact (f2 b hb).2.1 e
  ·exact (f2 b hb).2.2.1 z
 have pinLt:∀ p∈X.pn++pins,p.1<s2.heap.objs.size:=fun p hp=>Heap.lt_size (I2.pin p hp).1
 have pinStk:∀ p∈X.pn++pins,p.1∉frs X.stack:=fun p hp z=>by
  rcases List.mem_cons.mp (I2.stkSub _ z) with e | z
  ·exact (I2.pin p hp).2.2.1 e
  ·exact (I2.pin p hp).2.2.2.1 z
 have fsLt:∀ b∈frs X.stack,b<s2.heap.objs.size:=fun b hb=>by
  obtain ⟨_,o,ho,_⟩:=I2.stack.mem hb
  exact Heap.lt_size ho
 let Y:Cx:=cxC X own outs scope C s2 H2 fp pins
 have okY:Y.Ok:={
  mod:=I2.ok.mod
  kind:=S.kind
  glob:=I2.ok.glob
  blt:=I2.ok.blt
  above:=Nat.le_of_lt hDC'
  inj:=fun x y c h1 h2=>I2.ok.inj x y c (clX x c h1) (clX y c h2)
  has:=fun x hx=>by
   refine clHas x ?_
   rcases hx with hx | hx
   ·exact relabel_mem (env:=X.env) (.inl rfl) S.nocell hx
   ·exact relabel_mem (env:=X.env) (.inr rfl) S.nocell hx
  cab:=fun x c hf _=>absurd (show false=true from hf) Bool.false_ne_true
  hd:=I2.ok.hd
  frames:=I2.ok.frames
  stk:=.inl rfl
  exf:=fun b hb=>⟨Nat.ne_of_lt (Nat.lt_trans (fpLt b hb) hDC'),fun x c e=>(f2 b hb).2.2.2.2.1 x c (clX x c e)⟩
  bs:=I2.bs
  bsz:=Nat.le_trans I2.ok.bsz I2.sz
  noex:=fun b o e hb=>by
   rcases (f2 b hb).2.2.2.1 with z | z
   ·exact I2.ok.noex b o e z
   ·exact absurd (Nat.lt_of_lt_of_le (Heap.lt_size e) (Nat.le_trans I2.ok.bsz z)) (Nat.lt_irrefl _)
  exfs:=fpStk
  funs:=I2.stack
  frf:=I2.stkFree }
 have hCH:∀ H':Hp,HOk X.prog X.w H' h₁→True:=fun _ _=>trivial
 have lenS:(Z5 own.length oix σ).length=Y.N.length:=by
  have e:=congrArg List.length hox
  simp only [List.length_map] at e
  show (List.replicate own.length none++oix.map _).length=(own++outs).length
  rw [List.length_append,List.length_append,List.length_replicate,List.length_map,e]
 have I4:Inv Y [(s2.heap.objs.size,ZaF [] 0)] (Z5 own.length oix σ) H2 { s2 with heap:=h₁ }:={
  ok:=okY
  os:=rfl
  bare:=I2.bare
  base:=Un.kept old
  loc:=by
   refine ⟨_,hns₁,fun i x v e1 e2 e3=>?_⟩
   -- an outer name
   have hi:own.length≤i:=by
    apply Nat.le_of_not_lt
    intro hlt
    unfold Z5 at e2
    rw [List.getElem?_append_left (by rw [List.length_replicate];exact hlt),List.getElem?_replicate] at e2
    rw [if_pos hlt] at e2
    cases e2
   unfold Z5 at e2
   rw [List.getElem?_append_right (by rw [List.length_replicate];exact hi),List.length_replicate,List.getElem?_map] at e2
   have e1':outs[i-own.length]?=some x:=by
    have e1:(own++outs)[i]?=some x:=e1
    rwa [List.getElem?_append_right hi] at e1
   cases ej:oix[i-own.length]? with
   | none=>rw [ej] at e2;cases e2
   | some j =>
    rw [ej] at e2
    have e2':(σ[j]?).join=some v:=Option.some.inj e2
    have e2'':σ[j]?=some (some v):=by
     cases eσ:σ[j]? with
     | none=>rw [eσ] at e2';cases e2'
     | some z=>rw [eσ] at e2';exact congrArg some e2'
    have eN:X.N[j]?=some x:=by
     have q:=congrArg (fun l=>l[i-own.length]?) hox
     simp only [List.getElem?_map,ej,e1',Option.map_some] at q
     exact Option.some.inj q
    have hfree:scope.names.lookup x=some .free:=S.out x (List.mem_of_getElem? e1')
    have hmem:(x,NameKind.free)∈scope.names:=PySem.mem_of_lookup hfree
    have hk:X.env.scope.names.lookup x=some .cell∨X.env.scope.names.lookup x=some .free:=S.free (x,.free) hmem rfl
    obtain ⟨m,hn,hl⟩:=I2.loc
    obtain ⟨u,r,l⟩:=hl j x v eN e2'' (by rcases hk with hk | hk;exact .inr (.inl hk);exact .inr (.inr hk))
    refine ⟨u,r,.inr ⟨relabel_free (env:=X.env) hfree,?_⟩⟩
    obtain ⟨c,ec⟩:=clHas x hmem
    refine ⟨c,ec,?_⟩
    have ec':=clX x c ec
    rcases l with ⟨k,_⟩ | ⟨_,c',e',o,ho,hd⟩
    ·rcases hk with hk | hk
     ·exact absurd (k.symm.trans hk) (by decide)
     ·exact absurd (k.symm.trans hk) (by decide)
    ·rw [ec'] at e'
     cases e'
     exact ⟨o,old _ _ ho,hd⟩
  cell:=fun x c e=>by
   obtain ⟨v,o,ho,hd⟩:=I2.cell x c (clX x c e)
   exact ⟨v,o,old _ _ ho,hd⟩
  free:=I2.hok.fresh (Nat.le_of_lt hDC')
  freeC:=fun x c e=>I2.freeC x c (clX x c e)
  pin:=fun p hp=>by
   rcases List.mem_append.mp hp with hp | hp
   ·obtain ⟨e,n,_,_,d⟩:=I2.pin p hp
    exact ⟨old _ _ e,n,Nat.ne_of_lt (Nat.lt_trans (pinLt p hp) hDC'),pinStk p hp,d⟩
   ·have e:p=(s2.heap.objs.size,ZaF [] 0):=by simpa using hp
    subst e
    refine ⟨hacc,I2.hok.fresh (Nat.le_refl _),hDC,fun z=>absurd (fsLt _ z) (Nat.lt_irrefl _),fun v z=>?_⟩
    have z':Data.seq _ _=Data.cell v:=z
    cases z'
  hok:=I2.hok.kept old
  len:=lenS }
 -- what stays of the iterator's records
 have fpY:∀ {H':Hp} {its:List Value} {k:Nat},(∀ b∈fp,H' b=none)→∀ b∈fp,Zdp Y [(s2.heap.objs.size,ZaF its k)] H' b:=fun {H' its k} hn b hb=>by
  refine ⟨hn b hb,Nat.ne_of_lt (Nat.lt_trans (fpLt b hb) hDC'),fpStk b hb,.inl hb,fun x c e=>(f2 b hb).2.2.2.2.1 x c (clX x c e),fun p hp=>?_⟩
  rcases List.mem_append.mp hp with hp | hp
  ·exact (f2 b hb).2.2.2.2.2 p hp
  ·have e:p=(s2.heap.objs.size,ZaF its k):=by simpa using hp
   subst e
   exact Nat.ne_of_gt (fpLt b hb)
 have loop:codeAny (model X.prog X.w) X.A (.compLoop (.ListComp elt [⟨tg,iter,[],0⟩] scope pos) 0 (.ref it) (.ref s2.heap.objs.size) Y.env) (cpX (model X.prog X.w) X.A (ThrC X pins σ H cn) Y.env) { s2 with heap:=h₁ }:=by
  refine codeAny_loop rfl (fun k s'=>∃ (i:Nat) (ys:List V) (its:List Value) (c:Nat) (H':Hp),Inv Y [(s2.heap.objs.size,ZaF its c)] (Z5 own.length oix σ) H' s'∧Vals ys its∧tn i s'.heap∧(∀ b∈fp,H' b=none)∧W i ys H'∧Same H2 H'∧k=n-i) (fun k s' hI=>?_) n
   ⟨0,[],[],0,H2,I4,.nil,T.keep 0 _ _ st fun b _ o e=>old b o e,fun b hb=>(f2 b hb).1,w0,Same.refl _,rfl⟩
  show wpAny _ X.A ((compTurn (.ListComp elt [⟨tg,iter,[],0⟩] scope pos) 0 (.ref it) (.ref s2.heap.objs.size) Y.env).onRaise (fun x=>do noteFrame x Y.env;theTreesLotGoes x)) _ _ s'
  refine wpAny_noted ?_
  rw [compTurn_list]
  obtain ⟨i,ys,its,c,H',I',rv,st',fr',w',smH,ek⟩:=hI
  obtain ⟨go,hin,hz,N,hN,step⟩:=turn i ys H' w'
  ·refine wpAny_bind (wpAny_standAt (wpAny_bind (thn (T.item Y rfl rfl rfl hc i _ s' _ H' _ I' (fpY fr') st' go) fun r s1 ⟨u,hr,h1⟩=>?_)))
   subst hr
   refine wpAny_bind (thn h1 fun _ s5 ⟨x,H5,I5,r5,y5,st5,fr5⟩=>?_)
   have I5':=I5.pinned (fpY fr5) (T.obj _ _ st5)
   refine wpAny_bind (wpAny_noRaise (thn (hg C s2 H2 fp pins _ s5 _ H5 x u _ I5' r5 (step x H5 y5)) fun _ s6 ⟨σ6,H6,I6,dr6,sm6,q6⟩=>?_))
   refine wpAny_bind (wpAny_tests_nil ?_)
   -- back to the begin of a turn
   have back:∀ {H8:Hp} {s8:Shared} {its8:List Value} {c8:Nat},Inv Y ([(s2.heap.objs.size,ZaF its8 c8)]++ZcL fp s5.heap) σ6 H8 s8 →
     Inv Y [(s2.heap.objs.size,ZaF its8 c8)] (Z5 own.length oix σ) H8 s8∧tn (i+1) s8.heap∧∀ b∈fp,H8 b=none:=fun {H8 s8 its8 c8} I8=>by
    refine ⟨I8.unpinned.weak ?_ fun j v e=>?_,T.keep _ _ _ st5 fun b hb o e=>(I8.pin (b,o) (List.mem_append_right _ (List.mem_append_right _ (Zcs hb e)))).1,fun b hb=>?_⟩
    ·exact lenS.trans I8.len.symm
    ·have hj:own.length≤j:=by
      apply Nat.le_of_not_lt
      intro hlt
      unfold Z5 at e
      rw [List.getElem?_append_left (by rw [List.length_replicate];exact hlt),List.getElem?_replicate] at e
      rw [if_pos hlt] at e
      cases e
     have e':=congrArg (fun l=>l[j-own.length]?) dr6
     simp only [List.getElem?_drop] at e'
     rw [show own.length+(j-own.length)=j by omega] at e'
     exact e'.trans e
    ·obtain ⟨o,e,d⟩:=T.obj _ _ st5 b hb
     exact (I8.pin (b,o) (List.mem_append_right _ (List.mem_append_right _ (Zcs hb e)))).2.1
   rcases q6 with q6 | q6
   ·-- it is raised
    refine wpAny_bind (wpAny_bind (wpAny_mono (hxe C s2 H2 fp pins _ s6 σ6 H6 I6 q6) (fun _ _ z=>z.elim) fun e s8 z=>?_))
    have smA:Same H2 H6:=smH.trans sm6
    refine wpAny_mono (Zmi (what:="comprehension.variables-let-go") (own:=own) (outs:=outs) (scope:=scope) I2 f2 (Nat.le_of_lt hDC') ys0 yf smA z) (fun _ s9 hq=>?_) fun _ _ z=>z
    obtain ⟨m,hn,hq⟩:=hq
    exact ⟨m,hn,fun h' sb=>wpAny_mono (hq h' sb _ rfl) (fun _ _ z=>z) fun _ _ z=>z.from smX⟩
   ·refine wpAny_bind (wpAny_bind (wpAny_noRaise (thn (he C s2 H2 fp pins _ s6 σ6 H6 _ I6 q6) fun y s8 ⟨z,H8,I8,r8,w8⟩=>?_)))
    obtain ⟨eD,nD,neL,nF,dD⟩:=I8.pin (s2.heap.objs.size,ZaF its c) (List.mem_append_right _ (List.mem_append_left _ (by simp)))
    have hl:=rv.length
    refine wpAny_bind (call_meets F.slot_list_append ⟨_,eD,rfl⟩ F.entry_list_append (F.args_list_append_2 _ _) (PySem.list_append _ its.toArray c y (by rw [List.size_toArray];omega)) ⟨eD,?_⟩)
    obtain ⟨n',q⟩:∃ n',(s8.heap.update s2.heap.objs.size (Obj.mapSeq (·.push y))).get? s2.heap.objs.size=some (ZaF (its++[y]) n'):=by
     have q:=PySem.IsL.update eD (·.push y)
     rw [show its.toArray.push y=(its++[y]).toArray by simp] at q
     exact ⟨_,q⟩
    have I9:Inv Y (ZcL fp s5.heap) σ6 H8 { s8 with heap:=s8.heap.update s2.heap.objs.size (Obj.mapSeq (·.push y)) } :=
     (I8.pins_of fun p hp=>I8.pin p (List.mem_append_right _ (List.mem_append_right _ hp))).turned (t':=s8.toks) (it:=s2.heap.objs.size) (fun b o hb e=>(Heap.get?_update_other _ _ (Ne.symm hb)).trans e) nD hDC (.inr (Nat.le_refl _))
      (fun x c' e=>Nat.ne_of_lt (cLt x c' (clX x c' e))) fun p hp=>by
       rcases List.mem_append.mp hp with hp | hp
       ·exact Nat.ne_of_lt (pinLt p hp)
       ·exact Nat.ne_of_lt (fpLt _ (Zgg hp).1)
    have I10:Inv Y ([(s2.heap.objs.size,ZaF (its++[y]) n')]++ZcL fp s5.heap) σ6 H8 { s8 with heap:=s8.heap.update s2.heap.objs.size (Obj.mapSeq (·.push y)) }:=I9.pins_of fun p hp=>by
     rcases List.mem_append.mp hp with hp | hp
     ·have e:p=(s2.heap.objs.size,ZaF (its++[y]) n'):=by simpa using hp
      subst e
      exact ⟨q,nD,neL,nF,fun v z=>by
       have z':Data.seq _ _=Data.cell v:=z
       cases z'⟩
     ·exact I9.pin p (List.mem_append_right _ hp)
    obtain ⟨I11,st11,fr11⟩:=back I10
    exact wpAny_pure (wpAny_pure ⟨rfl,n-(i+1),by omega,i+1,ys++[z],its++[y],_,H8,I11,rv.append (.cons r8 .nil),st11,fr11,(hN _ _ w8).1,(hN _ _ w8).2,rfl⟩)
 exact codeAny_compStart_list loop (T.self _ 0 _ _ _ (T.keep 0 _ _ st fun b _ o e=>old b o e) loop)
end L2
namespace L2
open PySem PySem.Spec PyProof.Rows PySem.W
def Zbf (b:D→VE→Option VE) (e:VE→Option D) (hE:VE→Option Str) (ρ:VE):List D→Option Str
 | []=>none
 | d::ds=>match b d ρ with
  | none=>none
  | some ρ1=>orX (hE ρ1) (Zcc (e ρ1) (Zbf b e hE ρ ds))
def ZkO (K:Frag) (hE:VE→Option Str) (σ:St) (H:Hp) (c:Str):Prop:=∃ M H0 ρ,Rel K M H0 ρ σ H∧hE ρ=some c
section
variable {X:Cx} {K:Frag} {M:Fb} {H0:Hp} {pos:Pos} {tg elt iter:Expr} {scope:Scope} {ws:List Nat} {f:VE→Option (List D)} {b:D→VE→Option VE} {e:VE→Option D} {k:Nat} {oix:List Nat} {hE:VE→Option Str}
theorem ZjA (hw:∀ j∈ws,j<k) {ρ:VE} {σ:St} {H H1:Hp} {ds:List D} {c:Str} {J:It} (R:Rel K M H0 ρ σ H) (hz:ds.length≤sizeLine) (ex:Zbf b e hE (ZS k oix ρ) ds=some c) (s1:Same H H1) (ok:ZkM K M (Nf M ρ σ) H1 J ds) :
  Zgs k oix (ZjP K ws b) (Zjv K e) (ZkO K hE) c J σ H1:=by
 refine ⟨ds.length,fun i ys H2=>ys.length≤i∧Same H1 H2∧Zbf b e hE (ZS k oix ρ) (ds.drop i)=some c,⟨Nat.le_refl _,Same.refl _,ex⟩,?_⟩
 rintro i ys H2 ⟨hy,s2,hc⟩
 obtain ⟨ok1,ok2⟩:=ok _ H2 (Step.of_same s2) i
 by_cases hlt:i<ds.length
 ·obtain ⟨go,y⟩:=ok1 ds[i] (List.getElem?_eq_getElem hlt)
  rw [List.drop_eq_getElem_cons hlt] at hc
  simp only [Zbf] at hc
  refine ⟨go,hlt,by omega,fun ys' H'=>ys'.length≤i+1∧Same H1 H'∧Zbf b e hE (ZS k oix ρ) (ds.drop (i+1))=some c,fun ys' H' z=>⟨z,z.2.1⟩,fun x H3 yl=>?_⟩
  obtain ⟨s3,hd⟩:=y x H3 yl
  have R3:=((R.st s1).st s2).st s3
  obtain ⟨Rc,nf⟩:=R3.comp k oix
  cases hb:b ds[i] (ZS k oix ρ) with
  | none=>rw [hb] at hc;cases hc
  | some ρ1 =>
   rw [hb] at hc
   simp only at hc
   refine ⟨Nf M ρ σ,H3,ZS k oix ρ,ds[i],ρ1,Rc,hd.nw fun a ha=>.inl (nf a ha),hb,fun σ4 R4 S4 w4=>⟨?_,s3,?_⟩⟩
   ·apply List.ext_getElem?
    intro j
    rw [List.getElem?_drop,List.getElem?_drop]
    exact w4 _ fun hj=>absurd (hw _ hj) (by omega)
   ·cases hh:hE ρ1 with
    | some c'=>rw [hh] at hc;cases hc;exact .inl ⟨_,_,ρ1,R4,hh⟩
    | none =>
     rw [hh] at hc
     cases he:e ρ1 with
     | none=>rw [he] at hc;cases hc
     | some yd =>
      rw [he] at hc
      refine .inr ⟨Nf M ρ σ,H3,ρ1,yd,R4,he,fun v H6 s6 hv=>⟨?_,(s2.trans s3).trans s6,hc⟩⟩
      simp only [List.length_append,List.length_singleton];omega
 ·rw [List.drop_eq_nil_of_le (by omega)] at hc
  cases hc
theorem Zh3 (nx:NoX X) (ys:X.stack=X.env::X.outer) {L:Addr} (yf:X.env.frame=some L) (own outs:List Str) (oix:List Nat) (S:ZR own outs scope X.env.scope) (hox:oix.map (fun j=>X.N[j]?)=outs.map some) (hc:X.calm=true) (hi:JI X tg iter (tI K M H0 f))
  (hg:∀ C s2 H2 fp pins M' H',JG (cxC X own outs scope C s2 H2 fp pins) tg (tG K M' H' ws b)) (he:∀ C s2 H2 fp pins M' H',JE (cxC X own outs scope C s2 H2 fp pins) elt (tD K M' H' e))
  (hx:∀ C s2 H2 fp pins M' H',XE (cxC X own outs scope C s2 H2 fp pins) K M' H' elt hE) (hw:∀ j∈ws,j<own.length:=by decide) (hs:∀ x,foldedSetIterable iter X.env x=pure x:=by intro _;rfl) :
  XE X K M H0 (.ListComp elt [⟨tg,iter,[],0⟩] scope pos) (fun ρ=>(Zy (f ρ)).bind (Zbf b e hE (ZS own.length oix ρ))):=⟨fun pins s σ H ρ c I R q=>by
 cases hf:Zy (f ρ) with
 | none=>rw [hf] at q;cases q
 | some ds =>
  rw [hf] at q
  obtain ⟨hf,hz⟩:=Zds hf
  rw [eval_ListComp]
  refine ZfI (use:=none) rfl hs (Zb2 fun x hx hf=>I.ok.has x.1 (S.free x hx hf)) S.kind S.loc (wpAny_mono (hi.h pins s σ H (fun J H1=>Same H H1∧Zgs own.length oix (ZjP K ws b) (Zjv K e) (ZkO K hE) c J σ H1) I ⟨ρ,ds,R,hf,fun J H1 s1 ok=>⟨s1,ZjA hw R hz q s1 ok⟩⟩) (fun xv s₁ h₁=>wpAny_mono h₁ (fun itv s₂ h₂=>?_) fun e s' z=>(nx e s' z).elim) fun e s' z=>(nx e s' z).elim)
  obtain ⟨it,fp,tn,J,H2,e0,I2,T,st2,f2,sm,turns⟩:=h₂
  subst e0
  exact Zhs sm S hox hc (fun C s2 H2 fp pins=>PG.all fun M' H'=>(hg C s2 H2 fp pins M' H').h) (fun C s2 H2 fp pins=>PE.all fun M' H'=>(he C s2 H2 fp pins M' H').h) (fun C s2 H2 fp pins pY s σ4 H4 I4 ⟨M',H',ρ4,R4,h4⟩=>(hx C s2 H2 fp pins M' H').h pY s σ4 H4 ρ4 c I4 R4 h4) ys yf I2 T st2 f2 turns⟩
theorem ZgQ {h:VE→Option Str} (own outs:List Str) (S:ZR own outs scope X.env.scope) (z:XE X K M H0 iter h) (hs:∀ x,foldedSetIterable iter X.env x=pure x:=by intro _;rfl) :
  XE X K M H0 (.ListComp elt [⟨tg,iter,[],0⟩] scope pos) h:=⟨fun pins s σ H ρ c I R q=>by
 rw [eval_ListComp]
 exact ZfI (use:=none) rfl hs (Zb2 fun x hx hf=>I.ok.has x.1 (S.free x hx hf)) S.kind S.loc (wpAny_mono (z.h pins s σ H ρ c I R q) (fun _ _ z=>z.elim) fun _ _ z=>z)⟩
theorem Zku {e:Expr} {h1 h2:VE→Option Str} (z1:XE X K M H0 e h1) (z2:XE X K M H0 e h2):XE X K M H0 e (fun ρ=>orX (h1 ρ) (h2 ρ)):=⟨fun pins s σ H ρ c I R q=>by
 cases hh:h1 ρ with
 | some c'=>rw [hh] at q;cases q;exact z1.h pins s σ H ρ c I R hh
 | none=>rw [hh] at q;exact z2.h pins s σ H ρ c I R q⟩
theorem Zk1 {i:Nat} {x:Str} {pos' spos:Pos} (nx:NoX X) (ys:X.stack=X.env::X.outer) {L:Addr} (yf:X.env.frame=some L) (own outs:List Str) (oix:List Nat) (S:ZR own outs scope X.env.scope) (hox:oix.map (fun j=>X.N[j]?)=outs.map some) (hc:X.calm=true) (hi:JI X tg iter (tI K M H0 f))
  (hg:∀ C s2 H2 fp pins M' H',JG (cxC X own outs scope C s2 H2 fp pins) tg (tG K M' H' ws b)) (he:∀ C s2 H2 fp pins M' H',JE (cxC X own outs scope C s2 H2 fp pins) elt (tD K M' H' e))
  (hx:∀ C s2 H2 fp pins M' H',XE (cxC X own outs scope C s2 H2 fp pins) K M' H' elt hE) (hw:∀ j∈ws,j<own.length:=by decide)
  (hsw:swapsWith (.ListComp elt [⟨tg,iter,[],0⟩] scope pos) (some (.Name x pos')) spos.line X.env=pure true:=by rfl) (hs:∀ x,foldedSetIterable iter X.env x=pure x:=by intro _;rfl) :
  XT X K M H0 (.Assign [.Name x pos'] (.ListComp elt [⟨tg,iter,[],0⟩] scope pos) spos) (fun ρ=>(Zy (f ρ)).bind (Zbf b e hE (ZS own.length oix ρ))):=⟨fun pins s σ H ρ c I R q=>by
 cases hf:Zy (f ρ) with
 | none=>rw [hf] at q;cases q
 | some ds =>
  rw [hf] at q
  obtain ⟨hf,hz⟩:=Zds hf
  rw [exec_Assign_Name_used _ _ _ _ hsw]
  refine wpAny_bind (wpAny_standAt (wpAny_bind ?_))
  show wpAny _ X.A (do let _ ← comprehension (.ListComp elt [⟨tg,iter,[],0⟩] scope pos) scope X.env _ (newList []) false (eval iter X.env) (some (assign (.Name x pos') X.env))) _ _ s
  refine wpAny_bind (wpAny_mono (ZfI (use:=some (assign (.Name x pos') X.env)) (Q:=fun _ _=>False) rfl hs (Zb2 fun x hx hf=>I.ok.has x.1 (S.free x hx hf)) S.kind S.loc (wpAny_mono (hi.h pins s σ H (fun J H1=>Same H H1∧Zgs own.length oix (ZjP K ws b) (Zjv K e) (ZkO K hE) c J σ H1) I ⟨ρ,ds,R,hf,fun J H1 s1 ok=>⟨s1,ZjA hw R hz q s1 ok⟩⟩) (fun xv s₁ h₁=>wpAny_mono h₁ (fun itv s₂ h₂=>?_) fun e s' z=>(nx e s' z).elim) fun e s' z=>(nx e s' z).elim)) (fun _ _ z=>z.elim) fun _ _ z=>z)
  obtain ⟨it,fp,tn,J,H2,e0,I2,T,st2,f2,sm,turns⟩:=h₂
  subst e0
  exact Zhs sm S hox hc (fun C s2 H2 fp pins=>PG.all fun M' H'=>(hg C s2 H2 fp pins M' H').h) (fun C s2 H2 fp pins=>PE.all fun M' H'=>(he C s2 H2 fp pins M' H').h) (fun C s2 H2 fp pins pY s σ4 H4 I4 ⟨M',H',ρ4,R4,h4⟩=>(hx C s2 H2 fp pins M' H').h pY s σ4 H4 ρ4 c I4 R4 h4) ys yf I2 T st2 f2 turns⟩
end
end L2
namespace L2
open PySem PySem.Spec PyProof.Rows PySem.W
section
variable {X:Cx} {K:Frag} {M:Fb} {H0:Hp} {a b:Expr} {f g:VE→Option D} {pos:Pos}
def Zle:V→List V→Hp→VK→Prop:=fun x vs H Q=>∃ z y,x=.str z∧vs=[.str y]∧z.length≤sizeLine∧Q (.str (Txt.stripChars z y)) H
theorem Zg7:MtR X "str.strip" Zle:=by
 intro pins s σ H x vs v us Q I rx rv h
 obtain ⟨z,y,rfl,rfl,hz,q⟩:=h
 obtain ⟨t,rfl⟩:=rx
 obtain ⟨u,rfl,t',rfl⟩:=Zep rv
 exact PySem.SC.stripChars (fun t' k=>⟨.str (Txt.stripChars z y),H,I.tok k,⟨_,rfl⟩,q⟩) hz
@[simp] def Zes (z:Str):List D→Option D
  | [.str y]=>if z.length≤sizeLine then some (.str (Txt.stripChars z y)) else none
  | _=>none
theorem Zhb:RmD K Zle Zes:=by
 intro N H z vs ds d Q nh h e q
 unfold Zes at e
 split at e
 ·next y =>
  split at e
  ·next hz =>
   cases e
   obtain ⟨v,rfl,hv⟩:=Paired.one' h
   exact ⟨z,y,rfl,by rw [hv.str],hz,q _ H (Same.refl H) ZdF⟩
  ·cases e
 ·cases e
def Zib (z:Str) (n:Int):Str:=⟨(List.replicate n.toNat z.cps).foldl (·++·) #[]⟩
theorem ZnT (z:Str) (n:Int):(Zib z n).length=n.toNat * z.length:=by
 have go:∀ (k:Nat) (acc:Array Nat),((List.replicate k z.cps).foldl (·++·) acc).size=acc.size+k * z.cps.size:=by
  intro k
  induction k with
  | zero=>intro acc;simp
  | succ k ih=>intro acc;rw [List.replicate_succ,List.foldl_cons,ih,Array.size_append,Nat.add_mul];omega
 show ((List.replicate n.toNat z.cps).foldl (·++·) #[]).size=_
 rw [go];simp [Str.length]
def ZjO (z:Str) (n:Int):Prop:=2≤n∧n≤1000∧1≤z.length∧z.length≤1000
instance (z:Str) (n:Int):Decidable (ZjO z n):=by unfold ZjO;infer_instance
theorem Zn6:OpR X (binaryOp .Mult) (fun x y H Q=>∃ z n,x=.str z∧y=.int n∧ZjO z n∧Q (.str (Zib z n)) H):=by
 intro pins s σ H x y v u Q I rx ry h
 obtain ⟨z,n,rfl,rfl,⟨h1,h2,h3,h4⟩,q⟩:=h
 obtain ⟨t,rfl⟩:=rx
 obtain ⟨t',rfl⟩:=ry
 have e1:(n==1||z.length==0)=false:=by
  have:n≠1:=by omega
  have:z.length≠0:=by omega
  simp [*]
 refine PySem.P.mul_str (by simp;omega) (fun _ _=>?_) (fun _ _=>?_) ?_
 ·have h5:(2^63-1) / (1000:Int)≤(2^63-1) / n:=by
   have hn:(0:Int)<n:=by omega
   rw [Int.le_ediv_iff_mul_le hn]
   have:(2^63-1) / (1000:Int) * n≤(2^63-1) / (1000:Int) * 1000:=Int.mul_le_mul_of_nonneg_left h2 (by decide)
   have:(2^63-1) / (1000:Int) * 1000≤2^63-1:=by decide
   omega
  have h6:(1000:Int)≤(2^63-1) / (1000:Int):=by decide
  omega
 ·have h5:z.length * n.toNat≤1000 * 1000:=Nat.mul_le_mul h4 (by omega)
  have h6:z.length * n.toNat≤sizeLine:=Nat.le_trans h5 (by decide)
  unfold Builtin.Str.tooLong
  simpa using h6
 ·rw [if_neg (by omega),e1]
  have h5:(Zib z n).length≤sizeLine:=by rw [ZnT];exact Nat.le_trans (Nat.mul_le_mul (show n.toNat≤1000 by omega) h4) (by decide)
  exact ⟨h5,.str (Zib z n),H,I.tok _,⟨_,rfl⟩,q⟩
@[simp] def Zej:D→D→Option D
  | .str z,.int n=>if ZjO z n then some (.str (Zib z n)) else none
  | _,_=>none
theorem Zoc:R2D K (fun x y H Q=>∃ z n,x=.str z∧y=.int n∧ZjO z n∧Q (.str (Zib z n)) H) Zej:=by
 intro N H x y d1 d2 d Q nh h1 h2 e q
 unfold Zej at e
 split at e
 ·split at e
  ·next hz=>cases e;exact ⟨_,_,h1.str,h2.int,hz,q _ H (Same.refl H) ZdF⟩
  ·cases e
 ·cases e
theorem Ziu (ha:JE X a (tP K M H0 f)) (hb:JE X b (tP K M H0 g)):JE X (.BinOp a .Mult b pos) (tD K M H0 (Zd Zej f g)):=⟨ZfM Zn6 Zoc ha.h hb.h⟩
end
end L2
namespace L2
open PySem PySem.Spec PyProof.Rows
@[simp] theorem Zl2 (a b:Int):eqD (.int a) (.int b)=decide (a=b):=by simp only [eqD];by_cases h:a=b<;>simp [h]
@[simp] theorem Zhk (a b:Str):eqD (.str a) (.str b)=decide (a=b):=by simp only [eqD];by_cases h:a=b<;>simp [h]
@[simp] theorem ZrK (a b:Bool):eqD (.bl a) (.bl b)=decide (a=b):=by simp only [eqD];by_cases h:a=b<;>simp [h]
@[simp] theorem Zr1:eqD .non .non=true:=by simp only [eqD]
@[simp] theorem ZrS (a:Bool) (b:Int):eqD (.bl a) (.int b)=decide ((if a then 1 else 0)=b):=by simp only [eqD];by_cases h:(if a then 1 else 0)=b<;>simp [h]
@[simp] theorem ZrN (a:Int) (b:Bool):eqD (.int a) (.bl b)=decide (a=(if b then 1 else 0)):=by simp only [eqD];by_cases h:a=(if b then 1 else 0)<;>simp [h]
@[simp] theorem Zr9 (a:Int) (b:Str):eqD (.int a) (.str b)=false:=by simp only [eqD]
@[simp] theorem ZrU (a:Str) (b:Int):eqD (.str a) (.int b)=false:=by simp only [eqD]
@[simp] theorem ZrL (a:Bool) (b:Str):eqD (.bl a) (.str b)=false:=by simp only [eqD]
@[simp] theorem Zr8 (a:Str) (b:Bool):eqD (.str a) (.bl b)=false:=by simp only [eqD]
@[simp] theorem Zsb (b:Int):eqD .non (.int b)=false:=by simp only [eqD]
@[simp] theorem ZrQ (b:Str):eqD .non (.str b)=false:=by simp only [eqD]
@[simp] theorem Zr6 (b:Bool):eqD .non (.bl b)=false:=by simp only [eqD]
@[simp] theorem ZrH (b:Int):eqD (.int b) .non=false:=by simp only [eqD]
@[simp] theorem ZrZ (b:Str):eqD (.str b) .non=false:=by simp only [eqD]
@[simp] theorem ZrJ (b:Bool):eqD (.bl b) .non=false:=by simp only [eqD]
@[simp] theorem ZrG (a b:List D):eqD (.tup a) (.tup b)=Zam a b:=by simp only [eqD]
@[simp] theorem Zsd (a b:List D):eqD (.lst a) (.lst b)=Zam a b:=by simp only [eqD]
@[simp] theorem ZrR (a b:List D):eqD (.tup a) (.lst b)=false:=by simp only [eqD]
@[simp] theorem ZrW (a b:List D):eqD (.lst a) (.tup b)=false:=by simp only [eqD]
@[simp] theorem ZrX (a:List D) (b:Int):eqD (.tup a) (.int b)=false:=by simp only [eqD]
@[simp] theorem ZrI (a:List D) (b:Str):eqD (.tup a) (.str b)=false:=by simp only [eqD]
@[simp] theorem Zsa (a:List D):eqD (.tup a) .non=false:=by simp only [eqD]
@[simp] theorem Zsc (a:List D) (b:Bool):eqD (.tup a) (.bl b)=false:=by simp only [eqD]
@[simp] theorem Zr0 (a:List D) (b:Int):eqD (.int b) (.tup a)=false:=by simp only [eqD]
@[simp] theorem Zr4 (a:List D) (b:Str):eqD (.str b) (.tup a)=false:=by simp only [eqD]
@[simp] theorem Zr2 (a:List D):eqD .non (.tup a)=false:=by simp only [eqD]
@[simp] theorem ZrO (a:List D) (b:Bool):eqD (.bl b) (.tup a)=false:=by simp only [eqD]
@[simp] theorem ZrF (a:List D) (b:Int):eqD (.lst a) (.int b)=false:=by simp only [eqD]
@[simp] theorem ZrV (a:List D) (b:Str):eqD (.lst a) (.str b)=false:=by simp only [eqD]
@[simp] theorem ZrT (a:List D):eqD (.lst a) .non=false:=by simp only [eqD]
@[simp] theorem Zr3 (a:List D) (b:Bool):eqD (.lst a) (.bl b)=false:=by simp only [eqD]
@[simp] theorem ZrE (a:List D) (b:Int):eqD (.int b) (.lst a)=false:=by simp only [eqD]
@[simp] theorem ZrP (a:List D) (b:Str):eqD (.str b) (.lst a)=false:=by simp only [eqD]
@[simp] theorem Zr5 (a:List D):eqD .non (.lst a)=false:=by simp only [eqD]
@[simp] theorem Zrz (a:List D) (b:Bool):eqD (.bl b) (.lst a)=false:=by simp only [eqD]
@[simp] theorem Zrd:Zam [] []=true:=by simp only [Zam]
@[simp] theorem ZqL (a b:D) (as bs:List D):Zam (a::as) (b::bs)=(eqD a b&&Zam as bs):=by simp only [Zam]
@[simp] theorem ZrD (b:D) (bs:List D):Zam [] (b::bs)=false:=by simp only [Zam]
@[simp] theorem Zrv (b:D) (bs:List D):Zam (b::bs) []=false:=by simp only [Zam]
@[simp] theorem ZlB:∀ (a b:List Int),Zam (a.map D.int) (b.map D.int)=decide (a=b)
  | [],[]=>by simp
  | [],_::_=>by simp
  | _::_,[]=>by simp
  | x::a,y::b=>by simp [ZlB a b]
@[simp] theorem Zrt (n:Nat) (a:List Int):(a.map D.int).all (okD n)=true:=by
  rw [List.all_eq_true]
  intro x hx
  obtain ⟨i,_,rfl⟩:=List.mem_map.mp hx
  cases n<;>rfl
@[simp] theorem ZrA (t n:String):ZhR t n=(t==n||(t=="bool"&&n=="int")):=rfl
@[simp] theorem ZqA:ZbP=["NoneType","bool","int","str","tuple","list"]:=rfl
@[simp] theorem Zer:Zaz=12:=rfl
@[simp] theorem Zrs:tysOf.tysL []=some []:=rfl
@[simp] theorem ZqM (n:String) (r:List D):tysOf.tysL (.ty n::r)=(tysOf.tysL r).map (n::·):=rfl
@[simp] theorem ZrC (ns:List Int):Ze2 (ns.map D.int)=some ns:=Zii ns
@[simp] theorem Zh1:∀ (ns:List Bool),ZeY (ns.map D.bl)=some ns
  | []=>rfl
  | n::ns=>by simp only [List.map_cons,ZeY,Zh1 ns];rfl
theorem Zc3 {α:Type} {b:D→VE→Option VE} {e:VE→Option D} {ρ:VE} (G F:α→D):∀ (xs:List α),(∀ x∈xs,∃ ρ1,b (G x) ρ=some ρ1∧e ρ1=some (F x))→Za7 b (fun _=>some true) e ρ (xs.map G)=some (xs.map F)
 | [],_=>rfl
 | x::xs,h=>by
  obtain ⟨ρ1,h1,h2⟩:=h x List.mem_cons_self
  simp only [List.map_cons,Za7,h1,h2,Zb,Option.bind,Zc3 G F xs fun y hy=>h y (List.mem_cons_of_mem _ hy)]
@[simp] theorem Zex {α:Type} (l:List α) (h:l.length≤1000000):Zy (some l)=some l:=by
  have:l.length≤sizeLine:=Nat.le_trans h (by decide)
  simp [this]
theorem ZjG {α β:Type} (f:α→β) (xs:List α) (lo hi:Option Int):ZcI (xs.map f) lo hi=(ZcI xs lo hi).map f:=by
 unfold ZcI
 rw [List.length_map,List.map_take,List.map_drop]
theorem Zr7 {α:Type} (xs:List α) (k:Int) (h:0≤k):ZcI xs none (some k)=xs.take k.toNat:=by
 have e:HT.sIx xs.length 0 none=0:=rfl
 have e2:HT.sIx xs.length xs.length (some k)=min k.toNat xs.length:=by simp only [HT.sIx];split<;>omega
 unfold ZcI
 rw [e,e2,List.drop_zero,Nat.sub_zero]
 rcases Nat.le_total k.toNat xs.length with h1 | h1
 ·rw [Nat.min_eq_left h1]
 ·rw [Nat.min_eq_right h1,List.take_length,List.take_of_length_le h1]
theorem ZmW {α:Type} (xs:List α) (k:Int) (h:0≤k):ZcI xs (some k) none=xs.drop k.toNat:=by
 have e:HT.sIx xs.length xs.length none=xs.length:=rfl
 have e2:HT.sIx xs.length 0 (some k)=min k.toNat xs.length:=by simp only [HT.sIx];split<;>omega
 unfold ZcI
 rw [e,e2]
 rcases Nat.le_total k.toNat xs.length with h1 | h1
 ·rw [Nat.min_eq_left h1,List.take_of_length_le (by rw [List.length_drop];exact Nat.le_refl _)]
 ·rw [Nat.min_eq_right h1,List.drop_length,List.drop_of_length_le h1,List.take_nil]
theorem ZnQ {α:Type} (xs:List α) (i j:Int) (hi:0≤i) (hj:0≤j):ZcI xs (some i) (some j)=(xs.drop i.toNat).take (j.toNat-i.toNat):=by
 have e1:HT.sIx xs.length 0 (some i)=min i.toNat xs.length:=by simp only [HT.sIx];split<;>omega
 have e2:HT.sIx xs.length xs.length (some j)=min j.toNat xs.length:=by simp only [HT.sIx];split<;>omega
 unfold ZcI
 rw [e1,e2]
 rcases Nat.le_total i.toNat xs.length with h1 | h1
 ·rw [Nat.min_eq_left h1]
  rcases Nat.le_total j.toNat xs.length with h2 | h2
  ·rw [Nat.min_eq_left h2]
  ·rw [Nat.min_eq_right h2,List.take_of_length_le (by rw [List.length_drop];exact Nat.le_refl _),List.take_of_length_le (by rw [List.length_drop];omega)]
 ·rw [Nat.min_eq_right h1,List.drop_length,List.drop_of_length_le h1,List.take_nil,List.take_nil]
@[simp] theorem ZqU (ns:List Int):Zng [.lst (ns.map D.int)]=if ns.length<64 then some ((ZoX ns).map D.int) else none:=by simp [Zng]
theorem ZmZ (j:Int) (h0:0≤j) (h:j<1000000000):Zgd [.int j]=some ((List.range j.toNat).map fun (k:Nat)=>D.int (k:Int)):=by
 have e:ZcT 0 j.toNat=(List.range j.toNat).map fun (k:Nat)=>D.int (k:Int):=by simp [ZcT]
 simp only [Zgd]
 rw [Zjl ⟨by omega,by omega⟩,e]
theorem Zjo (n:Nat) (h:n<1000000000):Zgd [.int (n:Int)]=some ((List.range n).map fun (k:Nat)=>D.int (k:Int)):=by
 rw [ZmZ _ (by omega) (by omega),Int.toNat_natCast]
theorem ZcR (xs ys:List D) (h:xs.length+ys.length≤1000000):Zq (.lst xs) (.lst ys)=some (.lst (xs++ys)):=by
 simp only [Zq]
 rw [if_pos (Nat.le_trans h (by decide))]
theorem ZfC (x y:Str) (h:x.length+y.length≤1000000):Zq (.str x) (.str y)=some (.str (x++y)):=by
 simp only [Zq]
 rw [if_pos (Nat.le_trans h (by decide))]
theorem Zfc (neg:Bool) (c:Nat) (z:Str):inD neg (.str ⟨#[c]⟩) (.str z)=some (.bl (if neg then !decide (c∈z.cps.toList) else decide (c∈z.cps.toList))):=by
 have h:=StrLaws.found_one z c
 simp only [inD]
 rw [h]
theorem ZpT {n:Nat} {i:Int} (h0:0≤i) (h1:i<n):ixN n i=some i.toNat:=by unfold ixN;rw [if_pos h0,if_pos h1]
theorem Zhq {α:Type} {xs:List α} {i:Int} (h0:0≤i) (h1:i<xs.length):∃ x,atI xs i=some x∧x∈xs:=by
 have h:i.toNat<xs.length:=by omega
 refine ⟨xs[i.toNat],?_,List.getElem_mem _⟩
 unfold atI
 rw [ZpT h0 h1]
 exact List.getElem?_eq_getElem h
theorem Zkb {z:Str} {i:Int} (hz:z.length≤1000000) (h0:0≤i) (h1:i<z.length):∃ c,ixD (.str z) (.int i)=some (.str ⟨#[c]⟩)∧c∈z.cps.toList:=by
 have hl:z.cps.toList.length=z.length:=by simp [Str.length]
 obtain ⟨c,e,hc⟩:=Zhq (xs:=z.cps.toList) h0 (by rw [hl];exact h1)
 refine ⟨c,?_,hc⟩
 simp only [ixD]
 rw [if_pos (Nat.le_trans hz (by decide)),e]
 rfl
@[simp] theorem Z0 (d:D):rvD (.val d)=d:=rfl
@[simp] theorem Zsf (xs:List D) (b:Bool):rvD (.own xs b)=.lst xs b:=rfl
end L2
namespace K82
open PySem PySem.Spec PyProof.Rows L2
def CS:List Str:=["NoText"]
noncomputable def ZdQ:VE→Option D:=(fun ρ=>blO (orB (asB ((Zd (inD false) (fun ρ=>rdP ρ 0) (fun _=>some (.str "abcdefghijklmnopqrstuvwxyz"))) ρ)) (asB ((Zd (inD false) (fun ρ=>rdP ρ 0) (fun _=>some (.str "0123456789"))) ρ))))
noncomputable def ZbR:VE→Res:=(fun ρ=>Zo (ZH (Zbg (Zae ((ZD isD (fun ρ=>Zb (rdA ρ 0) (Zb (Zi (some (.ty "str"))) (some [])))) ρ))) (Zo (Zz (some (.bl false))) (fun ρ=>.next ρ)) (.next ρ)) (fun ρ=>Zo (ZH (orB (asB ((Zd ltO (ZD ZaR (fun ρ=>Zb (rdA ρ 0) (some []))) (fun _=>some (.int (1)))) ρ)) (asB ((Zd gtD (ZD ZaR (fun ρ=>Zb (rdA ρ 0) (some []))) (fun _=>some (.int (12)))) ρ))) (Zo (Zz (some (.bl false))) (fun ρ=>.next ρ)) (.next ρ)) (fun ρ=>Zo (Zz (blO (Ze5 (asB ((Zd (inD false) (Zd ixD (fun ρ=>rdP ρ 0) (fun _=>some (.int (0)))) (fun _=>some (.str "abcdefghijklmnopqrstuvwxyz"))) ρ)) (asB ((ZD Zf5 (fun ρ=>Zb (Zi (ZC ((ZZ 1 [] (fun ρ=>(rdQ ρ 0).bind ZL) (ZF 0) (fun _=>some true) ZdQ) ρ))) (some []))) ρ))))) (fun ρ=>.next ρ))))
noncomputable def ZaO:List Sl→Option Rv:=fnP 1 1 ZbR
noncomputable def Zax:VE→Option D:=(Zd (inD false) (fun ρ=>rdP ρ 0) (fun _=>some (.str "0123456789")))
noncomputable def Zay:VE→Res:=(fun ρ=>Zu 1 (ZdN (Zae ((mtO Zba (fun ρ=>rdP ρ 0) (fun ρ=>Zb (Zi (some (.str "-"))) (some []))) ρ)) ((sl3 (fun ρ=>rdP ρ 0) (fun ρ=>asI (some (.int (1)))) (fun _=>some none) slD) ρ) (rdV ρ 0)) ρ)
noncomputable def Za6:VE→Res:=(fun ρ=>ZH (orB (asB ((Zd ltO (ZD ZaR (fun ρ=>Zb (rdA ρ 1) (some []))) (fun _=>some (.int (1)))) ρ)) (asB ((Zd gtD (ZD ZaR (fun ρ=>Zb (rdA ρ 1) (some []))) (fun _=>some (.int (60)))) ρ))) (Zo (Zz (some (.bl false))) (fun ρ=>.next ρ)) (.next ρ))
noncomputable def Za5:VE→Res:=(fun ρ=>ZH (Ze5 (Zae ((mtO Zba (fun ρ=>rdP ρ 1) (fun ρ=>Zb (Zi (some (.str "0"))) (some []))) ρ)) (asB ((Zd neO (fun ρ=>rdP ρ 0) (fun _=>some (.str "0"))) ρ))) (Zo (Zz (some (.bl false))) (fun ρ=>.next ρ)) (.next ρ))
noncomputable def Za2:VE→Res:=(fun ρ=>Zz ((ZD Zf5 (fun ρ=>Zb (Zi (ZC ((ZZ 1 [] (fun ρ=>(rdQ ρ 1).bind ZL) (ZF 0) (fun _=>some true) Zax) ρ))) (some []))) ρ))
noncomputable def Zfz:VE→Res:=fun ρ=>.next ρ
noncomputable def Za4:VE→Res:=fun ρ=>Zo (Za2 ρ) Zfz
noncomputable def Zat:VE→Res:=fun ρ=>Zo (Za5 ρ) Za4
noncomputable def Za8:VE→Res:=fun ρ=>Zo (Za6 ρ) Zat
noncomputable def Zag:VE→Res:=fun ρ=>Zo (Zay ρ) Za8
noncomputable def Zd0:VE→Res:=Zag
noncomputable def ZaQ:List Sl→Option Rv:=fnP 1 2 Zd0
noncomputable def Zen:VE→Res:=(fun ρ=>Zo (ZH (Zbg (Zae ((ZD isD (fun ρ=>Zb (rdA ρ 0) (Zb (Zi (some (.ty "str"))) (some [])))) ρ))) (Zo (.fail) (fun ρ=>.next ρ)) (.next ρ)) (fun ρ=>Zo (Zz ((mtO Zb1 (fun ρ=>rdP ρ 0) (fun ρ=>Zb (rdA ρ 1) (some []))) ρ)) (fun ρ=>.next ρ)))
noncomputable def Zbx:List Sl→Option Rv:=fnP 2 2 Zen
noncomputable def Zcr:VE→Option Str:=(fun ρ=>Z4 (Zbg (Zae ((ZD isD (fun ρ=>Zb (rdA ρ 0) (Zb (Zi (some (.ty "str"))) (some [])))) ρ))) (ZbV (Zb (Zi (some (.str "no text"))) (some [])) "NoText") (none))
noncomputable def Zby:List Sl→Option Str:=fnX 2 2 Zcr
noncomputable def ZcP:VE→Res:=(fun ρ=>Zo (ZH (asB ((Zd ltO (fun ρ=>rdP ρ 1) (ZD ZaR (fun ρ=>Zb (rdA ρ 0) (some [])))) ρ)) (Zo (Zz ((Zd ixD (fun ρ=>rdP ρ 0) (fun ρ=>rdP ρ 1)) ρ)) (fun ρ=>.next ρ)) (.next ρ)) (fun ρ=>Zo (Zz (some (.int (0)))) (fun ρ=>.next ρ)))
noncomputable def ZaX:List Sl→Option Rv:=fnP 2 2 ZcP
noncomputable def Zcy:VE→Res:=(fun ρ=>Zo (Zu 2 ((Zd ZbJ (Zd Zq (Zd Zq (Zd ZeX (fun ρ=>rdP ρ 2) (fun _=>some (.int (48271)))) (Zd ZeX (fun _=>some (.int (2))) (fun ρ=>rdP ρ 4))) (fun _=>some (.int (11)))) (fun _=>some (.int (2147483647)))) ρ) ρ) (fun ρ=>Zo (Zi8 3 ((Zd ZeS (fun ρ=>rdP ρ 2) (fun _=>some (.int (64)))) ρ) ρ) (fun ρ=>.next ρ)))
noncomputable def Ze6:VE→Res:=(fun ρ=>Zu 2 ((Zd ZbJ (Zd Zq (fun ρ=>rdP ρ 0) (Zd ZeX (fun _=>some (.int (7919))) (fun ρ=>rdP ρ 1))) (fun _=>some (.int (2147483629)))) ρ) ρ)
noncomputable def Zfi:VE→Res:=(fun ρ=>ZhH 3 (Zy ((some []).bind ZP)) ρ)
noncomputable def Zfj:VE→Res:=(Zg3 (fun ρ=>((Zb (Zi (some (.int (25)))) (some [])).bind ZP).bind Zgd) (ZF 4) Zcy)
noncomputable def Zfd:VE→Res:=(fun ρ=>Zz ((sl3 (fun ρ=>rdP ρ 3) (fun ρ=>asI (some (.int (1)))) (fun _=>some none) slD) ρ))
noncomputable def Zh9:VE→Res:=fun ρ=>.next ρ
noncomputable def Zfe:VE→Res:=fun ρ=>Zo (Zfd ρ) Zh9
noncomputable def Zfm:VE→Res:=fun ρ=>Zo (Zfj ρ) Zfe
noncomputable def Zfp:VE→Res:=fun ρ=>Zo (Zfi ρ) Zfm
noncomputable def Zff:VE→Res:=fun ρ=>Zo (Ze6 ρ) Zfp
noncomputable def ZeE:VE→Res:=Zff
noncomputable def Zdq:List Sl→Option Rv:=fnP 2 5 ZeE
noncomputable def Zey:VE→Res:=(fun ρ=>Zo (Zu 3 ((Zd Zq (fun ρ=>rdP ρ 3) (Zd ixD (fun ρ=>rdP ρ 2) (Zd ZbJ (Zd ZeS (fun ρ=>rdP ρ 0) (Zd Zq (fun ρ=>rdP ρ 4) (fun _=>some (.int (3))))) (fun _=>some (.int (36)))))) ρ) ρ) (fun ρ=>.next ρ))
noncomputable def Zf0:VE→Res:=(fun ρ=>Zu 2 (some (.str "abcdefghijklmnopqrstuvwxyz0123456789")) ρ)
noncomputable def Zgb:VE→Res:=(fun ρ=>Zu 3 ((Zd ixD (fun ρ=>rdP ρ 2) (Zd ZbJ (fun ρ=>rdP ρ 0) (fun _=>some (.int (26))))) ρ) ρ)
noncomputable def Zgr:VE→Res:=(Zg3 (fun ρ=>((Zb (Zi (rdV ρ 1)) (some [])).bind ZP).bind Zgd) (ZF 4) Zey)
noncomputable def Zgl:VE→Res:=(fun ρ=>Zz (rdV ρ 3))
noncomputable def ZjI:VE→Res:=fun ρ=>.next ρ
noncomputable def Zgh:VE→Res:=fun ρ=>Zo (Zgl ρ) ZjI
noncomputable def Zgo:VE→Res:=fun ρ=>Zo (Zgr ρ) Zgh
noncomputable def Zgn:VE→Res:=fun ρ=>Zo (Zgb ρ) Zgo
noncomputable def Zf1:VE→Res:=fun ρ=>Zo (Zf0 ρ) Zgn
noncomputable def ZfJ:VE→Res:=Zf1
noncomputable def Zeg:List Sl→Option Rv:=fnP 2 5 ZfJ
noncomputable def ZaU:VE→Option Bool:=(fun ρ=>orB (asB ((Zd gtD (fun ρ=>rdP ρ 2) (fun _=>some (.int (0)))) ρ)) (asB ((Zd eqO (fun ρ=>rdP ρ 1) (fun _=>some (.str ""))) ρ)))
noncomputable def Zcg:VE→Res:=(fun ρ=>Zo (Zu 1 ((Zd Zq (Zd ixD (fun _=>some (.str "0123456789")) (Zd ZbJ (fun ρ=>rdP ρ 2) (fun _=>some (.int (10))))) (fun ρ=>rdP ρ 1)) ρ) ρ) (fun ρ=>Zo (Zu 2 ((Zd ZeS (fun ρ=>rdP ρ 2) (fun _=>some (.int (10)))) ρ) ρ) (fun ρ=>.next ρ)))
noncomputable def Zbu:VE→Res:=(fun ρ=>ZH (ZkI (rdP ρ 0)) (Zo (Zz (some (.str "*"))) (fun ρ=>.next ρ)) (.next ρ))
noncomputable def Zce:VE→Res:=(fun ρ=>ZH (Zbg (Zae ((ZD isD (fun ρ=>Zb (rdA ρ 0) (Zb (Zi (some (.ty "int"))) (some [])))) ρ))) (Zo (Zz (rdV ρ 0)) (fun ρ=>.next ρ)) (.next ρ))
noncomputable def Zdk:VE→Res:=(fun ρ=>Zu 1 (some (.str "")) ρ)
noncomputable def Zc9:VE→Res:=(fun ρ=>Zu 2 ((ZD Zla (fun ρ=>Zb (rdA ρ 0) (some []))) ρ) ρ)
noncomputable def Zdb:VE→Res:=(fun ρ=>whR ZaU Zcg (100) ρ)
noncomputable def Zdf:VE→Res:=(fun ρ=>Zz (ZdN (asB ((Zd geD (fun ρ=>rdP ρ 0) (fun _=>some (.int (0)))) ρ)) (rdV ρ 1) ((Zd Zq (fun _=>some (.str "-")) (fun ρ=>rdP ρ 1)) ρ)))
noncomputable def ZhD:VE→Res:=fun ρ=>.next ρ
noncomputable def Zc8:VE→Res:=fun ρ=>Zo (Zdf ρ) ZhD
noncomputable def Zdt:VE→Res:=fun ρ=>Zo (Zdb ρ) Zc8
noncomputable def Zdo:VE→Res:=fun ρ=>Zo (Zc9 ρ) Zdt
noncomputable def Zdh:VE→Res:=fun ρ=>Zo (Zdk ρ) Zdo
noncomputable def Zcd:VE→Res:=fun ρ=>Zo (Zce ρ) Zdh
noncomputable def ZaW:VE→Res:=fun ρ=>Zo (Zbu ρ) Zcd
noncomputable def ZcQ:VE→Res:=ZaW
noncomputable def Zbp:List Sl→Option Rv:=fnP 1 3 ZcQ
noncomputable def ZbX:VE→Res:=(fun ρ=>Zo (Zu 2 (ZC (Zy ((Zb (Zi (some (.str ""))) (Zb (Zi (some (.str "00"))) (Zb (Zi (some (.str "-0"))) (Zb (Zi (some (.str "-"))) (Zb (Zi (some (.str "+1"))) (Zb (Zi ((Zd Zq (fun _=>some (.str "--")) (mtO Zes (fun ρ=>rdP ρ 1) (fun ρ=>Zb (Zi (some (.str "-"))) (some [])))) ρ)) (Zb (Zi ((Zd Zq (fun _=>some (.str "0")) (mtO Zes (fun ρ=>rdP ρ 1) (fun ρ=>Zb (Zi (some (.str "-"))) (some [])))) ρ)) (Zb (Zi (some (.str "-00"))) (Zb (Zi ((Zd Zq (fun ρ=>rdP ρ 1) (fun _=>some (.str "-"))) ρ)) (some [])))))))))).bind ZP))) ρ) (fun ρ=>Zo (Zu 2 ((Zd Zq (fun ρ=>rdP ρ 2) (fun ρ=>ZC (Zy ((Zb (Zi ((Zd Zq (fun ρ=>rdP ρ 1) (fun ρ=>rdP ρ 0)) ρ)) (Zb (Zi ((ZkC Zgp (fun ρ=>rdP ρ 0)) ρ)) (Zb (Zi ((Zd Zq (fun ρ=>rdP ρ 0) (fun _=>some (.str "_"))) ρ)) (Zb (Zi ((sl3 (Zd Zq (fun ρ=>rdP ρ 0) (fun _=>some (.str "aaaaaaaaaaaa"))) (fun _=>some none) (fun ρ=>asI (some (.int (13)))) slD) ρ)) (Zb (Zi ((Zd Zej (fun _=>some (.str "1")) (fun _=>some (.int (61)))) ρ)) (Zb (Zi ((Zd Zq (fun _=>some (.str "-")) (Zd Zej (fun _=>some (.str "9")) (fun _=>some (.int (61))))) ρ)) (some []))))))).bind ZP)))) ρ) ρ) (fun ρ=>Zo (Zz ((Zd Zq (fun ρ=>rdP ρ 2) (fun ρ=>ZC (Zy ((Zb (Zi ((Zd Zq (fun _=>some (.str " ")) (fun ρ=>rdP ρ 0)) ρ)) (Zb (Zi ((Zd Zq (fun ρ=>rdP ρ 0) (fun _=>some (.str " "))) ρ)) (Zb (Zi (some (.str "**"))) (Zb (Zi ((Zd Zq (fun _=>some (.str "*")) (fun ρ=>rdP ρ 0)) ρ)) (Zb (Zi ((Zd Zq (Zd Zq (fun ρ=>rdP ρ 0) (fun _=>some (.str "."))) (fun ρ=>rdP ρ 0)) ρ)) (Zb (Zi (some (.str "None"))) (Zb (Zi ((Zd Zq (Zd Zq (fun ρ=>rdP ρ 1) (fun _=>some (.str " "))) (fun ρ=>rdP ρ 1)) ρ)) (some [])))))))).bind ZP)))) ρ)) (fun ρ=>.next ρ))))
noncomputable def ZbW:List Sl→Option Rv:=fnP 2 3 ZbX
noncomputable def ZbY:VE→Res:=(fun ρ=>Zo (Zu 2 (ZC (Zy ((Zb (Zi ((Zd Zq (fun ρ=>rdP ρ 0) (fun _=>some (.str "/"))) ρ)) (Zb (Zi ((Zd Zq (fun _=>some (.str "/")) (fun ρ=>rdP ρ 1)) ρ)) (Zb (Zi ((Zd Zq (Zd Zq (fun ρ=>rdP ρ 0) (fun _=>some (.str "//"))) (fun ρ=>rdP ρ 1)) ρ)) (Zb (Zi ((Zd Zq (Zd Zq (Zd Zq (Zd Zq (fun ρ=>rdP ρ 0) (fun _=>some (.str "/"))) (fun ρ=>rdP ρ 0)) (fun _=>some (.str "/1/2/"))) (fun ρ=>rdP ρ 1)) ρ)) (Zb (Zi (some (.str "/"))) (Zb (Zi (some (.str "////"))) (some []))))))).bind ZP))) ρ) (fun ρ=>Zo (Zz ((Zd Zq (fun ρ=>rdP ρ 2) (fun ρ=>ZC (Zy ((Zb (Zi ((Zd Zq (Zd Zq (fun ρ=>rdP ρ 0) (fun _=>some (.str "/ "))) (fun ρ=>rdP ρ 1)) ρ)) (Zb (Zi ((Zd Zq (Zd Zq (fun ρ=>rdP ρ 0) (fun _=>some (.str ","))) (fun ρ=>rdP ρ 1)) ρ)) (Zb (Zi ((Zd Zq (Zd Zq (fun ρ=>rdP ρ 0) (fun _=>some (.str " /"))) (fun ρ=>rdP ρ 1)) ρ)) (some [])))).bind ZP)))) ρ)) (fun ρ=>.next ρ)))
noncomputable def ZcS:List Sl→Option Rv:=fnP 2 3 ZbY
noncomputable def Zeb:VE→Res:=(fun ρ=>Zu 2 (ZC (Zy ((Zb (Zi (some (.str "0@1"))) (Zb (Zi ((Zd Zq (fun _=>some (.str "0=")) (fun ρ=>rdP ρ 0)) ρ)) (Zb (Zi (some (.str "0@1="))) (Zb (Zi ((Zd Zq (fun _=>some (.str "@1=")) (fun ρ=>rdP ρ 0)) ρ)) (Zb (Zi ((Zd Zq (fun _=>some (.str "0@=")) (fun ρ=>rdP ρ 0)) ρ)) (Zb (Zi ((Zd Zq (fun _=>some (.str "-1@0=")) (fun ρ=>rdP ρ 0)) ρ)) (Zb (Zi ((Zd Zq (fun _=>some (.str "0@-1=")) (fun ρ=>rdP ρ 0)) ρ)) (Zb (Zi ((Zd Zq (fun ρ=>rdP ρ 0) (fun _=>some (.str "@0=1"))) ρ)) (some []))))))))).bind ZP))) ρ)
noncomputable def Zd7:VE→Res:=(fun ρ=>Zu 2 ((Zd Zq (fun ρ=>rdP ρ 2) (fun ρ=>ZC (Zy ((Zb (Zi ((Zd Zq (Zd Zq (fun _=>some (.str "0@1=")) (fun ρ=>rdP ρ 0)) (fun _=>some (.str ","))) ρ)) (Zb (Zi ((Zd Zq (fun _=>some (.str "0@1=,")) (fun ρ=>rdP ρ 1)) ρ)) (Zb (Zi ((Zd Zq (Zd Zq (Zd Zq (fun _=>some (.str "0@1=")) (fun ρ=>rdP ρ 0)) (fun _=>some (.str ", "))) (fun ρ=>rdP ρ 0)) ρ)) (Zb (Zi ((Zd Zq (Zd Zq (Zd Zq (fun _=>some (.str "0@1=")) (fun ρ=>rdP ρ 0)) (fun _=>some (.str "="))) (fun ρ=>rdP ρ 0)) ρ)) (some []))))).bind ZP)))) ρ) ρ)
noncomputable def Zea:VE→Res:=(fun ρ=>Zu 2 ((Zd Zq (fun ρ=>rdP ρ 2) (fun ρ=>ZC (Zy ((Zb (Zi ((Zd Zq (fun _=>some (.str "0@1@2=")) (fun ρ=>rdP ρ 0)) ρ)) (Zb (Zi ((Zd Zq (Zd Zq (Zd Zq (fun _=>some (.str "0@1=")) (fun ρ=>rdP ρ 0)) (fun _=>some (.str ";"))) (fun ρ=>rdP ρ 0)) ρ)) (Zb (Zi ((Zd Zq (fun _=>some (.str "0 @1=")) (fun ρ=>rdP ρ 0)) ρ)) (Zb (Zi ((Zd Zq (fun _=>some (.str "00@1=")) (fun ρ=>rdP ρ 0)) ρ)) (Zb (Zi ((Zd Zq (fun _=>some (.str "0@01=")) (fun ρ=>rdP ρ 0)) ρ)) (Zb (Zi (some (.str "="))) (some []))))))).bind ZP)))) ρ) ρ)
noncomputable def Zd9:VE→Res:=(fun ρ=>Zz ((Zd Zq (fun ρ=>rdP ρ 2) (fun ρ=>ZC (Zy ((Zb (Zi (some (.str "@"))) (Zb (Zi (some (.str ""))) (Zb (Zi ((Zd Zq (Zd Zq (Zd Zq (fun _=>some (.str "0@1=")) (fun ρ=>rdP ρ 0)) (fun _=>some (.str "/"))) (fun ρ=>rdP ρ 0)) ρ)) (Zb (Zi ((Zd Zq (fun _=>some (.str "*@0=")) (fun ρ=>rdP ρ 0)) ρ)) (Zb (Zi ((Zd Zq (Zd Zq (fun _=>some (.str "0@1=")) (fun ρ=>rdP ρ 1)) (fun _=>some (.str " "))) ρ)) (some [])))))).bind ZP)))) ρ))
noncomputable def ZgD:VE→Res:=fun ρ=>.next ρ
noncomputable def Zec:VE→Res:=fun ρ=>Zo (Zd9 ρ) ZgD
noncomputable def Zd8:VE→Res:=fun ρ=>Zo (Zea ρ) Zec
noncomputable def Zed:VE→Res:=fun ρ=>Zo (Zd7 ρ) Zd8
noncomputable def ZcH:VE→Res:=fun ρ=>Zo (Zeb ρ) Zed
noncomputable def ZeQ:VE→Res:=ZcH
noncomputable def Zdj:List Sl→Option Rv:=fnP 2 3 ZeQ
noncomputable def Zcq:VE→Res:=(fun ρ=>Zo (Zu 2 (ZC (Zy ((Zb (Zi (rdV ρ 0)) (Zb (Zi ((Zd Zq (fun ρ=>rdP ρ 0) (fun _=>some (.str " "))) ρ)) (Zb (Zi ((Zd Zq (fun _=>some (.str " ")) (fun ρ=>rdP ρ 1)) ρ)) (Zb (Zi ((Zd Zq (fun _=>some (.str "* ")) (fun ρ=>rdP ρ 1)) ρ)) (Zb (Zi ((Zd Zq (Zd Zq (fun ρ=>rdP ρ 0) (fun _=>some (.str "  "))) (fun ρ=>rdP ρ 1)) ρ)) (Zb (Zi ((Zd Zq (Zd Zq (Zd Zq (fun ρ=>rdP ρ 0) (fun _=>some (.str " "))) (fun ρ=>rdP ρ 1)) (fun _=>some (.str " "))) ρ)) (Zb (Zi (some (.str ""))) (some [])))))))).bind ZP))) ρ) (fun ρ=>Zo (Zu 2 ((Zd Zq (fun ρ=>rdP ρ 2) (fun ρ=>ZC (Zy ((Zb (Zi ((Zd Zq (Zd Zq (Zd Zq (Zd Zq (fun ρ=>rdP ρ 0) (fun _=>some (.str "/*/"))) (fun ρ=>rdP ρ 0)) (fun _=>some (.str " "))) (fun ρ=>rdP ρ 1)) ρ)) (Zb (Zi ((Zd Zq (Zd Zq (Zd Zq (Zd Zq (fun ρ=>rdP ρ 0) (fun _=>some (.str " "))) (fun ρ=>rdP ρ 1)) (fun _=>some (.str " "))) (fun ρ=>rdP ρ 1)) ρ)) (Zb (Zi ((Zd Zq (fun ρ=>rdP ρ 0) (fun _=>some (.str " *"))) ρ)) (Zb (Zi (some (.str " "))) (some []))))).bind ZP)))) ρ) ρ) (fun ρ=>Zo (Zz ((Zd Zq (fun ρ=>rdP ρ 2) (fun ρ=>ZC (Zy ((Zb (Zi ((Zd Zq (fun ρ=>rdP ρ 0) (fun _=>some (.str " -0"))) ρ)) (Zb (Zi ((Zd Zq (Zd Zq (fun ρ=>rdP ρ 0) (fun _=>some (.str " "))) (fun ρ=>rdP ρ 0)) ρ)) (Zb (Zi ((Zd Zq (Zd Zq (fun ρ=>rdP ρ 0) (fun _=>some (.str "/ "))) (fun ρ=>rdP ρ 1)) ρ)) (Zb (Zi ((Zd Zq (Zd Zq (fun ρ=>rdP ρ 0) (fun _=>some (.str "/a/b/c/d "))) (fun ρ=>rdP ρ 1)) ρ)) (some []))))).bind ZP)))) ρ)) (fun ρ=>.next ρ))))
noncomputable def ZdA:List Sl→Option Rv:=fnP 2 3 Zcq
noncomputable def Zdg:VE→Res:=(fun ρ=>Zu 4 ((Zd ixD (fun ρ=>ZC (Zy ((Zb (Zi ((Zd Zq (Zd Zq (fun ρ=>rdP ρ 2) (fun _=>some (.str "/"))) (fun ρ=>rdP ρ 3)) ρ)) (Zb (Zi ((Zd Zq (Zd Zq (fun ρ=>rdP ρ 3) (fun _=>some (.str "/"))) (fun ρ=>rdP ρ 2)) ρ)) (Zb (Zi ((Zd Zq (fun _=>some (.str "0/")) (mtO Zes (fun ρ=>rdP ρ 3) (fun ρ=>Zb (Zi (some (.str "-"))) (some [])))) ρ)) (Zb (Zi ((Zd Zq (fun _=>some (.str "0@1=")) (fun ρ=>rdP ρ 2)) ρ)) (Zb (Zi ((Zd Zq (Zd Zq (fun ρ=>rdP ρ 2) (fun _=>some (.str " "))) (fun ρ=>rdP ρ 3)) ρ)) (some [])))))).bind ZP))) (fun ρ=>rdP ρ 0)) ρ) ρ)
noncomputable def ZeG:VE→Res:=(fun ρ=>Zu 5 ((Zd ZbJ (Zd ixD (fun ρ=>rdP ρ 1) (fun _=>some (.int (3)))) (Zd Zq (ZD ZaR (fun ρ=>Zb (rdA ρ 4) (some []))) (fun _=>some (.int (1))))) ρ) ρ)
noncomputable def ZeT:VE→Res:=(fun ρ=>Zu 6 ((Zd ixD (fun _=>some (.str "!#$&()+.:;<>?ABCXYZ\x5b]_^{}~|\n\t")) (Zd ZbJ (Zd ixD (fun ρ=>rdP ρ 1) (fun _=>some (.int (4)))) (fun _=>some (.int (29))))) ρ) ρ)
noncomputable def ZeR:VE→Res:=(fun ρ=>Zz ((Zd Zq (Zd Zq (sl3 (fun ρ=>rdP ρ 4) (fun _=>some none) (fun ρ=>asI (rdP ρ 5)) slD) (fun ρ=>rdP ρ 6)) (sl3 (fun ρ=>rdP ρ 4) (fun ρ=>asI (rdP ρ 5)) (fun _=>some none) slD)) ρ))
noncomputable def Zhv:VE→Res:=fun ρ=>.next ρ
noncomputable def ZeW:VE→Res:=fun ρ=>Zo (ZeR ρ) Zhv
noncomputable def ZeO:VE→Res:=fun ρ=>Zo (ZeT ρ) ZeW
noncomputable def ZeI:VE→Res:=fun ρ=>Zo (ZeG ρ) ZeO
noncomputable def Zdy:VE→Res:=fun ρ=>Zo (Zdg ρ) ZeI
noncomputable def ZfO:VE→Res:=Zdy
noncomputable def Zd5:List Sl→Option Rv:=fnP 4 7 ZfO
noncomputable def Zdm:VE→Res:=(fun ρ=>Zo (ZH (orB (Zbg (Zae ((ZD isD (fun ρ=>Zb (rdA ρ 0) (Zb (Zi (some (.ty "str"))) (some [])))) ρ))) (Zbg (Zae ((Zr ZaQ (fun ρ=>Zb (rdA ρ 0) (some []))) ρ)))) (Zo (.fail) (fun ρ=>.next ρ)) (.next ρ)) (fun ρ=>Zo (Zz ((ZD ZjM (fun ρ=>Zb (rdA ρ 0) (some []))) ρ)) (fun ρ=>.next ρ)))
noncomputable def Zav:List Sl→Option Rv:=fnP 1 1 Zdm
noncomputable def Zc4:VE→Option Str:=(fun ρ=>Z4 (orB (Zbg (Zae ((ZD isD (fun ρ=>Zb (rdA ρ 0) (Zb (Zi (some (.ty "str"))) (some [])))) ρ))) (Zbg (Zae ((Zr ZaQ (fun ρ=>Zb (rdA ρ 0) (some []))) ρ)))) (ZbV (Zb (Zi (some (.str "no whole number"))) (some [])) "NoText") (none))
noncomputable def Zau:List Sl→Option Str:=fnX 1 1 Zc4
noncomputable def ZcA:VE→Res:=(fun ρ=>Zo (Zu 1 ((Zr Zbx (fun ρ=>Zb (rdA ρ 0) (Zb (Zi (some (.str "/"))) (some [])))) ρ) ρ) (fun ρ=>Zo (ZH (asB ((Zd gtD (ZD ZaR (fun ρ=>Zb (rdA ρ 1) (some []))) (fun _=>some (.int (4)))) ρ)) (Zo (.fail) (fun ρ=>.next ρ)) (.next ρ)) (fun ρ=>Zo (Zz (rdV ρ 1)) (fun ρ=>.next ρ))))
noncomputable def ZK:List Sl→Option Rv:=fnP 1 2 ZcA
noncomputable def ZaD:VE→Option Str:=(fun ρ=>orX ((Zb (rdA ρ 0) (Zb (Zi (some (.str "/"))) (some []))).bind Zby) (nxO (Zu 1 ((Zr Zbx (fun ρ=>Zb (rdA ρ 0) (Zb (Zi (some (.str "/"))) (some [])))) ρ) ρ) (fun ρ=>Z4 (asB ((Zd gtD (ZD ZaR (fun ρ=>Zb (rdA ρ 1) (some []))) (fun _=>some (.int (4)))) ρ)) (ZbV (Zb (Zi (some (.str "too many parts"))) (some [])) "NoText") (none))))
noncomputable def Z7:List Sl→Option Str:=fnX 1 2 ZaD
noncomputable def Zc7:VE→Option D:=(Zd Zq (fun _=>some (.str "0@1=")) (fun ρ=>rdP ρ 0))
noncomputable def Zck:VE→Option D:=(Zd Zq (fun ρ=>rdP ρ 0) (fun _=>some (.str " 5")))
noncomputable def Zco:VE→Res:=(fun ρ=>ZH (asB ((Zd eqO (fun ρ=>rdP ρ 0) (fun _=>some (.int (3)))) ρ)) (Zo (Zu 4 ((Zd Zq (Zr Zdj (fun ρ=>Zb (rdA ρ 2) (Zb (rdA ρ 3) (some [])))) (fun ρ=>ZC ((ZZ 1 [] (fun ρ=>((Zr ZbW (fun ρ=>Zb (rdA ρ 2) (Zb (rdA ρ 3) (some [])))) ρ).bind ZL) (ZF 0) (fun _=>some true) Zc7) ρ))) ρ) ρ) (fun ρ=>.next ρ)) (Zo (ZH (asB ((Zd eqO (fun ρ=>rdP ρ 0) (fun _=>some (.int (4)))) ρ)) (Zo (Zu 4 ((Zd Zq (Zr ZdA (fun ρ=>Zb (rdA ρ 2) (Zb (rdA ρ 3) (some [])))) (fun ρ=>ZC ((ZZ 1 [] (fun ρ=>(ZC (Zy ((Zb (Zi (some (.str "00"))) (Zb (Zi (some (.str "-"))) (Zb (Zi ((Zd Zq (fun ρ=>rdP ρ 2) (fun _=>some (.str "_"))) ρ)) (Zb (Zi ((Zd Zq (fun ρ=>rdP ρ 2) (fun _=>some (.str "/"))) ρ)) (Zb (Zi (some (.str "-0"))) (Zb (Zi (some (.str ""))) (some []))))))).bind ZP))).bind ZL) (ZF 0) (fun _=>some true) Zck) ρ))) ρ) ρ) (fun ρ=>.next ρ)) (Zo (Zu 4 ((Zd Zq (Zr ZcS (fun ρ=>Zb (rdA ρ 2) (Zb (rdA ρ 3) (some [])))) (Zr ZbW (fun ρ=>Zb (rdA ρ 2) (Zb (rdA ρ 3) (some []))))) ρ) ρ) (fun ρ=>.next ρ))) (fun ρ=>.next ρ)))
noncomputable def ZbI:VE→Res:=(fun ρ=>ZH (asB ((Zd eqO (fun ρ=>rdP ρ 0) (fun _=>some (.int (1)))) ρ)) (Zo (Zu 4 ((Zd Zq (fun ρ=>rdP ρ 4) (fun ρ=>ZC (Zy ((Zb (Zi (some (.str "*"))) (Zb (Zi ((Zd Zq (fun ρ=>rdP ρ 2) (fun _=>some (.str "/*"))) ρ)) (Zb (Zi ((Zd Zq (fun _=>some (.str "*/")) (fun ρ=>rdP ρ 3)) ρ)) (some [])))).bind ZP)))) ρ) ρ) (fun ρ=>.next ρ)) (.next ρ))
noncomputable def ZbF:VE→Res:=(fun ρ=>ZH (asB ((Zd eqO (fun ρ=>rdP ρ 0) (fun _=>some (.int (2)))) ρ)) (Zo (Zu 4 ((Zd Zq (fun ρ=>rdP ρ 4) (fun ρ=>ZC (Zy ((Zb (Zi (some (.str "*"))) (Zb (Zi (rdV ρ 2)) (Zb (Zi (some (.str "-1"))) (Zb (Zi ((Zd Zq (fun _=>some (.str "0/")) (fun ρ=>rdP ρ 2)) ρ)) (Zb (Zi (some (.str "1/-1"))) (Zb (Zi (some (.str "1/*"))) (Zb (Zi (some (.str "0/0/0/0/0"))) (Zb (Zi ((Zd Zq (fun ρ=>rdP ρ 3) (fun _=>some (.str "/-2"))) ρ)) (some []))))))))).bind ZP)))) ρ) ρ) (fun ρ=>.next ρ)) (.next ρ))
noncomputable def Zgq:VE→Res:=(fun ρ=>Zz ((Zd ixD (fun ρ=>rdP ρ 4) (Zd ZbJ (Zd ixD (fun ρ=>rdP ρ 1) (fun _=>some (.int (2)))) (ZD ZaR (fun ρ=>Zb (rdA ρ 4) (some []))))) ρ))
noncomputable def ZjN:VE→Res:=fun ρ=>.next ρ
noncomputable def Zdl:VE→Res:=fun ρ=>Zo (Zgq ρ) ZjN
noncomputable def ZbM:VE→Res:=fun ρ=>Zo (ZbF ρ) Zdl
noncomputable def ZbE:VE→Res:=fun ρ=>Zo (ZbI ρ) ZbM
noncomputable def ZaN:VE→Res:=fun ρ=>Zo (Zco ρ) ZbE
noncomputable def Zhy:VE→Res:=ZaN
noncomputable def Zfy:List Sl→Option Rv:=fnP 4 5 Zhy
noncomputable def Zdn:VE→Res:=(fun ρ=>Zo (Zu 1 ((Zr Zav (fun ρ=>Zb (rdA ρ 0) (some []))) ρ) ρ) (fun ρ=>Zo (ZH (asB ((Zd ltO (fun ρ=>rdP ρ 1) (fun _=>some (.int (0)))) ρ)) (Zo (.fail) (fun ρ=>.next ρ)) (.next ρ)) (fun ρ=>Zo (Zz (rdV ρ 1)) (fun ρ=>.next ρ))))
noncomputable def Zas:List Sl→Option Rv:=fnP 1 2 Zdn
noncomputable def ZbG:VE→Option Str:=(fun ρ=>orX ((Zb (rdA ρ 0) (some [])).bind Zau) (nxO (Zu 1 ((Zr Zav (fun ρ=>Zb (rdA ρ 0) (some []))) ρ) ρ) (fun ρ=>Z4 (asB ((Zd ltO (fun ρ=>rdP ρ 1) (fun _=>some (.int (0)))) ρ)) (ZbV (Zb (Zi (some (.str "a number from 0 on is asked for"))) (some [])) "NoText") (none))))
noncomputable def ZaP:List Sl→Option Str:=fnX 1 2 ZbG
noncomputable def ZbL:VE→Res:=(fun ρ=>Zo (Zz (ZdN (Zae ((Zr ZaO (fun ρ=>Zb (rdA ρ 0) (some []))) ρ)) (rdV ρ 0) ((Zr Zav (fun ρ=>Zb (rdA ρ 0) (some []))) ρ))) (fun ρ=>.next ρ))
noncomputable def Zdc:List Sl→Option Rv:=fnP 1 1 ZbL
noncomputable def ZbC:VE→Option Str:=(fun ρ=>Z4 (Zae ((Zr ZaO (fun ρ=>Zb (rdA ρ 0) (some []))) ρ)) (none) ((Zb (rdA ρ 0) (some [])).bind Zau))
noncomputable def Zcm:List Sl→Option Str:=fnX 1 1 ZbC
noncomputable def Zac:VE→Res:=(fun ρ=>Zo (Zz (ZdN (asB ((Zd eqO (fun ρ=>rdP ρ 0) (fun _=>some (.str "*"))) ρ)) (some .non) ((Zr Zdc (fun ρ=>Zb (rdA ρ 0) (some []))) ρ))) (fun ρ=>.next ρ))
noncomputable def ZaV:List Sl→Option Rv:=fnP 1 1 Zac
noncomputable def Zaa:VE→Option Str:=(fun ρ=>Z4 (asB ((Zd eqO (fun ρ=>rdP ρ 0) (fun _=>some (.str "*"))) ρ)) (none) ((Zb (rdA ρ 0) (some [])).bind Zcm))
noncomputable def Zaq:List Sl→Option Str:=fnX 1 1 Zaa
noncomputable def ZcN:VE→Option D:=(Zr Zdc (fun ρ=>Zb (rdA ρ 0) (some [])))
noncomputable def ZfP:VE→Option Str:=(fun ρ=>(Zb (rdA ρ 0) (some [])).bind Zcm)
noncomputable def ZgH:VE→Res:=(fun ρ=>Zo (Zz ((ZD Zf8 (fun ρ=>Zb (Zi (ZC ((ZZ 1 [] (fun ρ=>((Zr ZK (fun ρ=>Zb (rdA ρ 0) (some []))) ρ).bind ZL) (ZF 0) (fun _=>some true) ZcN) ρ))) (some []))) ρ)) (fun ρ=>.next ρ))
noncomputable def Zb9:List Sl→Option Rv:=fnP 1 1 ZgH
noncomputable def ZgG:VE→Option Str:=(fun ρ=>orX (orX ((Zb (rdA ρ 0) (some [])).bind Z7) ((Zy (((Zr ZK (fun ρ=>Zb (rdA ρ 0) (some []))) ρ).bind ZL)).bind (Zbf (ZF 0) ZcN ZfP (ZS 1 [] ρ)))) (Zcc (ZC ((ZZ 1 [] (fun ρ=>((Zr ZK (fun ρ=>Zb (rdA ρ 0) (some []))) ρ).bind ZL) (ZF 0) (fun _=>some true) ZcN) ρ)) (none)))
noncomputable def Zb7:List Sl→Option Str:=fnX 1 1 ZgG
noncomputable def Zcw:VE→Option D:=(Zr Zas (fun ρ=>Zb (rdA ρ 0) (some [])))
noncomputable def Zfr:VE→Option Str:=(fun ρ=>(Zb (rdA ρ 0) (some [])).bind ZaP)
noncomputable def Zgi:VE→Res:=(fun ρ=>Zo (Zz ((ZD Zf8 (fun ρ=>Zb (Zi (ZC ((ZZ 1 [] (fun ρ=>((Zr ZK (fun ρ=>Zb (rdA ρ 0) (some []))) ρ).bind ZL) (ZF 0) (fun _=>some true) Zcw) ρ))) (some []))) ρ)) (fun ρ=>.next ρ))
noncomputable def Zc5:List Sl→Option Rv:=fnP 1 1 Zgi
noncomputable def Zf2:VE→Option Str:=(fun ρ=>orX (orX ((Zb (rdA ρ 0) (some [])).bind Z7) ((Zy (((Zr ZK (fun ρ=>Zb (rdA ρ 0) (some []))) ρ).bind ZL)).bind (Zbf (ZF 0) Zcw Zfr (ZS 1 [] ρ)))) (Zcc (ZC ((ZZ 1 [] (fun ρ=>((Zr ZK (fun ρ=>Zb (rdA ρ 0) (some []))) ρ).bind ZL) (ZF 0) (fun _=>some true) Zcw) ρ)) (none)))
noncomputable def Zcn:List Sl→Option Str:=fnX 1 1 Zf2
noncomputable def Zdv:VE→Option D:=(Zr ZaV (fun ρ=>Zb (rdA ρ 0) (some [])))
noncomputable def Zgk:VE→Option Str:=(fun ρ=>(Zb (rdA ρ 0) (some [])).bind Zaq)
noncomputable def Zhz:VE→Res:=(fun ρ=>Zo (Zz ((ZD Zf8 (fun ρ=>Zb (Zi (ZC ((ZZ 1 [] (fun ρ=>((Zr ZK (fun ρ=>Zb (rdA ρ 0) (some []))) ρ).bind ZL) (ZF 0) (fun _=>some true) Zdv) ρ))) (some []))) ρ)) (fun ρ=>.next ρ))
noncomputable def Zeh:List Sl→Option Rv:=fnP 1 1 Zhz
noncomputable def ZhK:VE→Option Str:=(fun ρ=>orX (orX ((Zb (rdA ρ 0) (some [])).bind Z7) ((Zy (((Zr ZK (fun ρ=>Zb (rdA ρ 0) (some []))) ρ).bind ZL)).bind (Zbf (ZF 0) Zdv Zgk (ZS 1 [] ρ)))) (Zcc (ZC ((ZZ 1 [] (fun ρ=>((Zr ZK (fun ρ=>Zb (rdA ρ 0) (some []))) ρ).bind ZL) (ZF 0) (fun _=>some true) Zdv) ρ)) (none)))
noncomputable def Zdd:List Sl→Option Str:=fnX 1 1 ZhK
noncomputable def Zbh:VE→Option D:=(Zr ZaV (fun ρ=>Zb (rdA ρ 0) (some [])))
noncomputable def Zd4:VE→Option Str:=(fun ρ=>(Zb (rdA ρ 0) (some [])).bind Zaq)
noncomputable def ZiL:VE→Res:=(fun ρ=>Zu 1 ((Zr Zbx (fun ρ=>Zb (rdA ρ 0) (Zb (Zi (some (.str "="))) (some [])))) ρ) ρ)
noncomputable def ZiC:VE→Res:=(fun ρ=>Zu 2 ((mtO Zb1 (Zd ixD (fun ρ=>rdP ρ 1) (fun _=>some (.int (0)))) (fun ρ=>Zb (Zi (some (.str "@"))) (some []))) ρ) ρ)
noncomputable def ZiM:VE→Res:=(fun ρ=>ZH (orB (asB ((Zd neO (ZD ZaR (fun ρ=>Zb (rdA ρ 1) (some []))) (fun _=>some (.int (2)))) ρ)) (asB ((Zd neO (ZD ZaR (fun ρ=>Zb (rdA ρ 2) (some []))) (fun _=>some (.int (2)))) ρ))) (Zo (.fail) (fun ρ=>.next ρ)) (.next ρ))
noncomputable def Ziy:VE→Res:=(fun ρ=>Zu 3 (ZC ((ZZ 1 [] (fun ρ=>((mtO Zb1 (Zd ixD (fun ρ=>rdP ρ 1) (fun _=>some (.int (1)))) (fun ρ=>Zb (Zi (some (.str ","))) (some []))) ρ).bind ZL) (ZF 0) (fun _=>some true) Zbh) ρ)) ρ)
noncomputable def ZiH:VE→Res:=(fun ρ=>Zz ((Zy ((Zb (Zi ((Zr Zas (fun ρ=>Zb (Zi ((Zd ixD (fun ρ=>rdP ρ 2) (fun _=>some (.int (0)))) ρ)) (some []))) ρ)) (Zb (Zi ((Zr Zas (fun ρ=>Zb (Zi ((Zd ixD (fun ρ=>rdP ρ 2) (fun _=>some (.int (1)))) ρ)) (some []))) ρ)) (Zb (Zi (rdV ρ 3)) (some [])))).bind ZP)).map D.tup))
noncomputable def ZiD:VE→Res:=fun ρ=>.next ρ
noncomputable def ZiK:VE→Res:=fun ρ=>Zo (ZiH ρ) ZiD
noncomputable def ZiI:VE→Res:=fun ρ=>Zo (Ziy ρ) ZiK
noncomputable def ZiE:VE→Res:=fun ρ=>Zo (ZiM ρ) ZiI
noncomputable def ZiB:VE→Res:=fun ρ=>Zo (ZiC ρ) ZiE
noncomputable def ZiJ:VE→Res:=fun ρ=>Zo (ZiL ρ) ZiB
noncomputable def ZgJ:VE→Res:=ZiJ
noncomputable def Ze1:List Sl→Option Rv:=fnP 1 4 ZgJ
noncomputable def ZaJ:VE→Option Str:=(fun ρ=>orX ((Zb (rdA ρ 0) (Zb (Zi (some (.str "="))) (some []))).bind Zby) (nxO (Zu 1 ((Zr Zbx (fun ρ=>Zb (rdA ρ 0) (Zb (Zi (some (.str "="))) (some [])))) ρ) ρ) (fun ρ=>nxO (Zu 2 ((mtO Zb1 (Zd ixD (fun ρ=>rdP ρ 1) (fun _=>some (.int (0)))) (fun ρ=>Zb (Zi (some (.str "@"))) (some []))) ρ) ρ) (fun ρ=>orX (Z4 (orB (asB ((Zd neO (ZD ZaR (fun ρ=>Zb (rdA ρ 1) (some []))) (fun _=>some (.int (2)))) ρ)) (asB ((Zd neO (ZD ZaR (fun ρ=>Zb (rdA ρ 2) (some []))) (fun _=>some (.int (2)))) ρ))) (ZbV (Zb (Zi (some (.str "no pick"))) (some [])) "NoText") (none)) (nxO (ZH (orB (asB ((Zd neO (ZD ZaR (fun ρ=>Zb (rdA ρ 1) (some []))) (fun _=>some (.int (2)))) ρ)) (asB ((Zd neO (ZD ZaR (fun ρ=>Zb (rdA ρ 2) (some []))) (fun _=>some (.int (2)))) ρ))) (Zo (.fail) (fun ρ=>.next ρ)) (.next ρ)) (fun ρ=>orX ((Zy (((mtO Zb1 (Zd ixD (fun ρ=>rdP ρ 1) (fun _=>some (.int (1)))) (fun ρ=>Zb (Zi (some (.str ","))) (some []))) ρ).bind ZL)).bind (Zbf (ZF 0) Zbh Zd4 (ZS 1 [] ρ))) (nxO (Zu 3 (ZC ((ZZ 1 [] (fun ρ=>((mtO Zb1 (Zd ixD (fun ρ=>rdP ρ 1) (fun _=>some (.int (1)))) (fun ρ=>Zb (Zi (some (.str ","))) (some []))) ρ).bind ZL) (ZF 0) (fun _=>some true) Zbh) ρ)) ρ) (fun ρ=>orX ((Zb (Zi ((Zd ixD (fun ρ=>rdP ρ 2) (fun _=>some (.int (0)))) ρ)) (some [])).bind ZaP) (Zcc ((Zr Zas (fun ρ=>Zb (Zi ((Zd ixD (fun ρ=>rdP ρ 2) (fun _=>some (.int (0)))) ρ)) (some []))) ρ) (orX ((Zb (Zi ((Zd ixD (fun ρ=>rdP ρ 2) (fun _=>some (.int (1)))) ρ)) (some [])).bind ZaP) (Zcc ((Zr Zas (fun ρ=>Zb (Zi ((Zd ixD (fun ρ=>rdP ρ 2) (fun _=>some (.int (1)))) ρ)) (some []))) ρ) (orX (none) (Zcc (rdV ρ 3) (none))))))))))))))
noncomputable def ZbB:List Sl→Option Str:=fnX 1 4 ZaJ
noncomputable def ZhE:VE→Res:=(fun ρ=>Zo (Zu 1 ((Zr Zbx (fun ρ=>Zb (rdA ρ 0) (Zb (Zi (some (.str " "))) (some [])))) ρ) ρ) (fun ρ=>Zo (ZH (asB ((Zd neO (ZD ZaR (fun ρ=>Zb (rdA ρ 1) (some []))) (fun _=>some (.int (2)))) ρ)) (Zo (.fail) (fun ρ=>.next ρ)) (.next ρ)) (fun ρ=>Zo (Zz ((Zy ((Zb (Zi ((Zr Zb9 (fun ρ=>Zb (Zi ((Zd ixD (fun ρ=>rdP ρ 1) (fun _=>some (.int (0)))) ρ)) (some []))) ρ)) (Zb (Zi ((Zr Zav (fun ρ=>Zb (Zi ((Zd ixD (fun ρ=>rdP ρ 1) (fun _=>some (.int (1)))) ρ)) (some []))) ρ)) (some []))).bind ZP)).map D.tup)) (fun ρ=>.next ρ))))
noncomputable def ZhI:List Sl→Option Rv:=fnP 1 2 ZhE
noncomputable def Zbw:VE→Option Str:=(fun ρ=>orX ((Zb (rdA ρ 0) (Zb (Zi (some (.str " "))) (some []))).bind Zby) (nxO (Zu 1 ((Zr Zbx (fun ρ=>Zb (rdA ρ 0) (Zb (Zi (some (.str " "))) (some [])))) ρ) ρ) (fun ρ=>orX (Z4 (asB ((Zd neO (ZD ZaR (fun ρ=>Zb (rdA ρ 1) (some []))) (fun _=>some (.int (2)))) ρ)) (ZbV (Zb (Zi (some (.str "no row"))) (some [])) "NoText") (none)) (nxO (ZH (asB ((Zd neO (ZD ZaR (fun ρ=>Zb (rdA ρ 1) (some []))) (fun _=>some (.int (2)))) ρ)) (Zo (.fail) (fun ρ=>.next ρ)) (.next ρ)) (fun ρ=>orX ((Zb (Zi ((Zd ixD (fun ρ=>rdP ρ 1) (fun _=>some (.int (0)))) ρ)) (some [])).bind Zb7) (Zcc ((Zr Zb9 (fun ρ=>Zb (Zi ((Zd ixD (fun ρ=>rdP ρ 1) (fun _=>some (.int (0)))) ρ)) (some []))) ρ) (orX ((Zb (Zi ((Zd ixD (fun ρ=>rdP ρ 1) (fun _=>some (.int (1)))) ρ)) (some [])).bind Zau) (Zcc ((Zr Zav (fun ρ=>Zb (Zi ((Zd ixD (fun ρ=>rdP ρ 1) (fun _=>some (.int (1)))) ρ)) (some []))) ρ) (none)))))))))
noncomputable def ZbT:List Sl→Option Str:=fnX 1 2 Zbw
noncomputable def ZjD:VE→Res:=(fun ρ=>ZH (asB ((Zd eqO (fun ρ=>rdP ρ 0) (fun _=>some (.int (0)))) ρ)) (Zo (Zz ((Zr Zeh (fun ρ=>Zb (rdA ρ 1) (some []))) ρ)) (fun ρ=>.next ρ)) (.next ρ))
noncomputable def ZjS:VE→Res:=(fun ρ=>ZH (asB ((Zd eqO (fun ρ=>rdP ρ 0) (fun _=>some (.int (1)))) ρ)) (Zo (Zz ((Zr Zb9 (fun ρ=>Zb (rdA ρ 1) (some []))) ρ)) (fun ρ=>.next ρ)) (.next ρ))
noncomputable def Zjq:VE→Res:=(fun ρ=>ZH (asB ((Zd eqO (fun ρ=>rdP ρ 0) (fun _=>some (.int (2)))) ρ)) (Zo (Zz ((Zr Zc5 (fun ρ=>Zb (rdA ρ 1) (some []))) ρ)) (fun ρ=>.next ρ)) (.next ρ))
noncomputable def ZjJ:VE→Res:=(fun ρ=>ZH (asB ((Zd eqO (fun ρ=>rdP ρ 0) (fun _=>some (.int (3)))) ρ)) (Zo (Zz ((Zr Ze1 (fun ρ=>Zb (rdA ρ 1) (some []))) ρ)) (fun ρ=>.next ρ)) (.next ρ))
noncomputable def Zjk:VE→Res:=(fun ρ=>Zz ((Zr ZhI (fun ρ=>Zb (rdA ρ 1) (some []))) ρ))
noncomputable def ZjL:VE→Res:=fun ρ=>.next ρ
noncomputable def ZjE:VE→Res:=fun ρ=>Zo (Zjk ρ) ZjL
noncomputable def Zi5:VE→Res:=fun ρ=>Zo (ZjJ ρ) ZjE
noncomputable def ZiY:VE→Res:=fun ρ=>Zo (Zjq ρ) Zi5
noncomputable def Zja:VE→Res:=fun ρ=>Zo (ZjS ρ) ZiY
noncomputable def Zjt:VE→Res:=fun ρ=>Zo (ZjD ρ) Zja
noncomputable def Zhj:VE→Res:=Zjt
noncomputable def Zhr:List Sl→Option Rv:=fnP 2 2 Zhj
noncomputable def Zbq:VE→Option Str:=(fun ρ=>orX (Z4 (asB ((Zd eqO (fun ρ=>rdP ρ 0) (fun _=>some (.int (0)))) ρ)) ((Zb (rdA ρ 1) (some [])).bind Zdd) (none)) (nxO (ZH (asB ((Zd eqO (fun ρ=>rdP ρ 0) (fun _=>some (.int (0)))) ρ)) (Zo (Zz ((Zr Zeh (fun ρ=>Zb (rdA ρ 1) (some []))) ρ)) (fun ρ=>.next ρ)) (.next ρ)) (fun ρ=>orX (Z4 (asB ((Zd eqO (fun ρ=>rdP ρ 0) (fun _=>some (.int (1)))) ρ)) ((Zb (rdA ρ 1) (some [])).bind Zb7) (none)) (nxO (ZH (asB ((Zd eqO (fun ρ=>rdP ρ 0) (fun _=>some (.int (1)))) ρ)) (Zo (Zz ((Zr Zb9 (fun ρ=>Zb (rdA ρ 1) (some []))) ρ)) (fun ρ=>.next ρ)) (.next ρ)) (fun ρ=>orX (Z4 (asB ((Zd eqO (fun ρ=>rdP ρ 0) (fun _=>some (.int (2)))) ρ)) ((Zb (rdA ρ 1) (some [])).bind Zcn) (none)) (nxO (ZH (asB ((Zd eqO (fun ρ=>rdP ρ 0) (fun _=>some (.int (2)))) ρ)) (Zo (Zz ((Zr Zc5 (fun ρ=>Zb (rdA ρ 1) (some []))) ρ)) (fun ρ=>.next ρ)) (.next ρ)) (fun ρ=>orX (Z4 (asB ((Zd eqO (fun ρ=>rdP ρ 0) (fun _=>some (.int (3)))) ρ)) ((Zb (rdA ρ 1) (some [])).bind ZbB) (none)) (nxO (ZH (asB ((Zd eqO (fun ρ=>rdP ρ 0) (fun _=>some (.int (3)))) ρ)) (Zo (Zz ((Zr Ze1 (fun ρ=>Zb (rdA ρ 1) (some []))) ρ)) (fun ρ=>.next ρ)) (.next ρ)) (fun ρ=>(Zb (rdA ρ 1) (some [])).bind ZbT)))))))))
noncomputable def Zel:List Sl→Option Str:=fnX 2 2 Zbq
noncomputable def Zde:VE→Res:=(fun ρ=>Zo (Zu 3 (ZC (Zy ((Zb (Zi ((isX 2 CS (ZU "NoGrain")) ρ)) (Zb (Zi ((isX 2 CS (ZU "NoLadder")) ρ)) (Zb (Zi ((isX 2 CS (ZU "NoPick")) ρ)) (Zb (Zi ((isX 2 CS (ZU "NoRow")) ρ)) (some []))))).bind ZP))) ρ) (fun ρ=>Zo (Zu 3 ((Zd Zq (fun ρ=>rdP ρ 3) (fun ρ=>ZC (Zy ((Zb (Zi ((isX 2 CS (ZU "NoSuch")) ρ)) (Zb (Zi ((isX 2 CS (ZU "NoValue")) ρ)) (Zb (Zi ((isX 2 CS (ZU "TooMuch")) ρ)) (some [])))).bind ZP)))) ρ) ρ) (fun ρ=>Zo (Zz (blO (Ze5 (asB ((isX 2 CS (ZU "NoText")) ρ)) (Ze5 (asB ((isX 2 CS (ZU "ValueError")) ρ)) (asB (blO (Zbg (asB ((ZD Zk7 (fun ρ=>Zb (rdA ρ 3) (some []))) ρ))))))))) (fun ρ=>.next ρ))))
noncomputable def ZcO:VE→Res:=(fun ρ=>Zo (ZkR CS 2 ((Zb (rdA ρ 0) (Zb (rdA ρ 1) (some []))).bind Zel) (ZpV ((Zr Zhr (fun ρ=>Zb (rdA ρ 0) (Zb (rdA ρ 1) (some [])))) ρ) ρ) Zde ρ) (fun ρ=>Zo (Zz (some (.bl false))) (fun ρ=>.next ρ)))
noncomputable def Zd6:List Sl→Option Rv:=fnP 2 4 ZcO
noncomputable def Zeq:VE→Res:=(fun ρ=>Zo (Zu 3 ((Zr Zdq (fun ρ=>Zb (rdA ρ 2) (Zb (rdA ρ 1) (some [])))) ρ) ρ) (fun ρ=>Zo (Zu 4 ((Zr Zeg (fun ρ=>Zb (Zi ((Zd Zq (Zr ZaX (fun ρ=>Zb (rdA ρ 0) (Zb (Zi (some (.int (0)))) (some [])))) (fun ρ=>rdP ρ 1)) ρ)) (Zb (Zi ((Zd ZbJ (Zr ZaX (fun ρ=>Zb (rdA ρ 0) (Zb (Zi (some (.int (1)))) (some [])))) (fun _=>some (.int (12)))) ρ)) (some [])))) ρ) ρ) (fun ρ=>Zo (Zu 5 ((Zr Zbp (fun ρ=>Zb (Zi ((Zd ZeX (Zd ZbJ (Zd ZeS (fun ρ=>rdP ρ 2) (fun _=>some (.int (3)))) (Zd ZkQ (fun _=>some (.int (10))) (fun _=>some (.int (30))))) (Zd ZkN (fun _=>some (.int (1))) (Zd ZeX (fun _=>some (.int (2))) (Zd ZbJ (fun ρ=>rdP ρ 2) (fun _=>some (.int (2))))))) ρ)) (some []))) ρ) ρ) (fun ρ=>Zo (Zu 6 ((Zd ZbJ (Zd ixD (fun ρ=>rdP ρ 3) (fun _=>some (.int (0)))) (fun _=>some (.int (5)))) ρ) ρ) (fun ρ=>Zo (Zu 7 ((Zr Zfy (fun ρ=>Zb (rdA ρ 6) (Zb (rdA ρ 3) (Zb (rdA ρ 4) (Zb (rdA ρ 5) (some [])))))) ρ) ρ) (fun ρ=>Zo (ZH (asB ((Zd eqO (Zd ZbJ (Zd ixD (fun ρ=>rdP ρ 3) (fun _=>some (.int (1)))) (fun _=>some (.int (4)))) (fun _=>some (.int (0)))) ρ)) (Zo (Zu 7 ((Zr Zd5 (fun ρ=>Zb (rdA ρ 6) (Zb (rdA ρ 3) (Zb (rdA ρ 4) (Zb (rdA ρ 5) (some [])))))) ρ) ρ) (fun ρ=>.next ρ)) (.next ρ)) (fun ρ=>Zo (ZH (asB ((Zd eqO (Zd ZbJ (Zd ixD (fun ρ=>rdP ρ 3) (fun _=>some (.int (1)))) (fun _=>some (.int (16)))) (fun _=>some (.int (3)))) ρ)) (Zo (Zu 7 ((Zd ixD (fun ρ=>ZC (Zy ((Zb (Zi (some .non)) (Zb (Zi (some (.int (7)))) (Zb (Zi (some (.bl true))) (Zb (Zi ((Zy ((Zb (Zi (rdV ρ 4)) (some [])).bind ZP)).map D.tup)) (Zb (Zi (ZC (Zy ((Zb (Zi (rdV ρ 4)) (some [])).bind ZP)))) (Zb (Zi (some (.int (0)))) (Zb (Zi ((Zy ((some []).bind ZP)).map D.tup)) (Zb (Zi (some (.bl false))) (some []))))))))).bind ZP))) (Zd ZbJ (Zd ixD (fun ρ=>rdP ρ 3) (fun _=>some (.int (2)))) (fun _=>some (.int (8))))) ρ) ρ) (fun ρ=>.next ρ)) (.next ρ)) (fun ρ=>Zo (ZH (Zbg (Zae ((Zr Zd6 (fun ρ=>Zb (rdA ρ 6) (Zb (rdA ρ 7) (some [])))) ρ))) (Zo (Zz (some (.bl false))) (fun ρ=>.next ρ)) (.next ρ)) (fun ρ=>.next ρ)))))))))
noncomputable def ZiT:VE→Res:=(fun ρ=>Zo ((Zg3 (ZiO (Zd Zq (fun ρ=>ZC (Zy ((Zb (Zi ((Zr ZaX (fun ρ=>Zb (rdA ρ 0) (Zb (Zi (some (.int (2)))) (some [])))) ρ)) (some [])).bind ZP))) (sl3 (fun ρ=>rdP ρ 0) (fun ρ=>asI (some (.int (3)))) (fun ρ=>asI (some (.int (33)))) slD))) (ZiX 2 (ZeJ (ZF 1) (ZeJ (ZF 2) Zkp))) Zeq) ρ) (fun ρ=>Zo (Zz (some (.bl true))) (fun ρ=>.next ρ)))
noncomputable def Znh:List Sl→Option Rv:=fnP 1 8 ZiT
theorem Zfu (s:Sl) (ns:List Int) (hs:s=.val (.lst (ns.map D.int))∨s=.lent (ns.map D.int)) (k:Int) (h0:0≤k):ZaX [s,.val (.int k)]=some (.val (.int (ns.getD k.toNat 0))):=by
 by_cases h:k<ns.length
 ·have hk:k.toNat<ns.length:=by omega
  rcases hs with rfl | rfl<;>simp [ZaX,fnP,ZcP,h,atI,ixN,h0,hk]
 ·have hk:ns.length≤k.toNat:=by omega
  rcases hs with rfl | rfl<;>simp [ZaX,fnP,ZcP,h,hk]
def letters:Str:="abcdefghijklmnopqrstuvwxyz"
def figures:Str:="0123456789"
def signs:Str:="abcdefghijklmnopqrstuvwxyz0123456789"
theorem Zil:signs.length=36:=by decide +kernel
theorem Zjh:signs.cps.toList=letters.cps.toList++figures.cps.toList:=by decide +kernel
def okc (c:Nat):Bool:=decide (c∈letters.cps.toList)||decide (c∈figures.cps.toList)
def Zcz:List Nat→Bool
 | []=>false
 | c::r=>decide (c∈letters.cps.toList)&&(c::r).all okc&&decide ((c::r).length≤12)
def Zfx:D→Bool
 | .str z=>Zcz z.cps.toList
 | _=>false
theorem Zl0 (c:Nat):okc c=decide (c∈signs.cps.toList):=by
 unfold okc
 rw [Zjh,Bool.eq_iff_iff]
 simp [List.mem_append]
def Sm:D→Prop
 | .str z=>z.length≤100
 | .ty _=>False
 | .lst _ true=>False
 | _=>True
theorem ZoS (c:Nat):ZdQ [.val (.str ⟨#[c]⟩)]=some (.bl (okc c)):=by
 simp only [ZdQ,Zd,rdP,List.getElem?_cons_zero,Option.bind,Zfc,asB,orB,blO,Option.map]
 cases h:decide (c∈letters.cps.toList)<;>simp [okc,letters,figures] at h ⊢<;>simp [h]
theorem Zn8 (L:List Nat):Za7 (ZF 0) (fun _=>some true) ZdQ [.no] (L.map fun c=>D.str ⟨#[c]⟩)=some ((L.map okc).map D.bl):=by
 rw [Zc3 (fun c=>D.str ⟨#[c]⟩) (fun c=>D.bl (okc c)) L fun c _=>⟨[.val (.str ⟨#[c]⟩)],rfl,ZoS c⟩]
 simp
theorem Zkq (d:D) (h:Sm d):ZaO [.val d]=some (.val (.bl (Zfx d))):=by
 cases d with
 | str z =>
  obtain ⟨⟨L⟩⟩:=z
  have hz:L.length≤100:=h
  have hz':L.length≤sizeLine:=Nat.le_trans hz (by decide)
  have hc:=Zn8 L
  cases L with
  | nil=>simp [ZaO,fnP,ZbR,Zfx,Zcz,Str.length]
  | cons c r =>
   simp only [List.length_cons] at hz hz'
   have e1:¬ ((r.length:Int)+1<1):=by omega
   by_cases h12:r.length+1≤12
   ·have e2:¬ ((12:Int)<(r.length:Int)+1):=by omega
    have e3:r.length≤11:=by omega
    by_cases hl:c∈(Str.ofString "abcdefghijklmnopqrstuvwxyz").cps
    ·simp [ZaO,fnP,ZbR,Zfx,Zcz,Str.length,hz',e1,e2,-inD,Zfc,atI,ixN,hc,-List.map_cons,-List.map_map,hl,e3,letters]
    ·simp [ZaO,fnP,ZbR,Zfx,Zcz,Str.length,hz',e1,e2,-inD,Zfc,atI,ixN,hl,e3,letters]
   ·have e2:(12:Int)<(r.length:Int)+1:=by omega
    have e3:¬ r.length≤11:=by omega
    simp [ZaO,fnP,ZbR,Zfx,Zcz,Str.length,hz',e1,e2,e3]
 | ty n=>exact h.elim
 | lst xs b=>cases b with
  | true=>exact h.elim
  | false=>simp [ZaO,fnP,ZbR,Zfx]
 | _=>simp [ZaO,fnP,ZbR,Zfx]
def Zeu (x:Int) (k:Nat):Nat→List Int
 | 0=>[]
 | n+1=>((x * 48271+2 * (k:Int)+11)%2147483647 / 64)::Zeu ((x * 48271+2 * (k:Int)+11)%2147483647) (k+1) n
theorem ZjK:∀ (n k:Nat) (x:Int),(Zeu x k n).length=n
 | 0,_,_=>rfl
 | n+1,k,x=>by simp [Zeu,ZjK n]
theorem Zje:∀ (n k:Nat) (x:Int),∀ y∈Zeu x k n,0≤y∧y<33554432
 | 0,_,_,y,h=>by cases h
 | n+1,k,x,y,h=>by
  simp only [Zeu,List.mem_cons] at h
  rcases h with rfl | h
  ·omega
  ·exact Zje n _ _ y h
theorem Zi2 (s0 s1:Sl):∀ (n k:Nat) (x:Int) (acc:List Int) (s4:Sl),acc.length+n<100000→∃ x' s4',ZdP (ZF 4) Zcy ((List.range' k n).map fun (k:Nat)=>D.int (k:Int)) [s0,s1,.val (.int x),.own (acc.map D.int),s4]=.next [s0,s1,.val (.int x'),.own ((acc++Zeu x k n).map D.int),s4']
 | 0,k,x,acc,s4,_=>⟨x,s4,by simp [ZdP,Zeu]⟩
 | n+1,k,x,acc,s4,h=>by
  obtain ⟨x',s4',e⟩:=Zi2 s0 s1 n (k+1) ((x * 48271+2 * (k:Int)+11)%2147483647) (acc++[(x * 48271+2 * (k:Int)+11)%2147483647 / 64]) (.val (.int (k:Int))) (by simp;omega)
  have hz:acc.length<sizeLine:=Nat.lt_of_lt_of_le (show acc.length<100000 by omega) (by decide)
  have hm:CMul x 48271:=by right;decide
  have hm2:CMul 2 (k:Int):=by left;decide
  have hd:∀ y:Int,Zgm y 64:=fun y=>by constructor<;>decide
  refine ⟨x',s4',?_⟩
  rw [List.range'_succ,List.map_cons]
  simp only [ZdP,ZF,List.set_cons_succ,List.set_cons_zero]
  rw [show Zcy [s0,s1,.val (.int x),.own (acc.map D.int),.val (.int (k:Int))]=.next [s0,s1,.val (.int ((x * 48271+2 * (k:Int)+11)%2147483647)),.own ((acc++[(x * 48271+2 * (k:Int)+11)%2147483647 / 64]).map D.int),.val (.int (k:Int))] by
   simp [Zcy,hz,hm,hm2,hd]]
  simp only [Zeu]
  rw [show acc++((x * 48271+2 * (k:Int)+11)%2147483647 / 64)::Zeu ((x * 48271+2 * (k:Int)+11)%2147483647) (k+1) n=acc++[(x * 48271+2 * (k:Int)+11)%2147483647 / 64]++Zeu ((x * 48271+2 * (k:Int)+11)%2147483647) (k+1) n by simp]
  exact e
theorem ZlK (c p:Int):∃ ws:List Int,Zdq [.val (.int c),.val (.int p)]=some (.val (.lst (ws.map D.int)))∧ws.length=24∧∀ y∈ws,0≤y∧y<33554432:=by
 have hr:Zgd [.int 25]=some ((List.range' 0 25).map fun (k:Nat)=>D.int (k:Int)):=by
  have:=Zjo 25 (by omega)
  rw [List.range_eq_range'] at this
  exact this
 obtain ⟨x',s4',e⟩:=Zi2 (.val (.int c)) (.val (.int p)) 25 0 ((c+7919 * p)%2147483629) [] .no (by simp)
 have hl:=ZjK 25 0 ((c+7919 * p)%2147483629)
 have hps:=Zje 25 0 ((c+7919 * p)%2147483629)
 simp only [List.nil_append,List.map_nil] at e
 generalize Zeu ((c+7919 * p)%2147483629) 0 25=W at *
 have hc:ZcI (W.map D.int) (some 1) none=(W.drop 1).map D.int:=by rw [ZjG,ZmW _ _ (by omega)];rfl
 have m1:CMul 7919 p:=by left;decide
 generalize hR:((List.range' 0 25).map fun (k:Nat)=>D.int (k:Int))=R at *
 refine ⟨W.drop 1,?_,by simp [hl],fun y hy=>hps y (List.mem_of_mem_drop hy)⟩
 simp [Zdq,fnP,ZeE,Zff,Ze6,Zfp,Zfi,Zfm,Zfj,Zfe,Zfd,hr,m1,e,hc]
theorem Zqw {xs:List Int} {i:Int} (h0:0≤i) (h1:i<xs.length):atI (xs.map D.int) i=some (.int (xs.getD i.toNat 0)):=by
 rw [show i=((i.toNat:Nat):Int) by omega]
 have h:i.toNat<xs.length:=by omega
 exact Zfn (by rw [List.getElem?_map,Int.toNat_natCast,List.getElem?_eq_getElem h];simp [List.getD,h])
theorem Znc (x:Str) (l u:Option Int):Txt.slice x l u=StrLaws.sliceText x l u:=rfl
theorem Zni (x:Str) (j:Nat) (h:j≤x.cps.toList.length):(Txt.slice x none (some (j:Int))).cps.toList=x.cps.toList.take j:=by
 rw [Znc,StrLaws.sliceText_to ⟨by omega,by omega⟩]
 simp
theorem ZhN (x:Str) (j:Nat) (h:j≤x.cps.toList.length):(Txt.slice x (some (j:Int)) none).cps.toList=x.cps.toList.drop j:=by
 rw [Znc,StrLaws.sliceText_from ⟨by omega,by omega⟩]
 simp only [List.toList_toArray]
 rw [List.take_of_length_le]
 ·simp
 ·simp only [List.length_drop];omega
theorem Zcb (x y:Str):(x++y).cps.toList=x.cps.toList++y.cps.toList:=by
 show (x.cps++y.cps).toList=_
 simp
theorem Zgx (c:Nat):(⟨#[c]⟩:Str).cps.toList=[c]:=rfl
theorem Zbc (x:Str):x.length=x.cps.toList.length:=by simp [Str.length]
theorem ZaC {x y:Str} (h:x.cps.toList=y.cps.toList):x=y:=by
 obtain ⟨⟨a⟩⟩:=x
 obtain ⟨⟨b⟩⟩:=y
 simp at h
 rw [h]
theorem ZjW:letters.cps.toList.length=26:=by decide +kernel
def GW (W:List Nat):Prop:=(∃ c r,W=c::r∧c∈letters.cps.toList)∧W.all okc=true
theorem sgn (i:Int) (k:Int) (h0:0<k) (h1:k≤36):∃ c,ixD (.str "abcdefghijklmnopqrstuvwxyz0123456789") (.int (i%k))=some (.str ⟨#[c]⟩)∧okc c=true:=by
 have hl:=Zil
 obtain ⟨c,h,hm⟩:=Zkb (z:=signs) (i:=i%k) (by omega) (Int.emod_nonneg _ (by omega)) (by have:=Int.emod_lt_of_pos i h0;omega)
 exact ⟨c,h,by rw [Zl0];simpa using hm⟩
theorem Zqf (i:Int):∃ c,ixD (.str "abcdefghijklmnopqrstuvwxyz0123456789") (.int (i%26))=some (.str ⟨#[c]⟩)∧c∈letters.cps.toList:=by
 obtain ⟨j,hj,hjl⟩:∃ j:Nat,i%26=(j:Int)∧j<26:=⟨(i%26).toNat,by omega,by omega⟩
 have hl:=ZjW
 have hz:signs.length≤sizeLine:=by rw [Zil];decide
 have e:atI signs.cps.toList (j:Int)=some (letters.cps.toList[j]'(by omega)):=Zfn (by rw [Zjh,List.getElem?_append_left (by omega),List.getElem?_eq_getElem (by omega)])
 refine ⟨letters.cps.toList[j]'(by omega),?_,List.getElem_mem _⟩
 rw [hj]
 show (if signs.length≤sizeLine then (atI signs.cps.toList (j:Int)).map (fun c=>D.str ⟨#[c]⟩) else none)=_
 rw [if_pos hz,e];rfl
abbrev SG:Sl:=.val (.str "abcdefghijklmnopqrstuvwxyz0123456789")
theorem ZiW (c:Int) (s1:Sl):∀ (ks:List Nat) (z:Str) (s4:Sl),(∀ k∈ks,k<1000)→z.length+ks.length≤1000→∃ z' s4' ext,ZdP (ZF 4) Zey (ks.map fun (k:Nat)=>D.int (k:Int)) [.val (.int c),s1,SG,.val (.str z),s4]=.next [.val (.int c),s1,SG,.val (.str z'),s4']∧z'.cps.toList=z.cps.toList++ext∧ext.length=ks.length∧ext.all okc=true
 | [],z,s4,_,_=>⟨z,s4,[],rfl,by simp,rfl,rfl⟩
 | k::ks,z,s4,hk,h=>by
  simp only [List.length_cons] at h
  have hk1:=hk k List.mem_cons_self
  obtain ⟨x,hx,hxo⟩:=sgn (c / ((k:Int)+3)) 36 (by decide) (by decide)
  have h1:(⟨#[x]⟩:Str).length=1:=by simp [Str.length]
  have ha:=ZfC z ⟨#[x]⟩ (by rw [h1];omega)
  have hl:(z++⟨#[x]⟩).length=z.length+1:=by rw [Zbc,Zcb,Zbc];simp
  obtain ⟨z',s4',ext,e,e1,e2,e3⟩:=ZiW c s1 ks (z++⟨#[x]⟩) (.val (.int (k:Int))) (fun j hj=>hk j (List.mem_cons_of_mem _ hj)) (by rw [hl];omega)
  have hd:Zgm c ((k:Int)+3):=⟨by omega,by omega⟩
  refine ⟨z',s4',x::ext,?_,by rw [e1,Zcb];simp,by simp [e2],by simp [hxo,e3]⟩
  have a1:Zq (.int (k:Int)) (.int 3)=some (.int ((k:Int)+3)):=rfl
  simp [ZdP,Zey,-ixD,-Zq,a1,hd,hx,ha,e]
theorem ZnY (c:Int) (m:Nat) (hm:m≤100):∃ z,Zeg [.val (.int c),.val (.int (m:Int))]=some (.val (.str z))∧z.cps.toList.length=m+1∧GW z.cps.toList:=by
 obtain ⟨x,hx,hxl⟩:=Zqf c
 have hr:=Zjo m (by omega)
 obtain ⟨z',s4',ext,e,e1,e2,e3⟩:=ZiW c (.val (.int (m:Int))) (List.range m) ⟨#[x]⟩ .no (fun k hk=>by have:=List.mem_range.mp hk;omega) (by simp [Str.length];omega)
 have hxo:okc x=true:=by simp [okc,hxl]
 refine ⟨z',?_,by rw [e1,Zgx];simp [e2],⟨x,ext,by rw [e1];rfl,hxl⟩,by rw [e1,Zgx];simp [hxo,e3]⟩
 simp [Zeg,fnP,ZfJ,Zf1,Zf0,Zgn,Zgb,Zgo,Zgr,Zgh,Zgl,-ixD,hx,hr,e]
def tA:At→Str
 | .non=>"*"
 | .int i=>iT i
 | .str z=>z
def okT:At→Prop
 | .non=>True
 | .int i=>i.natAbs<10^60
 | .str z=>GW z.cps.toList∧z.cps.toList.length≤12
theorem Zap {np n:Nat} {g:VE→Res} {ss:List Sl} {r:Rv} (h:ss.length=np) (e:g (ss++List.replicate (n-np) .no)=.ret r):fnP np n g ss=some r:=by
 unfold fnP
 rw [if_pos h,e]
theorem Zd1 (i:Int):(∃ m:Nat,i=(m:Int))∨∃ m:Nat,0<m∧i = -(m:Int):=by
 by_cases h:0≤i
 ·exact .inl ⟨i.toNat,by omega⟩
 ·exact .inr ⟨i.natAbs,by omega,by omega⟩
theorem Zmy (i:Int):∀ c∈(iT i).cps.toList,c=45∨(48≤c∧c≤57):=by
 rcases Zd1 i with ⟨m,rfl⟩ | ⟨m,hm,rfl⟩
 ·rw [Zdw];exact fun c hc=>.inr (Zcp m c hc)
 ·rw [Zdr hm]
  intro c hc
  rcases List.mem_cons.mp hc with rfl | hc
  ·exact .inl rfl
  ·exact .inr (Zcp m c hc)
theorem ZlR:∀ c∈letters.cps.toList++figures.cps.toList,(48≤c∧c≤57)∨(97≤c∧c≤122):=by decide +kernel
theorem Ziv:∀ c∈letters.cps.toList,97≤c∧c≤122:=by decide +kernel
theorem Zj8 {c:Nat} (h:okc c=true):(48≤c∧c≤57)∨(97≤c∧c≤122):=by
 refine ZlR c ?_
 unfold okc at h
 rw [Bool.or_eq_true,decide_eq_true_eq,decide_eq_true_eq] at h
 exact List.mem_append.mpr h
theorem Zlb {i:Int} (h:i.natAbs<10^60):(iT i).cps.toList.length≤61:=by
 rcases Zd1 i with ⟨m,rfl⟩ | ⟨m,hm,rfl⟩
 ·rw [Zdw]
  have:=Ze8 60 m (by omega) (by simpa using h)
  omega
 ·rw [Zdr hm,List.length_cons]
  have:=Ze8 60 m (by omega) (by simpa using h)
  omega
theorem ZoZ:∀ d∈List.range 10,ixD (.str "0123456789") (.int (d:Int))=some (.str ⟨#[48+d]⟩):=by
 intro d hd
 have hd:=List.mem_range.mp hd
 have hl:figures.cps.toList.length=10:=by decide +kernel
 have hz:figures.length≤sizeLine:=by rw [Zbc,hl];decide
 have hg:∀ d∈List.range 10,figures.cps.toList[d]?=some (48+d):=by decide +kernel
 have e:atI figures.cps.toList (d:Int)=some (48+d):=Zfn (hg d (List.mem_range.mpr hd))
 show (if figures.length≤sizeLine then (atI figures.cps.toList (d:Int)).map (fun c=>D.str ⟨#[c]⟩) else none)=_
 rw [if_pos hz,e];rfl
theorem ZhT (c:Nat) (f:Str):((⟨#[c]⟩:Str)++f).cps.toList=c::f.cps.toList:=by rw [Zcb,Zgx];rfl
theorem Zkf (f:Str):(f=Str.ofString "")↔f.cps.toList=[]:=by
 have e:(Str.ofString "").cps.toList=[]:=by decide +kernel
 constructor
 ·rintro rfl;exact e
 ·intro h;exact ZaC (by rw [h,e])
theorem ZgE (s0:Sl):∀ (fuel m:Nat) (f:Str),f.cps.toList.length+fuel<1000→(if m=0∧f.cps.toList≠[] then 0 else (dg m).length)<fuel →
  ∃ r:Str,whR ZaU Zcg fuel [s0,.val (.str f),.val (.int (m:Int))]=.next [s0,.val (.str r),.val (.int 0)]∧r.cps.toList=(if m=0∧f.cps.toList≠[] then [] else dg m)++f.cps.toList
 | 0,_,_,_,h=>by omega
 | fuel+1,m,f,hl,hf=>by
  have g:gtD (.int (m:Int)) (.int 0)=some (.bl (decide (0<m))):=by
   show some (D.bl (decide (0<(m:Int))))=_
   by_cases h:0<m
   ·rw [decide_eq_true h,decide_eq_true (by omega)]
   ·rw [decide_eq_false h,decide_eq_false (by omega)]
  have q:eqO (.str f) (.str "")=some (.bl (decide (f.cps.toList=[]))):=by
   simp only [eqO,Zer,okD,Zhk,Bool.and_self,if_true]
   by_cases h:f.cps.toList=[]
   ·rw [decide_eq_true h,decide_eq_true ((Zkf f).mpr h)]
   ·rw [decide_eq_false h,decide_eq_false (fun z=>h ((Zkf f).mp z))]
  by_cases hs:m=0∧f.cps.toList≠[]
  ·refine ⟨f,?_,by rw [if_pos hs];rfl⟩
   obtain ⟨rfl,h2⟩:=hs
   rw [decide_eq_false h2] at q
   have ht:ZaU [s0,.val (.str f),.val (.int ((0:Nat):Int))]=some false:=by
    simp only [ZaU,orB,asB,Zd,rdP,List.getElem?_cons_succ,List.getElem?_cons_zero,Option.bind,g,q]
    rfl
   simp only [whR,ht]
   rfl
  ·have ht:ZaU [s0,.val (.str f),.val (.int (m:Int))]=some true:=by
    simp only [ZaU,orB,asB,Zd,rdP,List.getElem?_cons_succ,List.getElem?_cons_zero,Option.bind,g,q]
    by_cases h0:0<m
    ·rw [decide_eq_true h0]
    ·have hm:m=0:=by omega
     have:f.cps.toList=[]:=Classical.byContradiction fun z=>hs ⟨hm,z⟩
     rw [decide_eq_false h0,decide_eq_true this]
   have hmd:ZbJ (.int (m:Int)) (.int 10)=some (.int ((m%10:Nat):Int)):=by
    show some (D.int ((m:Int)%10))=_
    congr 2
   have hix:=ZoZ (m%10) (List.mem_range.mpr (by omega))
   have had:=ZfC ⟨#[48+m%10]⟩ f (by rw [Zbc,Zbc,Zgx,List.length_singleton];omega)
   have hdv:ZeS (.int (m:Int)) (.int 10)=some (.int ((m / 10:Nat):Int)):=by
    show (if Zgm (m:Int) 10 then some (D.int ((m:Int) / 10)) else none)=_
    rw [if_pos (by constructor<;>decide)]
    congr 2
   have hb:Zcg [s0,.val (.str f),.val (.int (m:Int))]=.next [s0,.val (.str (⟨#[48+m%10]⟩++f)),.val (.int ((m / 10:Nat):Int))]:=by
    simp only [Zcg,Zo,Zu,Zd,rdP,List.getElem?_cons_succ,List.getElem?_cons_zero,List.set_cons_succ,List.set_cons_zero,Option.bind,hmd,hix,had,hdv]
   rw [if_neg hs] at hf
   have hlen':(if m / 10=0∧((⟨#[48+m%10]⟩:Str)++f).cps.toList≠[] then 0 else (dg (m / 10)).length)<fuel:=by
    have h1:0<(dg m).length:=List.length_pos_iff.mpr (ZgB m)
    by_cases h:m<10
    ·rw [if_pos ⟨by omega,by rw [ZhT];simp⟩];omega
    ·rw [if_neg (fun z=>by have:=z.1;omega)]
     rw [ZfH (by omega),List.length_append,List.length_singleton] at hf
     omega
   obtain ⟨r,e1,e2⟩:=ZgE s0 fuel (m / 10) (⟨#[48+m%10]⟩++f) (by rw [ZhT,List.length_cons];omega) hlen'
   refine ⟨r,by simp only [whR,ht,hb];exact e1,?_⟩
   rw [e2,ZhT,if_neg hs]
   by_cases h:m<10
   ·rw [if_pos ⟨by omega,by simp⟩,Zek h,show m%10=m by omega];rfl
   ·rw [if_neg (fun z=>by have:=z.1;omega),ZfH (m:=m) (by omega),List.append_assoc];rfl
theorem Zh4 (a:At) (h:okT a):Zbp [.val (aD a)]=some (.val (.str (tA a))):=by
 cases a with
 | non=>simp [Zbp,fnP,ZcQ,ZaW,Zbu,aD,tA]
 | str z=>simp [Zbp,fnP,ZcQ,ZaW,Zbu,Zcd,Zce,aD,tA]
 | int i =>
  have hn:isN (.int i)=false:=rfl
  have his:isD [.int i,.ty "int"]=some (.bl true):=by simp
  have hab:Zla [.int i]=some (.int ((i.natAbs:Nat):Int)):=by
   show some (D.int (if i<0 then -i else i))=_
   congr 2
   split<;>omega
  have hd:=Ze8 60 i.natAbs (by omega) h
  have enil:(Str.ofString "").cps.toList=[]:=by decide +kernel
  obtain ⟨r,e1,e2⟩:=ZgE (.val (.int i)) 100 i.natAbs (Str.ofString "") (by rw [enil];simp) (by rw [if_neg (fun z=>z.2 enil)];omega)
  rw [if_neg (fun z=>z.2 enil),enil,List.append_nil] at e2
  refine Zap rfl ?_
  show ZaW [.val (.int i),.no,.no]=_
  have ge:geD (.int i) (.int 0)=some (.bl (decide (0≤i))):=rfl
  rcases Zd1 i with ⟨m,hi⟩ | ⟨m,hm,hi⟩
  ·have er:r=iT i:=ZaC (by rw [e2,hi,Zdw];simp)
   rw [decide_eq_true (by omega)] at ge
   simp only [ZaW,Zbu,Zcd,Zce,Zdh,Zdk,Zdo,Zc9,Zdt,Zdb,Zc8,Zdf,Zo,ZH,Zu,Zz,ZdN,ZkI,Zbg,asB,Zae,Zd,rdP,rdV,rdA,ZD,Zb,Zi,pks,pk,List.getElem?_cons_succ,List.getElem?_cons_zero,List.set_cons_succ,List.set_cons_zero,Option.bind,Option.map,hn,his,Bool.not_true,hab,e1,ge,er,tA,aD]
  ·have hlen:r.length≤60:=by rw [Zbc,e2];exact hd
   have had:=ZfC "-" r (by have:(Str.ofString "-").length=1:=by decide +kernel
                           rw [this];omega)
   have er:Str.ofString "-"++r=iT i:=ZaC (by
    rw [Zcb,e2,hi,Zdr hm]
    have:(Str.ofString "-").cps.toList=[45]:=by decide +kernel
    rw [this];simp)
   rw [er] at had
   rw [decide_eq_false (by omega)] at ge
   simp only [ZaW,Zbu,Zcd,Zce,Zdh,Zdk,Zdo,Zc9,Zdt,Zdb,Zc8,Zdf,Zo,ZH,Zu,Zz,ZdN,ZkI,Zbg,asB,Zae,Zd,rdP,rdV,rdA,ZD,Zb,Zi,pks,pk,List.getElem?_cons_succ,List.getElem?_cons_zero,List.set_cons_succ,List.set_cons_zero,Option.bind,Option.map,hn,his,Bool.not_true,hab,e1,ge,had,tA,aD]
theorem ZqS:(Str.ofString "/")=⟨#[47]⟩:=by decide +kernel
theorem Zc6 (z:Str) (c:Nat):Txt.startswith z ⟨#[c]⟩=decide (z.cps.toList[0]?=some c):=by
 unfold Txt.startswith
 have h:=StrLaws.subAt_one z c 0
 rw [Bool.eq_iff_iff,Bool.and_eq_true,decide_eq_true_eq,decide_eq_true_eq]
 exact h
theorem ZmG:(Str.ofString "-")=⟨#[45]⟩:=by decide +kernel
theorem Zge:(Str.ofString "0")=⟨#[48]⟩:=by decide +kernel
theorem Zlm (L:List Nat) (h:∀ c∈L,48≤c∧c≤57):Za7 (ZF 0) (fun _=>some true) Zax [.no] (L.map fun c=>D.str ⟨#[c]⟩)=some ((L.map fun _=>true).map D.bl):=by
 have hf:∀ c,48≤c→c≤57→c∈(Str.ofString "0123456789").cps.toList:=by
  have:∀ d∈List.range 10,48+d∈(Str.ofString "0123456789").cps.toList:=by decide +kernel
  intro c h1 h2
  have:=this (c-48) (List.mem_range.mpr (by omega))
  rwa [show 48+(c-48)=c by omega] at this
 rw [Zc3 (fun c=>D.str ⟨#[c]⟩) (fun _=>D.bl true) L fun c hc=>⟨[.val (.str ⟨#[c]⟩)],rfl,by
  have hi:=Zfc false c "0123456789"
  obtain ⟨h1,h2⟩:=h c hc
  simp only [Bool.false_eq_true,if_false,decide_eq_true (hf c h1 h2)] at hi
  simp only [Zax,Zd,rdP,List.getElem?_cons_zero,Option.bind,hi]⟩]
 simp
theorem Zok (L:List Nat):Zf5 [.lst ((L.map fun _=>true).map D.bl)]=some (.bl true):=by
 simp only [Zf5,Zh1,Option.map_some]
 congr 2
 rw [List.all_map]
 simp
theorem ZgW (i:Int) (h:i.natAbs<10^60):ZaQ [.val (.str (iT i))]=some (.val (.bl true)):=by
 have hz:(iT i).length≤sizeLine:=by rw [Zbc];exact Nat.le_trans (Zlb h) (by decide)
 -- the figures of it
 obtain ⟨f,m,hfig,hf,hmh,h0⟩:∃ (f:Str) (m:Nat),ZdN (some (Txt.startswith (iT i) "-")) ((if (iT i).length≤sizeLine then some (D.str (Txt.slice (iT i) (some 1) none)) else none)) (some (.str (iT i)))=some (.str f)∧f.cps.toList=dg m∧m<10^60∧(m=0→iT i=Str.ofString "0"):=by
  rcases Zd1 i with ⟨m,rfl⟩ | ⟨m,hm,rfl⟩
  ·refine ⟨iT (m:Int),m,?_,Zdw m,by simpa using h,fun h=>?_⟩
   ·have hs:Txt.startswith (iT (m:Int)) "-"=false:=by
     have:=Zc6 (iT (m:Int)) 45
     rw [← ZmG] at this
     rw [this,Zdw]
     refine decide_eq_false fun z=>?_
     have:=Zcp m 45 (List.mem_of_getElem? z)
     omega
    rw [hs];rfl
   ·subst h
    exact ZaC (by rw [Zdw,Zek (by omega),Zge])
  ·refine ⟨Txt.slice (iT (-(m:Int))) (some 1) none,m,?_,?_,by simpa using h,fun z=>by omega⟩
   ·have hs:Txt.startswith (iT (-(m:Int))) "-"=true:=by
     have:=Zc6 (iT (-(m:Int))) 45
     rw [← ZmG] at this
     rw [this,Zdr hm];rfl
    rw [hs,if_pos hz];rfl
   ·have:=ZhN (iT (-(m:Int))) 1 (by rw [Zdr hm];simp)
    rw [Zdr hm] at this
    exact this
 have hl1:f.length≤60:=by rw [Zbc,hf];exact Ze8 60 m (by omega) hmh
 have hl0:1≤f.length:=by rw [Zbc,hf];exact List.length_pos_iff.mpr (ZgB m)
 have hfz:f.length≤sizeLine:=Nat.le_trans hl1 (by decide)
 have hlen:ZaR [.str f]=some (.int (f.length:Int)):=by simp [hfz]
 have c1:ltO (.int (f.length:Int)) (.int 1)=some (.bl false):=by
  show some (D.bl (decide ((f.length:Int)<1)))=_
  rw [decide_eq_false (by omega)]
 have c2:gtD (.int (f.length:Int)) (.int 60)=some (.bl false):=by
  show some (D.bl (decide ((60:Int)<(f.length:Int))))=_
  rw [decide_eq_false (by omega)]
 have st0:Zba f [.str "0"]=some (.bl (decide (m=0))):=by
  show some (D.bl (Txt.startswith f "0"))=_
  have:=Zc6 f 48
  rw [← Zge] at this
  rw [this,hf]
  by_cases hm:m=0
  ·rw [decide_eq_true hm,hm,Zek (by omega)];rfl
  ·obtain ⟨c,r,e,hc⟩:=Znz (m:=m) (by omega)
   rw [decide_eq_false hm,e]
   congr 2
   exact decide_eq_false fun z=>hc (by simpa using z)
 have ne0:m=0→neO (.str (iT i)) (.str "0")=some (.bl false):=fun hm=>by
  rw [h0 hm]
  simp only [neO,Zer,okD,Zhk,Bool.and_self,if_true]
  rfl
 have hc:=Zlm f.cps.toList (by rw [hf];exact Zcp m)
 have ha:=Zok f.cps.toList
 have hsq:ZL (.str f)=some (f.cps.toList.map fun c=>D.str ⟨#[c]⟩):=rfl
 have q1:Zy (some (f.cps.toList.map fun c=>D.str ⟨#[c]⟩))=some (f.cps.toList.map fun c=>D.str ⟨#[c]⟩):=Zex _ (by rw [List.length_map,← Zbc];omega)
 have hst:Zba (iT i) [.str "-"]=some (.bl (Txt.startswith (iT i) "-")):=rfl
 have hsl:slD (.str (iT i)) (some 1) none=(if (iT i).length≤sizeLine then some (D.str (Txt.slice (iT i) (some 1) none)) else none):=rfl
 refine Zap rfl ?_
 show Zag [.val (.str (iT i)),.no]=_
 have hin:∀ ρ:VE,ZS 1 [] ρ=[.no]:=fun _=>rfl
 have p0:Zay [.val (.str (iT i)),.no]=.next [.val (.str (iT i)),.val (.str f)]:=by
  simp only [Zay,Zu,mtO,sl3,asI,Zae,rdP,rdV,Zb,Zi,pks,pk,List.getElem?_cons_zero,List.set_cons_succ,List.set_cons_zero,Option.bind,Option.map,hst,hsl,hfig]
 generalize (f.cps.toList.map fun _=>true).map D.bl=T at *
 generalize (f.cps.toList.map fun c=>D.str ⟨#[c]⟩)=LF at *
 by_cases hm:m=0
 ·have ne0:=ne0 hm
  rw [decide_eq_true hm] at st0
  simp only [Zag,p0,Za8,Za6,Zat,Za5,Za4,Za2,Zo,ZH,Zz,orB,Ze5,asB,Zae,mtO,Zd,rdP,rdQ,rdA,ZD,Zb,Zi,ZC,pks,pk,ZZ,hin,List.getElem?_cons_succ,List.getElem?_cons_zero,Option.bind,Option.map,hlen,c1,c2,st0,ne0,hsq,q1,hc,ha]
 ·rw [decide_eq_false hm] at st0
  simp only [Zag,p0,Za8,Za6,Zat,Za5,Za4,Za2,Zo,ZH,Zz,orB,Ze5,asB,Zae,mtO,Zd,rdP,rdQ,rdA,ZD,Zb,Zi,ZC,pks,pk,ZZ,hin,List.getElem?_cons_succ,List.getElem?_cons_zero,Option.bind,Option.map,hlen,c1,c2,st0,hsq,q1,hc,ha]
theorem Ziz (i:Int) (h:i.natAbs<10^60):Zav [.val (.str (iT i))]=some (.val (.int i)):=by
 have hw:=ZgW i h
 have hz:(iT i).length≤640:=by rw [Zbc];exact Nat.le_trans (Zlb h) (by decide)
 have hr:=ZmV i hz
 have hi:isD [.str (iT i),.ty "str"]=some (.bl true):=by simp
 have ht:ZjM [.str (iT i)]=some (.int i):=by simp only [ZjM,hz,if_true,hr,Option.map]
 refine Zap rfl ?_
 show Zdm [.val (.str (iT i))]=_
 simp only [Zdm,Zo,ZH,Zz,orB,Zbg,Zae,rdA,Zr,ZD,Zb,Zi,pks,pk,List.getElem?_cons_zero,Option.bind,Option.map,hi,hw,Z0,ht,Bool.not_true]
theorem ZqE (i:Int):¬ iT i=Str.ofString "*":=fun e=>by
 have h:(iT i).cps.toList=[42]:=by rw [e];decide +kernel
 have:=Zmy i 42 (by rw [h];simp)
 omega
theorem Zn2 (z:Str):eqO (.str z) (.str "*")=some (.bl (decide (z=Str.ofString "*"))):=by
 simp only [eqO,Zer,okD,Zhk,Bool.and_self,if_true]
def toS (p:List Nat):Str:=⟨⟨p⟩⟩
theorem Zbo (p:List Nat):(toS p).cps.toList=p:=rfl
theorem Zai (p:List Nat):(toS p).length=p.length:=by rw [Zbc];rfl
theorem ZlG (z:Str):toS z.cps.toList=z:=rfl
theorem Zia (a b:List Nat):toS a++toS b=toS (a++b):=ZaC (by rw [Zcb];rfl)
def dgt (c:Nat):Bool:=decide (48≤c)&&decide (c≤57)
def fgs (L:List Nat):List Nat:=if L.head?=some 45 then L.tail else L
def isWW (L:List Nat):Bool:=!(decide ((fgs L).length<1)||decide (60<(fgs L).length))&&(!(decide ((fgs L).head?=some 48)&&!decide (L=[48]))&&(fgs L).all dgt)
def okVal (L:List Nat):Bool:=Zcz L||isWW L
def Za1 (L:List Nat):Bool:=decide (L=[42])||okVal L
def ZaB (L:List Nat):Bool:=isWW L&&!decide (L.head?=some 45)
def Zj (c:Nat):List Nat→List (List Nat)
 | []=>[[]]
 | x::r=>if x=c then []::Zj c r else match Zj c r with
  | []=>[[x]]
  | p::ps=>(x::p)::ps
theorem ZcX (c:Nat):∀ L:List Nat,Zj c L≠[]
 | []=>by simp [Zj]
 | x::r=>by
  unfold Zj
  split
  ·simp
  ·split<;>simp
theorem Zc1 {c:Nat}:∀ {a:List Nat},c∉a→Zj c a=[a]
 | [],_=>rfl
 | x::r,h=>by
  have h1:¬ x=c:=fun z=>h (by simp [z])
  have ih:=Zc1 (a:=r) fun z=>h (List.mem_cons_of_mem _ z)
  simp only [Zj,if_neg h1,ih]
theorem Ze0 {c:Nat}:∀ {L p:List Nat},p∈Zj c L→c∉p
 | [],p,h=>by
  simp only [Zj,List.mem_singleton] at h
  subst h;simp
 | x::r,p,h=>by
  unfold Zj at h
  split at h
  ·rcases List.mem_cons.mp h with rfl | h
   ·simp
   ·exact Ze0 h
  ·next hx =>
   have ih:=fun q=>Ze0 (c:=c) (L:=r) (p:=q)
   split at h
   ·simp only [List.mem_singleton] at h
    subst h
    simp;exact fun z=>hx z.symm
   ·next q qs e =>
    rw [e] at ih
    rcases List.mem_cons.mp h with rfl | h
    ·have:=ih q List.mem_cons_self
     simp only [List.mem_cons,not_or]
     exact ⟨fun z=>hx z.symm,this⟩
    ·exact ih p (List.mem_cons_of_mem _ h)
theorem ZgM (c:Nat):∀ L:List Nat,(Str.join ⟨#[c]⟩ ((Zj c L).map toS)).cps.toList=L
 | []=>by simp [Zj,Str.join,toS]
 | x::r=>by
  have ih:=ZgM c r
  unfold Zj
  split
  ·next h =>
   have hn:=ZcX c r
   cases e:Zj c r with
   | nil=>exact absurd e hn
   | cons p ps =>
    rw [e] at ih
    show (toS []++⟨#[c]⟩++Str.join ⟨#[c]⟩ ((p::ps).map toS)).cps.toList=_
    rw [Zcb,Zcb,ih,h];rfl
  ·split
   ·next e=>exact absurd e (ZcX c r)
   ·next p ps e =>
    rw [e] at ih
    cases ps with
    | nil =>
     have ih:p=r:=ih
     show x::p=_
     rw [ih]
    | cons q qs =>
     have ih:(toS p++⟨#[c]⟩++Str.join ⟨#[c]⟩ ((q::qs).map toS)).cps.toList=r:=ih
     show (toS (x::p)++⟨#[c]⟩++Str.join ⟨#[c]⟩ ((q::qs).map toS)).cps.toList=_
     rw [Zcb,Zcb] at ih ⊢
     show x::_=_
     rw [← ih];rfl
theorem ZbZ {c x:Nat}:∀ {L:List Nat},x∈L→x=c∨∃ p∈Zj c L,x∈p
 | y::r,h=>by
  unfold Zj
  split
  ·next hy =>
   rcases List.mem_cons.mp h with rfl | h
   ·exact .inl hy
   ·rcases ZbZ (c:=c) h with h | ⟨p,h1,h2⟩
    ·exact .inl h
    ·exact .inr ⟨p,List.mem_cons_of_mem _ h1,h2⟩
  ·split
   ·next e=>exact absurd e (ZcX c r)
   ·next p ps e =>
    rcases List.mem_cons.mp h with rfl | h
    ·exact .inr ⟨_,List.mem_cons_self,List.mem_cons_self⟩
    ·rcases ZbZ (c:=c) h with h | ⟨q,h1,h2⟩
     ·exact .inl h
     ·rw [e] at h1
      rcases List.mem_cons.mp h1 with rfl | h1
      ·exact .inr ⟨_,List.mem_cons_self,List.mem_cons_of_mem _ h2⟩
      ·exact .inr ⟨q,List.mem_cons_of_mem _ h1,h2⟩
theorem splitL_len {c:Nat}:∀ {L:List Nat},(Zj c L).length≤L.length+1∧∀ p∈Zj c L,p.length≤L.length
 | []=>by simp [Zj]
 | x::r=>by
  obtain ⟨h1,h2⟩:=splitL_len (c:=c) (L:=r)
  unfold Zj
  split
  ·refine ⟨by simp;omega,fun p hp=>?_⟩
   rcases List.mem_cons.mp hp with rfl | hp
   ·simp
   ·have:=h2 p hp;simp only [List.length_cons];omega
  ·split
   ·refine ⟨by simp,fun p hp=>?_⟩
    simp only [List.mem_singleton] at hp
    subst hp;simp
   ·next q qs e =>
    rw [e] at h1 h2
    refine ⟨by simp at h1 ⊢;omega,fun p hp=>?_⟩
    rcases List.mem_cons.mp hp with rfl | hp
    ·have:=h2 q List.mem_cons_self;simp only [List.length_cons];omega
    ·have:=h2 p (List.mem_cons_of_mem _ hp);simp only [List.length_cons];omega
theorem ZjF (L:List Nat) {c:Nat} (hc:c<256):Txt.split (toS L) ⟨#[c]⟩=(Zj c L).map toS:=by
 have e:toS L=Str.join ⟨#[c]⟩ ((Zj c L).map toS):=ZaC (by rw [ZgM];rfl)
 rw [e]
 refine ZkG hc _ (by simpa using ZcX c L) fun z hz=>?_
 obtain ⟨p,hp,rfl⟩:=List.mem_map.mp hz
 exact Ze0 hp
theorem Zf9 (L:List Nat) {c:Nat} (hc:c<256) (hl:L.length≤100):Zb1 (toS L) [.str ⟨#[c]⟩]=some (.lst ((Zj c L).map fun p=>D.str (toS p))):=by
 have hz:(toS L).length≤sizeLine:=by rw [Zai];exact Nat.le_trans hl (by decide)
 have hn:(Txt.split (toS L) ⟨#[c]⟩).length≤sizeLine:=by
  rw [ZjF L hc,List.length_map]
  exact Nat.le_trans (Nat.le_trans splitL_len.1 (show L.length+1≤101 by omega)) (by decide)
 have h1:((⟨#[c]⟩:Str).length==0)=false:=rfl
 simp only [Zb1]
 rw [if_pos ⟨h1,hz,hn⟩,ZjF L hc,List.map_map];rfl
theorem Zno:∀ (n:Nat) (L:List Nat),L.length=n+1→L.all dgt=true→(L.head?=some 48→L=[48])→∃ m,dg m=L∧m<10^(n+1)∧(L=[48]∨0<m)
 | 0,L,hl,hd,h0=>by
  obtain ⟨c,rfl⟩:=List.length_eq_one_iff.mp hl
  simp only [List.all_cons,List.all_nil,Bool.and_true,dgt,Bool.and_eq_true,decide_eq_true_eq] at hd
  refine ⟨c-48,by rw [Zek (by omega),show 48+(c-48)=c by omega],by omega,?_⟩
  by_cases h:c=48
  ·exact .inl (by rw [h])
  ·exact .inr (by omega)
 | n+1,L,hl,hd,h0=>by
  have hne:L≠[]:=fun e=>by rw [e] at hl;simp at hl
  obtain ⟨I,c,rfl⟩:∃ I c,L=I++[c]:=⟨L.dropLast,L.getLast hne,(List.dropLast_concat_getLast hne).symm⟩
  rw [List.length_append,List.length_singleton] at hl
  rw [List.all_append,Bool.and_eq_true] at hd
  have hI:I≠[]:=fun e=>by rw [e] at hl;simp at hl
  have hh:I.head?≠some 48:=fun e=>by
   cases I with
   | nil=>exact hI rfl
   | cons x r =>
    have:=h0 (by simpa using e)
    simp at this
  obtain ⟨m,e,hm,hp⟩:=Zno n I (by omega) hd.1 (fun e=>absurd e hh)
  have hc:48≤c∧c≤57:=by simpa [dgt] using hd.2
  have hm0:0<m:=by
   rcases hp with rfl | h
   ·exact absurd rfl hh
   ·exact h
  refine ⟨10 * m+(c-48),?_,?_,.inr (by omega)⟩
  ·rw [ZfH (by omega),show (10 * m+(c-48)) / 10=m by omega,show (10 * m+(c-48))%10=c-48 by omega,e,show 48+(c-48)=c by omega]
  ·have:10^(n+1+1)=10 * 10^(n+1):=by rw [Nat.pow_succ];omega
   omega
theorem Zo5 {L:List Nat} (h:isWW L=true):∃ i:Int,i.natAbs<10^60∧L=(iT i).cps.toList∧decide (i<0)=decide (L.head?=some 45):=by
 unfold isWW at h
 simp only [Bool.and_eq_true,Bool.not_eq_true',Bool.or_eq_false_iff,decide_eq_false_iff_not,Bool.and_eq_false_iff,Bool.not_eq_false',decide_eq_true_eq] at h
 obtain ⟨⟨h1,h2⟩,h3,h4⟩:=h
 have key:∀ F:List Nat,¬ F.length<1→¬ 60<F.length→F.all dgt=true→(F.head?=some 48→F=[48])→∃ m,dg m=F∧m<10^60∧(F=[48]∨0<m):=fun F a b c d=>by
  obtain ⟨m,e,hm,hp⟩:=Zno (F.length-1) F (by omega) c d
  exact ⟨m,e,Nat.lt_of_lt_of_le hm (Nat.pow_le_pow_right (by decide) (by omega)),hp⟩
 by_cases h45:L.head?=some 45
 ·have hf:fgs L=L.tail:=by unfold fgs;rw [if_pos h45]
  rw [hf] at h1 h2 h3 h4
  have hL:L=45::L.tail:=by
   cases L with
   | nil=>simp at h45
   | cons x r=>simp at h45;rw [h45];rfl
  have hn:L.tail.head?≠some 48:=by
   rcases h3 with h3 | h3
   ·exact h3
   ·rw [hL] at h3;simp at h3
  obtain ⟨m,e,hm,hp⟩:=key L.tail h1 h2 h4 fun z=>absurd z hn
  have hm0:0<m:=by
   rcases hp with h | h
   ·rw [h] at hn;simp at hn
   ·exact h
  refine ⟨-(m:Int),by simpa using hm,?_,?_⟩
  ·rw [Zdr hm0,e];exact hL
  ·rw [decide_eq_true h45,decide_eq_true (by omega)]
 ·have hf:fgs L=L:=by unfold fgs;rw [if_neg h45]
  rw [hf] at h1 h2 h3 h4
  obtain ⟨m,e,hm,hp⟩:=key L h1 h2 h4 fun z=>by
   rcases h3 with h3 | h3
   ·exact absurd z h3
   ·exact h3
  refine ⟨(m:Int),by simpa using hm,?_,?_⟩
  ·rw [Zdw,e]
  ·rw [decide_eq_false h45,decide_eq_false (by omega)]
theorem ZnN (c:Nat):decide (c∈(Str.ofString "0123456789").cps.toList)=dgt c:=by
 have h1:∀ c∈(Str.ofString "0123456789").cps.toList,48≤c∧c≤57:=by decide +kernel
 have h2:∀ d∈List.range 10,48+d∈(Str.ofString "0123456789").cps.toList:=by decide +kernel
 unfold dgt
 by_cases h:48≤c∧c≤57
 ·have:=h2 (c-48) (List.mem_range.mpr (by omega))
  rw [show 48+(c-48)=c by omega] at this
  rw [decide_eq_true this,decide_eq_true h.1,decide_eq_true h.2];rfl
 ·rw [decide_eq_false fun z=>h (h1 c z)]
  by_cases h3:48≤c
  ·rw [decide_eq_false (fun z=>h ⟨h3,z⟩),Bool.and_false]
  ·rw [decide_eq_false h3,Bool.false_and]
theorem Zm1 (L:List Nat):Za7 (ZF 0) (fun _=>some true) Zax [.no] (L.map fun c=>D.str ⟨#[c]⟩)=some ((L.map dgt).map D.bl):=by
 rw [Zc3 (fun c=>D.str ⟨#[c]⟩) (fun c=>D.bl (dgt c)) L fun c hc=>⟨[.val (.str ⟨#[c]⟩)],rfl,by
  have hi:=Zfc false c "0123456789"
  simp only [Bool.false_eq_true,if_false,ZnN] at hi
  simp only [Zax,Zd,rdP,List.getElem?_cons_zero,Option.bind,hi]⟩]
 simp
theorem Zoj (B:List Bool):Zf5 [.lst (B.map D.bl)]=some (.bl (B.all id)):=by
 simp only [Zf5,Zh1,Option.map_some]
theorem ZqJ (L:List Nat) (h:L.length≤100):ZaQ [.val (.str (toS L))]=some (.val (.bl (isWW L))):=by
 have hz:(toS L).length≤sizeLine:=by rw [Zai];exact Nat.le_trans h (by decide)
 have hst:Zba (toS L) [.str "-"]=some (.bl (decide (L.head?=some 45))):=by
  show some (D.bl (Txt.startswith (toS L) "-"))=_
  have:=Zc6 (toS L) 45
  rw [← ZmG] at this
  rw [this,Zbo,List.head?_eq_getElem?]
 have hfig:ZdN (some (decide (L.head?=some 45))) (slD (.str (toS L)) (some 1) none) (some (.str (toS L)))=some (.str (toS (fgs L))):=by
  by_cases h45:L.head?=some 45
  ·have e:slD (.str (toS L)) (some 1) none=some (.str (toS (fgs L))):=by
    show (if (toS L).length≤sizeLine then some (D.str (Txt.slice (toS L) (some 1) none)) else none)=_
    rw [if_pos hz]
    congr 2
    refine ZaC ?_
    have hl:1≤L.length:=by cases L with
     | nil=>simp at h45
     | cons=>simp
    have:=ZhN (toS L) 1 hl
    rw [show ((1:Nat):Int)=1 from rfl] at this
    rw [this]
    unfold fgs
    rw [if_pos h45,Zbo,Zbo,List.drop_one]
   rw [decide_eq_true h45,e];rfl
  ·rw [decide_eq_false h45]
   unfold fgs
   rw [if_neg h45];rfl
 have hfl:(fgs L).length≤100:=by
  unfold fgs
  split
  ·rw [List.length_tail];omega
  ·exact h
 have hww:isWW L=(!(decide ((fgs L).length<1)||decide (60<(fgs L).length))&&(!(decide ((fgs L).head?=some 48)&&!decide (L=[48]))&&(fgs L).all dgt)):=rfl
 generalize fgs L=f at *
 have hfz:(toS f).length≤sizeLine:=by rw [Zai];exact Nat.le_trans hfl (by decide)
 have hlen:ZaR [.str (toS f)]=some (.int (f.length:Int)):=by
  have:ZaR [.str (toS f)]=some (.int ((toS f).length:Int)):=by simp [hfz]
  rw [this,Zai]
 have c1:ltO (.int (f.length:Int)) (.int 1)=some (.bl (decide (f.length<1))):=by
  show some (D.bl (decide ((f.length:Int)<1)))=_
  congr 2
  exact decide_eq_decide.mpr (by omega)
 have c2:gtD (.int (f.length:Int)) (.int 60)=some (.bl (decide (60<f.length))):=by
  show some (D.bl (decide ((60:Int)<(f.length:Int))))=_
  congr 2
  exact decide_eq_decide.mpr (by omega)
 have st0:Zba (toS f) [.str "0"]=some (.bl (decide (f.head?=some 48))):=by
  show some (D.bl (Txt.startswith (toS f) "0"))=_
  have:=Zc6 (toS f) 48
  rw [← Zge] at this
  rw [this,Zbo,List.head?_eq_getElem?]
 have ne0:neO (.str (toS L)) (.str "0")=some (.bl (!decide (L=[48]))):=by
  simp only [neO,Zer,okD,Zhk,Bool.and_self,if_true]
  congr 3
  refine decide_eq_decide.mpr ⟨fun e=>?_,fun e=>?_⟩
  ·have:=congrArg (fun z:Str=>z.cps.toList) e
   rw [Zge] at this
   exact this
  ·rw [e,Zge];rfl
 have hc:=Zm1 f
 have ha:=Zoj (f.map dgt)
 rw [show (f.map dgt).all id=f.all dgt by rw [List.all_map];rfl] at ha
 have hsq:ZL (.str (toS f))=some (f.map fun c=>D.str ⟨#[c]⟩):=rfl
 have q1:Zy (some (f.map fun c=>D.str ⟨#[c]⟩))=some (f.map fun c=>D.str ⟨#[c]⟩):=Zex _ (by rw [List.length_map];omega)
 refine Zap rfl ?_
 show Zag [.val (.str (toS L)),.no]=_
 have hin:∀ ρ:VE,ZS 1 [] ρ=[.no]:=fun _=>rfl
 have p0:Zay [.val (.str (toS L)),.no]=.next [.val (.str (toS L)),.val (.str (toS f))]:=by
  simp only [Zay,Zu,mtO,sl3,asI,Zae,rdP,rdV,Zb,Zi,pks,pk,List.getElem?_cons_zero,List.set_cons_succ,List.set_cons_zero,Option.bind,Option.map,hst,hfig]
 rw [hww]
 generalize (f.map dgt).map D.bl=T at *
 generalize (f.map fun c=>D.str ⟨#[c]⟩)=LF at *
 generalize decide (f.length<1)=b1 at *
 generalize decide (60<f.length)=b2 at *
 generalize decide (f.head?=some 48)=b3 at *
 generalize decide (L=[48])=b4 at *
 generalize f.all dgt=b5 at *
 simp only [Zag,p0,Za8,Za6,Zo,asB,Zd,rdP,rdA,ZD,Zb,Zi,pks,pk,List.getElem?_cons_succ,List.getElem?_cons_zero,Option.bind,Option.map,hlen,c1,c2]
 have s2:(!b1&&!b2)=true→Zat [.val (.str (toS L)),.val (.str (toS f))]=.ret (.val (.bl (!(b3&&!b4)&&b5))):=fun _=>by
  cases b3<;>cases b4<;>simp only [Zat,Za5,Za4,Za2,Zo,ZH,Zz,orB,Ze5,asB,Zae,mtO,Zd,rdP,rdQ,rdA,ZD,Zb,Zi,ZC,pks,pk,ZZ,hin,List.getElem?_cons_succ,List.getElem?_cons_zero,Option.bind,Option.map,st0,ne0,hsq,q1,hc,ha,Bool.not_true,Bool.not_false,Bool.and_true,Bool.and_false,Bool.true_and,Bool.false_and]
 cases b1 with
 | true=>simp only [orB,ZH,Zz,Zo,Bool.true_or,Bool.not_true,Bool.false_and]
 | false =>
  cases b2 with
  | true=>simp only [orB,ZH,Zz,Zo,Bool.or_true,Bool.not_true,Bool.false_and]
  | false =>
   have:=s2 rfl
   simp only [orB,ZH,Zz,Zo,Bool.or_false,Bool.not_false,Bool.true_and,this]
def noT:Str:="NoText"
def Rd (F:List Sl→Option Rv) (X:List Sl→Option Str) (ok:List Nat→Bool):Prop:=∀ p:List Nat,p.length≤100 →
 (ok p=true→X [.val (.str (toS p))]=none∧∃ d,F [.val (.str (toS p))]=some (.val d))∧(ok p=false→X [.val (.str (toS p))]=some noT)
theorem Zkn (z:Str):isD [.str z,.ty "str"]=some (.bl true):=by simp
theorem fnx {np n:Nat} {h:VE→Option Str} {ss:List Sl} (e:ss.length=np):fnX np n h ss=h (ss++List.replicate (n-np) .no):=by
 unfold fnX
 rw [if_pos e]
theorem ZgS (p:List Nat) (hp:p.length≤100) :
  (isWW p=true→Zau [.val (.str (toS p))]=none∧∃ i:Int,Zav [.val (.str (toS p))]=some (.val (.int i))∧decide (i<0)=decide (p.head?=some 45))∧(isWW p=false→Zau [.val (.str (toS p))]=some noT):=by
 have hw:=ZqJ p hp
 have hi:=Zkn (toS p)
 have hX:Zau [.val (.str (toS p))]=if isWW p then none else some noT:=by
  refine (show Zau [.val (.str (toS p))]=Zc4 [.val (.str (toS p))] from fnx (np:=1) (ss:=[.val (.str (toS p))]) rfl).trans ?_
  cases hb:isWW p<;>rw [hb] at hw <;>
   simp only [Zc4,Z4,ZbV,orB,Zbg,Zae,rdA,Zr,ZD,Zb,Zi,pks,pk,List.getElem?_cons_zero,Option.bind,Option.map,hi,hw,Z0,Bool.not_true,Bool.not_false,if_true,if_false,noT,Bool.false_eq_true]
 constructor
 ·intro hb
  refine ⟨by rw [hX,hb];rfl,?_⟩
  obtain ⟨i,hi,e,h2⟩:=Zo5 hb
  have:toS p=iT i:=ZaC (by rw [Zbo,e])
  exact ⟨i,by rw [this];exact Ziz i hi,h2⟩
 ·intro hb
  rw [hX,hb];rfl
theorem rdW:Rd Zav Zau isWW:=fun p hp=>⟨fun h=>by
 obtain ⟨h1,i,h2,_⟩:=(ZgS p hp).1 h
 exact ⟨h1,_,h2⟩,(ZgS p hp).2⟩
theorem ZmO:Rd Zas ZaP ZaB:=fun p hp=>by
 obtain ⟨hy,hn⟩:=ZgS p hp
 have hXe:ZaP [.val (.str (toS p))]=ZbG [.val (.str (toS p)),.no]:=fnx (np:=1) (ss:=[.val (.str (toS p))]) rfl
 cases hw:isWW p with
 | false =>
  have hn:=hn hw
  have:ZaB p=false:=by unfold ZaB;rw [hw];rfl
  refine ⟨fun z=>(by rw [this] at z;cases z),fun _=>?_⟩
  rw [hXe]
  simp only [ZbG,orX,rdA,Zb,List.getElem?_cons_zero,Option.bind,Option.map,hn]
 | true =>
  obtain ⟨hx,i,hf,hd⟩:=hy hw
  have ho:ZaB p=!decide (i<0):=by unfold ZaB;rw [hw,hd];rfl
  have c:ltO (.int i) (.int 0)=some (.bl (decide (i<0))):=rfl
  rw [ho,hXe]
  generalize decide (i<0)=b at *
  cases b with
  | true =>
   refine ⟨fun z=>(by cases z),fun _=>?_⟩
   simp only [ZbG,orX,nxO,Z4,ZbV,Zu,asB,Zd,rdP,rdV,rdA,Zr,Zb,Zi,List.getElem?_cons_succ,List.getElem?_cons_zero,List.set_cons_succ,List.set_cons_zero,Option.bind,Option.map,hx,hf,Z0,c,noT]
  | false =>
   refine ⟨fun _=>⟨?_,.int i,?_⟩,fun z=>by cases z⟩
   ·simp only [ZbG,orX,nxO,Z4,ZbV,Zu,asB,Zd,rdP,rdV,rdA,Zr,Zb,Zi,List.getElem?_cons_succ,List.getElem?_cons_zero,List.set_cons_succ,List.set_cons_zero,Option.bind,Option.map,hx,hf,Z0,c,noT]
   ·refine Zap rfl ?_
    show Zdn [.val (.str (toS p)),.no]=_
    simp only [Zdn,Zo,ZH,Zu,Zz,asB,Zd,rdP,rdV,rdA,Zr,Zb,List.getElem?_cons_succ,List.getElem?_cons_zero,List.set_cons_succ,List.set_cons_zero,Option.bind,Option.map,hf,Z0,c]
theorem Zon:Rd Zdc Zcm okVal:=fun p hp=>by
 obtain ⟨hy,hn⟩:=rdW p hp
 have hi:ZaO [.val (.str (toS p))]=some (.val (.bl (Zcz p))):=Zkq _ (by show (toS p).length≤100;rw [Zai];exact hp)
 have hXe:Zcm [.val (.str (toS p))]=ZbC [.val (.str (toS p))]:=fnx (np:=1) (ss:=[.val (.str (toS p))]) rfl
 have ho:okVal p=(Zcz p||isWW p):=rfl
 rw [ho,hXe]
 cases hb:Zcz p with
 | true =>
  rw [hb] at hi
  refine ⟨fun _=>⟨?_,.str (toS p),?_⟩,fun z=>by cases z⟩
  ·simp only [ZbC,Z4,Zae,rdA,Zr,Zb,List.getElem?_cons_zero,Option.bind,Option.map,hi,Z0]
  ·refine Zap rfl ?_
   show ZbL [.val (.str (toS p))]=_
   simp only [ZbL,Zo,Zz,ZdN,Zae,rdA,rdV,Zr,Zb,List.getElem?_cons_zero,Option.bind,Option.map,hi,Z0]
 | false =>
  rw [hb] at hi
  refine ⟨fun z=>?_,fun z=>?_⟩
  ·obtain ⟨h1,d,h2⟩:=hy (by simpa using z)
   refine ⟨?_,d,?_⟩
   ·simp only [ZbC,Z4,Zae,rdA,Zr,Zb,List.getElem?_cons_zero,Option.bind,Option.map,hi,Z0,h1]
   ·refine Zap rfl ?_
    show ZbL [.val (.str (toS p))]=_
    simp only [ZbL,Zo,Zz,ZdN,Zae,rdA,rdV,Zr,Zb,List.getElem?_cons_zero,Option.bind,Option.map,hi,Z0,h2]
  ·have h1:=hn (by simpa using z)
   simp only [ZbC,Z4,Zae,rdA,Zr,Zb,List.getElem?_cons_zero,Option.bind,Option.map,hi,Z0,h1]
theorem ZpJ (p:List Nat):eqO (.str (toS p)) (.str "*")=some (.bl (decide (p=[42]))):=by
 rw [Zn2]
 have e:(Str.ofString "*").cps.toList=[42]:=by decide +kernel
 congr 2
 refine decide_eq_decide.mpr ⟨fun h=>?_,fun h=>?_⟩
 ·have:=congrArg (fun z:Str=>z.cps.toList) h
  rw [e] at this
  exact this
 ·exact ZaC (by rw [e,Zbo,h])
theorem Zot:Rd ZaV Zaq Za1:=fun p hp=>by
 obtain ⟨hy,hn⟩:=Zon p hp
 have hi:=ZpJ p
 have hXe:Zaq [.val (.str (toS p))]=Zaa [.val (.str (toS p))]:=fnx (np:=1) (ss:=[.val (.str (toS p))]) rfl
 have ho:Za1 p=(decide (p=[42])||okVal p):=rfl
 rw [ho,hXe]
 generalize decide (p=[42])=b at *
 cases b with
 | true =>
  refine ⟨fun _=>⟨?_,.non,?_⟩,fun z=>by cases z⟩
  ·simp only [Zaa,Z4,asB,Zd,rdP,List.getElem?_cons_zero,Option.bind,Option.map,hi]
  ·refine Zap rfl ?_
   show Zac [.val (.str (toS p))]=_
   simp only [Zac,Zo,Zz,ZdN,asB,Zd,rdP,List.getElem?_cons_zero,Option.bind,Option.map,hi]
 | false =>
  refine ⟨fun z=>?_,fun z=>?_⟩
  ·obtain ⟨h1,d,h2⟩:=hy (by simpa using z)
   refine ⟨?_,d,?_⟩
   ·simp only [Zaa,Z4,asB,Zd,rdP,rdA,Zb,List.getElem?_cons_zero,Option.bind,Option.map,hi,h1]
   ·refine Zap rfl ?_
    show Zac [.val (.str (toS p))]=_
    simp only [Zac,Zo,Zz,ZdN,asB,Zd,rdP,rdA,Zr,Zb,List.getElem?_cons_zero,Option.bind,Option.map,hi,h2,Z0]
  ·have h1:=hn (by simpa using z)
   simp only [Zaa,Z4,asB,Zd,rdP,rdA,Zb,List.getElem?_cons_zero,Option.bind,Option.map,hi,h1]
def tL (ps:List (List Nat)):List D:=ps.map fun p=>D.str (toS p)
theorem ZgY (p:List Nat) (hp:p.length≤100) (s:Str) (c:Nat) (hs:s=⟨#[c]⟩) (hc:c<256) :
  Zby [.val (.str (toS p)),.val (.str s)]=none∧Zbx [.val (.str (toS p)),.val (.str s)]=some (.val (.lst (tL (Zj c p)))):=by
 have hi:=Zkn (toS p)
 have hd:=Zf9 p hc hp
 rw [← hs] at hd
 constructor
 ·refine (show Zby _=Zcr [.val (.str (toS p)),.val (.str s)] from fnx (np:=2) (ss:=[.val (.str (toS p)),.val (.str s)]) rfl).trans ?_
  simp only [Zcr,Z4,Zbg,Zae,rdA,ZD,Zb,Zi,pks,pk,List.getElem?_cons_succ,List.getElem?_cons_zero,Option.bind,Option.map,hi,Bool.not_true]
 ·refine Zap rfl ?_
  show Zen [.val (.str (toS p)),.val (.str s)]=_
  simp only [Zen,Zo,ZH,Zz,Zbg,Zae,mtO,rdP,rdA,ZD,Zb,Zi,pks,pk,List.getElem?_cons_succ,List.getElem?_cons_zero,Option.bind,Option.map,hi,Bool.not_true,hd,tL]
theorem Zg5 (d:D) (s:Str) (hi:isD [d,.ty "str"]=some (.bl false)):Zby [.val d,.val (.str s)]=some noT:=by
 refine (show Zby _=Zcr [.val d,.val (.str s)] from fnx (np:=2) (ss:=[.val d,.val (.str s)]) rfl).trans ?_
 simp only [Zcr,Z4,ZbV,Zbg,Zae,rdA,ZD,Zb,Zi,pks,pk,List.getElem?_cons_succ,List.getElem?_cons_zero,Option.bind,Option.map,hi,Bool.not_false,noT]
theorem Zfb (ps:List (List Nat)):ZaR [.lst (tL ps)]=some (.int (ps.length:Int)):=by
 simp [tL]
theorem ZoI (p:List Nat) (hp:p.length≤100) :
  ((Zj 47 p).length≤4→Z7 [.val (.str (toS p))]=none∧ZK [.val (.str (toS p))]=some (.val (.lst (tL (Zj 47 p)))))∧(¬ (Zj 47 p).length≤4→Z7 [.val (.str (toS p))]=some noT):=by
 obtain ⟨h1,h2⟩:=ZgY p hp "/" 47 ZqS (by decide)
 have hl:=Zfb (Zj 47 p)
 have c:gtD (.int ((Zj 47 p).length:Int)) (.int 4)=some (.bl (!decide ((Zj 47 p).length≤4))):=by
  show some (D.bl (decide ((4:Int)<((Zj 47 p).length:Int))))=_
  congr 2
  rw [← decide_not]
  exact decide_eq_decide.mpr (by omega)
 have hX:Z7 [.val (.str (toS p))]=ZaD [.val (.str (toS p)),.no]:=fnx (np:=1) (ss:=[.val (.str (toS p))]) rfl
 rw [hX]
 constructor
 ·intro h
  rw [decide_eq_true h] at c
  constructor
  ·simp only [ZaD,orX,nxO,Z4,ZbV,Zu,asB,Zd,rdP,rdV,rdA,Zr,ZD,Zb,Zi,pks,pk,List.getElem?_cons_succ,List.getElem?_cons_zero,List.set_cons_succ,List.set_cons_zero,Option.bind,Option.map,h1,h2,Z0,hl,c,Bool.not_true]
  ·refine Zap rfl ?_
   show ZcA [.val (.str (toS p)),.no]=_
   simp only [ZcA,Zo,ZH,Zz,Zu,asB,Zd,rdP,rdV,rdA,Zr,ZD,Zb,Zi,pks,pk,List.getElem?_cons_succ,List.getElem?_cons_zero,List.set_cons_succ,List.set_cons_zero,Option.bind,Option.map,h2,Z0,hl,c,Bool.not_true]
 ·intro h
  rw [decide_eq_false h] at c
  simp only [ZaD,orX,nxO,Z4,ZbV,Zu,asB,Zd,rdP,rdV,rdA,Zr,ZD,Zb,Zi,pks,pk,List.getElem?_cons_succ,List.getElem?_cons_zero,List.set_cons_succ,List.set_cons_zero,Option.bind,Option.map,h1,h2,Z0,hl,c,Bool.not_false,noT]
theorem ZoO (d:D) (hi:isD [d,.ty "str"]=some (.bl false)):Z7 [.val d]=some noT:=by
 have h1:=Zg5 d "/" hi
 refine (show Z7 [.val d]=ZaD [.val d,.no] from fnx (np:=1) (ss:=[.val d]) rfl).trans ?_
 simp only [ZaD,orX,rdA,Zb,Zi,List.getElem?_cons_succ,List.getElem?_cons_zero,Option.bind,Option.map,h1]
theorem Zfk {F:List Sl→Option Rv} {X:List Sl→Option Str} {ok:List Nat→Bool} (R:Rd F X ok) {C:VE→Option D} {E:VE→Option Str} (hC:C=Zr F (fun ρ=>Zb (rdA ρ 0) (some []))) (hE:E=fun ρ=>(Zb (rdA ρ 0) (some [])).bind X) :
  ∀ ps:List (List Nat),(∀ p∈ps,p.length≤100)→(ps.all ok=true→Zbf (ZF 0) C E [.no] (tL ps)=none∧∃ ds,Za7 (ZF 0) (fun _=>some true) C [.no] (tL ps)=some ds∧ds.length=ps.length)∧(ps.all ok=false→Zbf (ZF 0) C E [.no] (tL ps)=some noT)
 | [],_=>⟨fun _=>⟨rfl,[],rfl,rfl⟩,fun h=>by cases h⟩
 | p::ps,h=>by
  obtain ⟨i1,i2⟩:=Zfk R hC hE ps fun q hq=>h q (List.mem_cons_of_mem _ hq)
  obtain ⟨r1,r2⟩:=R p (h p List.mem_cons_self)
  have hb:ZF 0 (.str (toS p)) [.no]=some [.val (.str (toS p))]:=rfl
  have hEe:E [.val (.str (toS p))]=X [.val (.str (toS p))]:=by rw [hE];rfl
  have e1:tL (p::ps)=.str (toS p)::tL ps:=rfl
  rw [e1,List.all_cons]
  simp only [Zbf,Za7,hb,hEe]
  cases hk:ok p with
  | false =>
   have r2:=r2 hk
   refine ⟨fun z=>(by cases z),fun _=>?_⟩
   rw [r2];rfl
  | true =>
   obtain ⟨rx,d,rf⟩:=r1 hk
   have hCe:C [.val (.str (toS p))]=some d:=by
    rw [hC]
    simp only [Zr,rdA,Zb,List.getElem?_cons_zero,Option.bind,Option.map,rf,Z0]
   rw [rx,hCe]
   refine ⟨fun z=>?_,fun z=>?_⟩
   ·obtain ⟨a,ds,b,c⟩:=i1 (by simpa using z)
    refine ⟨a,d::ds,?_,by rw [List.length_cons,List.length_cons,c]⟩
    rw [b];rfl
   ·exact i2 (by simpa using z)
def ZM (ok:List Nat→Bool) (p:List Nat):Bool:=decide ((Zj 47 p).length≤4)&&(Zj 47 p).all ok
theorem Zi9 (ps:List (List Nat)) (h:ps.length≤101):Zy ((some (D.lst (tL ps))).bind ZL)=some (tL ps):=Zex _ (by rw [tL,List.length_map];omega)
theorem ZgR {ok:List Nat→Bool} {C:VE→Option D} {E:VE→Option Str} {F:List Sl→Option Rv} {X:List Sl→Option Str}
  (cr:∀ ps:List (List Nat),(∀ p∈ps,p.length≤100)→(ps.all ok=true→Zbf (ZF 0) C E [.no] (tL ps)=none∧∃ ds,Za7 (ZF 0) (fun _=>some true) C [.no] (tL ps)=some ds∧ds.length=ps.length)∧(ps.all ok=false→Zbf (ZF 0) C E [.no] (tL ps)=some noT))
  (hX:∀ s:Sl,X [s]=(fun ρ=>orX (orX ((Zb (rdA ρ 0) (some [])).bind Z7) ((Zy (((Zr ZK (fun ρ=>Zb (rdA ρ 0) (some []))) ρ).bind ZL)).bind (Zbf (ZF 0) C E (ZS 1 [] ρ)))) (Zcc (ZC ((ZZ 1 [] (fun ρ=>((Zr ZK (fun ρ=>Zb (rdA ρ 0) (some []))) ρ).bind ZL) (ZF 0) (fun _=>some true) C) ρ)) (none))) [s])
  (hF:F=fnP 1 1 (fun ρ=>Zo (Zz ((ZD Zf8 (fun ρ=>Zb (Zi (ZC ((ZZ 1 [] (fun ρ=>((Zr ZK (fun ρ=>Zb (rdA ρ 0) (some []))) ρ).bind ZL) (ZF 0) (fun _=>some true) C) ρ))) (some []))) ρ)) (fun ρ=>.next ρ))) :
  Rd F X (ZM ok)∧∀ d,isD [d,.ty "str"]=some (.bl false)→X [.val d]=some noT:=by
 refine ⟨fun p hp=>?_,fun d hd=>?_⟩
 ·rw [hX]
  obtain ⟨f1,f2⟩:=ZoI p hp
  have hl:=splitL_len (c:=47) (L:=p)
  obtain ⟨c1,c2⟩:=cr (Zj 47 p) fun q hq=>Nat.le_trans (hl.2 q hq) hp
  have hin:∀ ρ:VE,ZS 1 [] ρ=[.no]:=fun _=>rfl
  have hsq:=Zi9 (Zj 47 p) (by omega)
  unfold ZM
  by_cases h4:(Zj 47 p).length≤4
  ·obtain ⟨fx,ff⟩:=f1 h4
   rw [decide_eq_true h4,Bool.true_and]
   cases hk:(Zj 47 p).all ok with
   | true =>
    obtain ⟨x1,ds,x2,x3⟩:=c1 hk
    refine ⟨fun _=>⟨?_,.tup ds,?_⟩,fun z=>(by cases z)⟩
    ·simp only [orX,Zcc,rdA,Zr,Zb,ZC,ZZ,hin,List.getElem?_cons_zero,Option.bind,Option.map,fx,ff,Z0] at hsq ⊢
     simp only [hsq,x1,x2]
    ·rw [hF]
     refine Zap rfl ?_
     show Zo (Zz ((ZD Zf8 (fun ρ=>Zb (Zi (ZC ((ZZ 1 [] (fun ρ=>((Zr ZK (fun ρ=>Zb (rdA ρ 0) (some []))) ρ).bind ZL) (ZF 0) (fun _=>some true) C) ρ))) (some []))) [.val (.str (toS p))])) (fun ρ=>.next ρ)=_
     simp only [Zo,Zz,ZD,Zf8,rdA,Zr,Zb,Zi,ZC,pks,pk,ZZ,hin,List.getElem?_cons_zero,List.cons_append,List.nil_append,Option.bind,Option.map,ff,Z0] at hsq ⊢
     simp only [hsq,x2]
     rfl
   | false =>
    have x1:=c2 hk
    refine ⟨fun z=>(by cases z),fun _=>?_⟩
    simp only [orX,Zcc,rdA,Zr,Zb,ZC,ZZ,hin,List.getElem?_cons_zero,Option.bind,Option.map,fx,ff,Z0] at hsq ⊢
    simp only [hsq,x1]
  ·have fx:=f2 h4
   rw [decide_eq_false h4,Bool.false_and]
   refine ⟨fun z=>(by cases z),fun _=>?_⟩
   simp only [orX,rdA,Zb,List.getElem?_cons_zero,Option.bind,Option.map,fx]
 ·rw [hX]
  have fx:=ZoO d hd
  simp only [orX,rdA,Zb,List.getElem?_cons_zero,Option.bind,Option.map,fx]
theorem rdKey:Rd Zeh Zdd (ZM Za1)∧∀ d,isD [d,.ty "str"]=some (.bl false)→Zdd [.val d]=some noT :=
 ZgR (Zfk Zot (C:=Zdv) (E:=Zgk) rfl rfl) (fun s=>fnx (np:=1) (ss:=[s]) rfl) rfl
theorem rdLine:Rd Zb9 Zb7 (ZM okVal)∧∀ d,isD [d,.ty "str"]=some (.bl false)→Zb7 [.val d]=some noT :=
 ZgR (Zfk Zon (C:=ZcN) (E:=ZfP) rfl rfl) (fun s=>fnx (np:=1) (ss:=[s]) rfl) rfl
theorem rdGrain:Rd Zc5 Zcn (ZM ZaB)∧∀ d,isD [d,.ty "str"]=some (.bl false)→Zcn [.val d]=some noT :=
 ZgR (Zfk ZmO (C:=Zcw) (E:=Zfr) rfl rfl) (fun s=>fnx (np:=1) (ss:=[s]) rfl) rfl
def Zeo (p:List Nat):Bool:=match Zj 32 p with
 | [a,b]=>ZM okVal a&&isWW b
 | _=>false
def Zb3 (p:List Nat):Bool:=match Zj 61 p with
 | [a,b]=>(match Zj 64 a with
  | [x,y]=>(Zj 44 b).all Za1&&(ZaB x&&ZaB y)
  | _=>false)
 | _=>false
theorem ZmJ (a:List Nat) (r:List (List Nat)):ixD (.lst (tL (a::r))) (.int 0)=some (.str (toS a)):=by
 show atI (tL (a::r)) ((0:Nat):Int)=_
 exact Zfn rfl
theorem Zmw (a b:List Nat) (r:List (List Nat)):ixD (.lst (tL (a::b::r))) (.int 1)=some (.str (toS b)):=by
 show atI (tL (a::b::r)) ((1:Nat):Int)=_
 exact Zfn rfl
theorem Zma (n:Nat):neO (.int (n:Int)) (.int 2)=some (.bl (!decide (n=2))):=by
 simp only [neO,Zer,okD,Zl2,Bool.and_self,if_true]
 congr 3
 exact decide_eq_decide.mpr (by omega)
theorem Zhe {α:Type} {l:List α} (h:l.length=2):∃ a b,l=[a,b]:=by
 match l,h with
 | [a,b],_=>exact ⟨a,b,rfl⟩
theorem ZpY (p:List Nat) (hp:p.length≤100) (h:Zeo p=false):ZbT [.val (.str (toS p))]=some noT:=by
 have s32:(Str.ofString " ")=⟨#[32]⟩:=by decide +kernel
 obtain ⟨h1,h2⟩:=ZgY p hp " " 32 s32 (by decide)
 have hl:=Zfb (Zj 32 p)
 have hb:=(splitL_len (c:=32) (L:=p)).2
 have c:=Zma (Zj 32 p).length
 refine (show ZbT [.val (.str (toS p))]=Zbw [.val (.str (toS p)),.no] from fnx (np:=1) (ss:=[.val (.str (toS p))]) rfl).trans ?_
 by_cases h4:(Zj 32 p).length=2
 ·rw [decide_eq_true h4] at c
  obtain ⟨a,b,e⟩:=Zhe h4
  unfold Zeo at h
  rw [e] at h h2 hl hb c
  have h:(ZM okVal a&&isWW b)=false:=h
  obtain ⟨la,na⟩:=rdLine.1 a (Nat.le_trans (hb a (by simp)) hp)
  obtain ⟨lb,nb⟩:=rdW b (Nat.le_trans (hb b (by simp)) hp)
  have i0:=ZmJ a [b]
  have i1:=Zmw a b []
  generalize tL [a,b]=T at *
  generalize (([a,b]:List (List Nat)).length:Int)=n at *
  cases ha:ZM okVal a with
  | false =>
   have na:=na ha
   simp only [Zbw,orX,nxO,Z4,ZbV,ZH,Zu,asB,Zd,rdP,rdV,rdA,Zr,ZD,Zb,Zi,pks,pk,List.getElem?_cons_succ,List.getElem?_cons_zero,List.set_cons_succ,List.set_cons_zero,Option.bind,Option.map,h1,h2,Z0,hl,c,Bool.not_true,i0,na]
  | true =>
   obtain ⟨xa,d,fa⟩:=la ha
   have nb:=nb (by simpa [ha] using h)
   simp only [Zbw,orX,Zcc,nxO,Z4,ZbV,ZH,Zu,asB,Zd,rdP,rdV,rdA,Zr,ZD,Zb,Zi,pks,pk,List.getElem?_cons_succ,List.getElem?_cons_zero,List.set_cons_succ,List.set_cons_zero,Option.bind,Option.map,h1,h2,Z0,hl,c,Bool.not_true,i0,i1,xa,fa,nb]
 ·rw [decide_eq_false h4] at c
  generalize tL (Zj 32 p)=T at *
  generalize ((Zj 32 p).length:Int)=n at *
  simp only [Zbw,orX,nxO,Z4,ZbV,Zu,asB,Zd,rdP,rdV,rdA,Zr,ZD,Zb,Zi,pks,pk,List.getElem?_cons_succ,List.getElem?_cons_zero,List.set_cons_succ,List.set_cons_zero,Option.bind,Option.map,h1,h2,Z0,hl,c,Bool.not_false,noT]
theorem Zpv (d:D) (hd:isD [d,.ty "str"]=some (.bl false)):ZbT [.val d]=some noT:=by
 have h1:=Zg5 d " " hd
 refine (show ZbT [.val d]=Zbw [.val d,.no] from fnx (np:=1) (ss:=[.val d]) rfl).trans ?_
 simp only [Zbw,orX,rdA,Zb,Zi,List.getElem?_cons_succ,List.getElem?_cons_zero,Option.bind,Option.map,h1]
theorem Zn7 (d:D) (hd:isD [d,.ty "str"]=some (.bl false)):ZbB [.val d]=some noT:=by
 have h1:=Zg5 d "=" hd
 refine (show ZbB [.val d]=ZaJ [.val d,.no,.no,.no] from fnx (np:=1) (ss:=[.val d]) rfl).trans ?_
 simp only [ZaJ,orX,rdA,Zb,Zi,List.getElem?_cons_succ,List.getElem?_cons_zero,Option.bind,Option.map,h1]
theorem Znu (p:List Nat) (hp:p.length≤100) (h:Zb3 p=false):ZbB [.val (.str (toS p))]=some noT:=by
 have s61:(Str.ofString "=")=⟨#[61]⟩:=by decide +kernel
 have s64:(Str.ofString "@")=⟨#[64]⟩:=by decide +kernel
 have s44:(Str.ofString ",")=⟨#[44]⟩:=by decide +kernel
 obtain ⟨h1,h2⟩:=ZgY p hp "=" 61 s61 (by decide)
 have hl:=Zfb (Zj 61 p)
 have hb:=(splitL_len (c:=61) (L:=p)).2
 have c:=Zma (Zj 61 p).length
 refine (show ZbB [.val (.str (toS p))]=ZaJ [.val (.str (toS p)),.no,.no,.no] from fnx (np:=1) (ss:=[.val (.str (toS p))]) rfl).trans ?_
 obtain ⟨a,r,e⟩:∃ a r,Zj 61 p=a::r:=by
  cases e:Zj 61 p with
  | nil=>exact absurd e (ZcX 61 p)
  | cons a r=>exact ⟨a,r,rfl⟩
 have ha:a.length≤100:=Nat.le_trans (hb a (by rw [e];simp)) hp
 have d1:=Zf9 a (c:=64) (by decide) ha
 rw [← s64] at d1
 have d1:Zb1 (toS a) [.str "@"]=some (.lst (tL (Zj 64 a))):=d1
 have hl2:=Zfb (Zj 64 a)
 have c2:=Zma (Zj 64 a).length
 have i0:=ZmJ a r
 by_cases h4:(Zj 61 p).length=2
 ·obtain ⟨a',b,e'⟩:=Zhe h4
  have e'':a'=a∧[b]=r:=by rw [e] at e';injection e' with x y;exact ⟨x.symm,y.symm⟩
  obtain ⟨rfl,rfl⟩:=e''
  rw [decide_eq_true h4] at c
  by_cases h5:(Zj 64 a').length=2
  ·rw [decide_eq_true h5] at c2
   obtain ⟨x,y,e2⟩:=Zhe h5
   have h:((Zj 44 b).all Za1&&(ZaB x&&ZaB y))=false:=by
    unfold Zb3 at h
    rw [e] at h
    simp only [e2] at h
    exact h
   have hbl:b.length≤100:=Nat.le_trans (hb b (by rw [e];simp)) hp
   have hb2:=(splitL_len (c:=64) (L:=a')).2
   rw [e2] at hb2
   obtain ⟨lx,nx⟩:=ZmO x (Nat.le_trans (hb2 x (by simp)) ha)
   obtain ⟨ly,ny⟩:=ZmO y (Nat.le_trans (hb2 y (by simp)) ha)
   have hb3:=splitL_len (c:=44) (L:=b)
   obtain ⟨lv,nv⟩:=Zfk Zot (C:=Zbh) (E:=Zd4) rfl rfl (Zj 44 b) fun q hq=>Nat.le_trans (hb3.2 q hq) hbl
   have d2:=Zf9 b (c:=44) (by decide) hbl
   rw [← s44] at d2
   have d2:Zb1 (toS b) [.str ","]=some (.lst (tL (Zj 44 b))):=d2
   have hsq:Zy (ZL (D.lst (tL (Zj 44 b))))=some (tL (Zj 44 b)):=Zi9 (Zj 44 b) (by omega)
   have i1:=Zmw a' b []
   have j0:=ZmJ x [y]
   have j1:=Zmw x y []
   have hin:∀ ρ:VE,ZS 1 [] ρ=[.no]:=fun _=>rfl
   rw [e] at h2 hl c
   rw [e2] at d1 hl2 c2
   generalize (Zj 44 b).all Za1=bv at *
   generalize tL (Zj 44 b)=Tv at *
   generalize tL [a',b]=T at *
   generalize tL [x,y]=T2 at *
   generalize (([a',b]:List (List Nat)).length:Int)=n at *
   generalize (([x,y]:List (List Nat)).length:Int)=n2 at *
   have Zcf:ZaJ [.val (.str (toS p)),.no,.no,.no]=orX ((some Tv).bind (Zbf (ZF 0) Zbh Zd4 [.no])) (nxO (Zu 3 (ZC ((some Tv).bind (Za7 (ZF 0) (fun _=>some true) Zbh [.no]))) [.val (.str (toS p)),.val (.lst T),.val (.lst T2),.no]) (fun ρ=>orX ((Zb (Zi ((Zd ixD (fun ρ=>rdP ρ 2) (fun _=>some (.int (0)))) ρ)) (some [])).bind ZaP) (Zcc ((Zr Zas (fun ρ=>Zb (Zi ((Zd ixD (fun ρ=>rdP ρ 2) (fun _=>some (.int (0)))) ρ)) (some []))) ρ) (orX ((Zb (Zi ((Zd ixD (fun ρ=>rdP ρ 2) (fun _=>some (.int (1)))) ρ)) (some [])).bind ZaP) (Zcc ((Zr Zas (fun ρ=>Zb (Zi ((Zd ixD (fun ρ=>rdP ρ 2) (fun _=>some (.int (1)))) ρ)) (some []))) ρ) (orX (none) (Zcc (rdV ρ 3) (none)))))))):=by
    simp only [ZaJ,orX,nxO,Z4,ZbV,orB,ZH,Zu,asB,mtO,Zd,rdP,rdV,rdA,Zr,ZD,Zb,Zi,pks,pk,ZZ,hin,List.getElem?_cons_succ,List.getElem?_cons_zero,List.set_cons_succ,List.set_cons_zero,Option.bind,Option.map,h1,h2,Z0,hl,hl2,c,c2,d1,d2,Bool.not_true,i0,i1,hsq]
   rw [Zcf]
   cases bv with
   | false =>
    have nv:=nv rfl
    simp only [orX,Option.bind,nv]
   | true =>
    obtain ⟨xv,ds,fv,_⟩:=lv rfl
    cases hx:ZaB x with
    | false =>
     have nx:=nx hx
     simp only [orX,nxO,Zu,ZC,Zd,rdP,rdV,Zb,Zi,List.getElem?_cons_succ,List.getElem?_cons_zero,List.set_cons_succ,List.set_cons_zero,Option.bind,Option.map,xv,fv,j0,nx]
    | true =>
     obtain ⟨xx,dx,fx⟩:=lx hx
     have ny:=ny (by simpa [hx] using h)
     simp only [orX,Zcc,nxO,Zu,ZC,Zd,rdP,rdV,Zr,Zb,Zi,List.getElem?_cons_succ,List.getElem?_cons_zero,List.set_cons_succ,List.set_cons_zero,Option.bind,Option.map,xv,fv,j0,j1,xx,fx,Z0,ny]
  ·rw [decide_eq_false h5] at c2
   rw [e] at h2 hl c
   generalize tL [a',b]=T at *
   generalize tL (Zj 64 a')=T2 at *
   generalize (([a',b]:List (List Nat)).length:Int)=n at *
   generalize ((Zj 64 a').length:Int)=n2 at *
   simp only [ZaJ,orX,nxO,Z4,ZbV,orB,Zu,asB,mtO,Zd,rdP,rdV,rdA,Zr,ZD,Zb,Zi,pks,pk,List.getElem?_cons_succ,List.getElem?_cons_zero,List.set_cons_succ,List.set_cons_zero,Option.bind,Option.map,h1,h2,Z0,hl,hl2,c,c2,d1,Bool.not_true,Bool.not_false,i0,noT]
 ·rw [decide_eq_false h4] at c
  rw [e] at h2 hl c
  generalize tL (a::r)=T at *
  generalize tL (Zj 64 a)=T2 at *
  generalize ((a::r).length:Int)=n at *
  generalize ((Zj 64 a).length:Int)=n2 at *
  simp only [ZaJ,orX,nxO,Z4,ZbV,orB,Zu,asB,mtO,Zd,rdP,rdV,rdA,Zr,ZD,Zb,Zi,pks,pk,List.getElem?_cons_succ,List.getElem?_cons_zero,List.set_cons_succ,List.set_cons_zero,Option.bind,Option.map,h1,h2,Z0,hl,hl2,c,c2,d1,Bool.not_false,i0,noT]
def okW:Nat→List Nat→Bool
 | 0=>ZM Za1
 | 1=>ZM okVal
 | 2=>ZM ZaB
 | 3=>Zb3
 | _=>Zeo
def Bad (w:Nat) (d:D):Prop:=isD [d,.ty "str"]=some (.bl false)∨∃ p,d=.str (toS p)∧p.length≤100∧okW w p=false
theorem ZiR (a b:Int):eqO (.int a) (.int b)=some (.bl (decide (a=b))):=by
 simp only [eqO,Zer,okD,Zl2,Bool.and_self,if_true]
theorem ZnW (w:Nat) (hw:w<5) (d:D) (h:Bad w d):Zel [.val (.int (w:Int)),.val d]=some noT:=by
 refine (show Zel [.val (.int (w:Int)),.val d]=Zbq [.val (.int (w:Int)),.val d] from fnx (np:=2) (ss:=[.val (.int (w:Int)),.val d]) rfl).trans ?_
 have e:∀ b:Int,eqO (.int (w:Int)) (.int b)=some (.bl (decide ((w:Int)=b))):=fun b=>ZiR _ _
 match w,hw,h,e with
 | 0,_,h,e =>
  have x:Zdd [.val d]=some noT:=by
   rcases h with h | ⟨p,rfl,hp,h⟩
   ·exact rdKey.2 d h
   ·exact (rdKey.1 p hp).2 h
  have e0:eqO (.int ((0:Nat):Int)) (.int 0)=some (.bl true):=e 0
  simp only [Zbq,orX,Z4,asB,Zd,rdP,rdA,Zb,List.getElem?_cons_succ,List.getElem?_cons_zero,Option.bind,Option.map,e0,x]
 | 1,_,h,e =>
  have x:Zb7 [.val d]=some noT:=by
   rcases h with h | ⟨p,rfl,hp,h⟩
   ·exact rdLine.2 d h
   ·exact (rdLine.1 p hp).2 h
  have e0:eqO (.int ((1:Nat):Int)) (.int 0)=some (.bl false):=e 0
  have e1:eqO (.int ((1:Nat):Int)) (.int 1)=some (.bl true):=e 1
  simp only [Zbq,orX,nxO,ZH,Z4,asB,Zd,rdP,rdA,Zb,List.getElem?_cons_succ,List.getElem?_cons_zero,Option.bind,Option.map,e0,e1,x]
 | 2,_,h,e =>
  have x:Zcn [.val d]=some noT:=by
   rcases h with h | ⟨p,rfl,hp,h⟩
   ·exact rdGrain.2 d h
   ·exact (rdGrain.1 p hp).2 h
  have e0:eqO (.int ((2:Nat):Int)) (.int 0)=some (.bl false):=e 0
  have e1:eqO (.int ((2:Nat):Int)) (.int 1)=some (.bl false):=e 1
  have e2:eqO (.int ((2:Nat):Int)) (.int 2)=some (.bl true):=e 2
  simp only [Zbq,orX,nxO,ZH,Z4,asB,Zd,rdP,rdA,Zb,List.getElem?_cons_succ,List.getElem?_cons_zero,Option.bind,Option.map,e0,e1,e2,x]
 | 3,_,h,e =>
  have x:ZbB [.val d]=some noT:=by
   rcases h with h | ⟨p,rfl,hp,h⟩
   ·exact Zn7 d h
   ·exact Znu p hp h
  have e0:eqO (.int ((3:Nat):Int)) (.int 0)=some (.bl false):=e 0
  have e1:eqO (.int ((3:Nat):Int)) (.int 1)=some (.bl false):=e 1
  have e2:eqO (.int ((3:Nat):Int)) (.int 2)=some (.bl false):=e 2
  have e3:eqO (.int ((3:Nat):Int)) (.int 3)=some (.bl true):=e 3
  simp only [Zbq,orX,nxO,ZH,Z4,asB,Zd,rdP,rdA,Zb,List.getElem?_cons_succ,List.getElem?_cons_zero,Option.bind,Option.map,e0,e1,e2,e3,x]
 | 4,_,h,e =>
  have x:ZbT [.val d]=some noT:=by
   rcases h with h | ⟨p,rfl,hp,h⟩
   ·exact Zpv d h
   ·exact ZpY p hp h
  have e0:eqO (.int ((4:Nat):Int)) (.int 0)=some (.bl false):=e 0
  have e1:eqO (.int ((4:Nat):Int)) (.int 1)=some (.bl false):=e 1
  have e2:eqO (.int ((4:Nat):Int)) (.int 2)=some (.bl false):=e 2
  have e3:eqO (.int ((4:Nat):Int)) (.int 3)=some (.bl false):=e 3
  simp only [Zbq,orX,nxO,ZH,Z4,asB,Zd,rdP,rdA,Zb,List.getElem?_cons_succ,List.getElem?_cons_zero,Option.bind,Option.map,e0,e1,e2,e3,x]
theorem ZfA (w:Nat) (hw:w<5) (d:D) (h:Bad w d):Zd6 [.val (.int (w:Int)),.val d]=some (.val (.bl true)):=by
 have x:=ZnW w hw d h
 refine Zap rfl ?_
 show ZcO [.val (.int (w:Int)),.val d,.no,.no]=_
 have hc:CS.contains noT=true:=by decide +kernel
 have f:ZU "NoGrain" noT=false∧ZU "NoLadder" noT=false∧ZU "NoPick" noT=false∧ZU "NoRow" noT=false∧ZU "NoSuch" noT=false∧ZU "NoValue" noT=false∧ZU "TooMuch" noT=false∧ZU "NoText" noT=true∧ZU "ValueError" noT=true:=by decide +kernel
 obtain ⟨f1,f2,f3,f4,f5,f6,f7,f8,f9⟩:=f
 have hh:Zde [.val (.int (w:Int)),.val d,.exc noT,.no]=.ret (.val (.bl true)):=by
  have hm:noT∈CS:=by decide +kernel
  simp [Zde,-Zy,-Zq,Zex,ZcR,hm,f1,f2,f3,f4,f5,f6,f7,f8,f9]
  rfl
 simp only [ZcO,ZkR,Zo,Zpt,rdA,Zb,List.getElem?_cons_succ,List.getElem?_cons_zero,List.set_cons_succ,List.set_cons_zero,Option.bind,Option.map,x,hc,if_true,hh]
def up (c:Nat):Nat:=if 97≤c∧c≤122 then c-32 else c
structure IsW (W:List Nat):Prop where
 gw:GW W
 len:W.length≤12
structure IsN (N:List Nat):Prop where
 ex:∃ m,m<10^30∧(N=dg m∨N=45::dg m)
theorem IsN.len {N:List Nat} (h:IsN N):N.length≤31:=by
 obtain ⟨m,hm,h⟩:=h.ex
 have:=Ze8 30 m (by omega) hm
 rcases h with rfl | rfl
 ·omega
 ·rw [List.length_cons];omega
theorem IsN.signs {N:List Nat} (h:IsN N):∀ c∈N,c=45∨(48≤c∧c≤57):=by
 obtain ⟨m,hm,h⟩:=h.ex
 intro c hc
 rcases h with rfl | rfl
 ·exact .inr (Zcp m c hc)
 ·rcases List.mem_cons.mp hc with rfl | hc
  ·exact .inl rfl
  ·exact .inr (Zcp m c hc)
theorem IsN.fgs {N:List Nat} (h:IsN N):∃ m,m<10^30∧fgs N=dg m∧(N=dg m∨N=45::dg m):=by
 obtain ⟨m,hm,h⟩:=h.ex
 refine ⟨m,hm,?_,h⟩
 rcases h with rfl | rfl
 ·unfold K82.fgs
  refine if_neg fun z=>?_
  have:=Zcp m 45 (by rw [List.head?_eq_getElem?] at z;exact List.mem_of_getElem? z)
  omega
 ·rfl
theorem IsN.flen {N:List Nat} (h:IsN N):(K82.fgs N).length≤30:=by
 obtain ⟨m,hm,e,_⟩:=h.fgs
 rw [e]
 exact Ze8 30 m (by omega) hm
theorem IsW.signs {W:List Nat} (h:IsW W):∀ c∈W,(48≤c∧c≤57)∨(97≤c∧c≤122):=fun c hc=>Zj8 (List.all_eq_true.mp h.gw.2 c hc)
theorem Zd3 (A B:List Nat) (h:A.length+B.length≤1000):Zq (.str (toS A)) (.str (toS B))=some (.str (toS (A++B))):=by
 rw [ZfC _ _ (by rw [Zai,Zai];omega),Zia]
theorem Zi7 (A B:List (List Nat)) (h:A.length+B.length≤1000):Zq (.lst (tL A)) (.lst (tL B))=some (.lst (tL (A++B))):=by
 rw [ZcR _ _ (by simp only [tL,List.length_map];omega)]
 simp [tL]
theorem Zho {g:Nat→Bool} {L:List Nat} (h:∀ c∈L,g c=false):L.takeWhile g=[]:=by
 cases L with
 | nil=>rfl
 | cons c r=>rw [List.takeWhile_cons,h c List.mem_cons_self];rfl
theorem ZlM {N:List Nat} (h:IsN N):Zes (toS N) [.str (toS [45])]=some (.str (toS (fgs N))):=by
 have hz:(toS N).length≤sizeLine:=by rw [Zai];exact Nat.le_trans h.len (by decide)
 simp only [Zes]
 rw [if_pos hz]
 congr 2
 obtain ⟨m,hm,e,hN⟩:=h.fgs
 rw [e]
 have hg:∀ c∈dg m,(toS [45]).cps.contains c=false:=fun c hc=>by
  have:=Zcp m c hc
  have:¬ (c=45):=by omega
  simp [toS,this]
 have hgr:∀ c∈(dg m).reverse,(toS [45]).cps.contains c=false:=fun c hc=>hg c (List.mem_reverse.mp hc)
 rw [Txt.stripChars,PyProof.Rows.stripBy_eq]
 rcases hN with rfl | rfl
 ·have hlo:stripLo (toS [45]).cps.contains true (toS (dg m))=0:=by
   unfold stripLo
   rw [if_pos rfl,Zbo,Zho hg];rfl
  have hhi:stripHi (toS [45]).cps.contains true (toS (dg m)) 0=(dg m).length:=by
   unfold stripHi
   rw [if_pos rfl,Zbo,List.drop_zero,Zho hgr,Zai];rfl
  rw [hlo,hhi]
  refine ZaC ?_
  show ((toS (dg m)).cps.extract 0 (dg m).length).toList=_
  simp [toS]
 ·have hlo:stripLo (toS [45]).cps.contains true (toS (45::dg m))=1:=by
   unfold stripLo
   rw [if_pos rfl,Zbo,List.takeWhile_cons,show (toS [45]).cps.contains 45=true from by decide +kernel]
   simp only [if_true]
   rw [Zho hg];rfl
  have hhi:stripHi (toS [45]).cps.contains true (toS (45::dg m)) 1=(dg m).length+1:=by
   unfold stripHi
   rw [if_pos rfl,Zbo,List.drop_one,List.tail_cons,Zho hgr,Zai];rfl
  rw [hlo,hhi]
  refine ZaC ?_
  show ((toS (45::dg m)).cps.extract 1 ((dg m).length+1)).toList=_
  simp [toS]
theorem ZpG:∀ c∈List.range 128,Txt.upper (toS [c])=toS [up c]:=by decide +kernel
theorem ZoC (a b:Str):Txt.upper (a++b)=Txt.upper a++Txt.upper b:=by
 refine ZaC ?_
 rw [Zcb]
 show (placed (a++b) fun _ c=>Unicode.upperOf c).toList=(placed a fun _ c=>Unicode.upperOf c).toList++(placed b fun _ c=>Unicode.upperOf c).toList
 unfold placed
 rw [show (a++b).cps=a.cps++b.cps from rfl,Array.mapIdx_append,Array.flatten_append,Array.toList_append]
theorem Znr:∀ W:List Nat,(∀ c∈W,c<128)→Txt.upper (toS W)=toS (W.map up)
 | [],_=>by decide +kernel
 | c::r,h=>by
  rw [show toS (c::r)=toS [c]++toS r from (Zia [c] r).symm,ZoC,ZpG c (List.mem_range.mpr (h c List.mem_cons_self)),Znr r fun x hx=>h x (List.mem_cons_of_mem _ hx),Zia]
  rfl
theorem ZpO {W:List Nat} (h:IsW W):Zgp (toS W) []=some (.str (toS (W.map up))):=by
 have e:=Znr W fun c hc=>by have:=h.signs c hc;omega
 have hz:Builtin.Str.tooLong (Txt.upper (toS W)).length=false:=by
  rw [e,Zai,List.length_map]
  refine decide_eq_false fun z=>?_
  have h1:=h.len
  have h2:sizeLine≤12:=by omega
  exact absurd h2 (by decide)
 simp only [Zgp]
 rw [if_pos hz,e]
theorem Zrb (A:List Nat) (h:A.length≤1000) (h2:13≤A.length):slD (.str (toS A)) none (some 13)=some (.str (toS (A.take 13))):=by
 show (if (toS A).length≤sizeLine then some (D.str (Txt.slice (toS A) none (some 13))) else none)=_
 rw [if_pos (by rw [Zai];exact Nat.le_trans h (by decide))]
 congr 2
 exact ZaC (Zni (toS A) 13 h2)
theorem Zqv:Zej (.str (toS [49])) (.int 61)=some (.str (toS (List.replicate 61 49))):=by
 simp only [Zej]
 rw [if_pos (by decide +kernel)]
 congr 2
theorem Zqr:Zej (.str (toS [57])) (.int 61)=some (.str (toS (List.replicate 61 57))):=by
 simp only [Zej]
 rw [if_pos (by decide +kernel)]
 congr 2
theorem q0:Str.ofString ""=toS []:=by decide +kernel
theorem q1:Str.ofString " "=toS [32]:=by decide +kernel
theorem q2:Str.ofString "*"=toS [42]:=by decide +kernel
theorem q3:Str.ofString ","=toS [44]:=by decide +kernel
theorem q4:Str.ofString "-"=toS [45]:=by decide +kernel
theorem q5:Str.ofString "."=toS [46]:=by decide +kernel
theorem q6:Str.ofString "/"=toS [47]:=by decide +kernel
theorem q7:Str.ofString "0"=toS [48]:=by decide +kernel
theorem q8:Str.ofString "1"=toS [49]:=by decide +kernel
theorem q9:Str.ofString "9"=toS [57]:=by decide +kernel
theorem q10:Str.ofString ";"=toS [59]:=by decide +kernel
theorem q11:Str.ofString "="=toS [61]:=by decide +kernel
theorem q12:Str.ofString "@"=toS [64]:=by decide +kernel
theorem q13:Str.ofString "_"=toS [95]:=by decide +kernel
theorem q14:Str.ofString "  "=toS [32,32]:=by decide +kernel
theorem q15:Str.ofString " *"=toS [32,42]:=by decide +kernel
theorem q16:Str.ofString " /"=toS [32,47]:=by decide +kernel
theorem q17:Str.ofString " 5"=toS [32,53]:=by decide +kernel
theorem q18:Str.ofString "* "=toS [42,32]:=by decide +kernel
theorem q19:Str.ofString "**"=toS [42,42]:=by decide +kernel
theorem q20:Str.ofString "*/"=toS [42,47]:=by decide +kernel
theorem q21:Str.ofString "+1"=toS [43,49]:=by decide +kernel
theorem q22:Str.ofString ", "=toS [44,32]:=by decide +kernel
theorem q23:Str.ofString "--"=toS [45,45]:=by decide +kernel
theorem q24:Str.ofString "-0"=toS [45,48]:=by decide +kernel
theorem q25:Str.ofString "-1"=toS [45,49]:=by decide +kernel
theorem q26:Str.ofString "/ "=toS [47,32]:=by decide +kernel
theorem q27:Str.ofString "/*"=toS [47,42]:=by decide +kernel
theorem q28:Str.ofString "//"=toS [47,47]:=by decide +kernel
theorem q29:Str.ofString "0/"=toS [48,47]:=by decide +kernel
theorem q30:Str.ofString "00"=toS [48,48]:=by decide +kernel
theorem q31:Str.ofString "0="=toS [48,61]:=by decide +kernel
theorem q32:Str.ofString " -0"=toS [32,45,48]:=by decide +kernel
theorem q33:Str.ofString "-00"=toS [45,48,48]:=by decide +kernel
theorem q34:Str.ofString "/*/"=toS [47,42,47]:=by decide +kernel
theorem q35:Str.ofString "/-2"=toS [47,45,50]:=by decide +kernel
theorem q36:Str.ofString "0@1"=toS [48,64,49]:=by decide +kernel
theorem q37:Str.ofString "0@="=toS [48,64,61]:=by decide +kernel
theorem q38:Str.ofString "1/*"=toS [49,47,42]:=by decide +kernel
theorem q39:Str.ofString "@1="=toS [64,49,61]:=by decide +kernel
theorem q40:Str.ofString "*@0="=toS [42,64,48,61]:=by decide +kernel
theorem q41:Str.ofString "////"=toS [47,47,47,47]:=by decide +kernel
theorem q42:Str.ofString "0@1="=toS [48,64,49,61]:=by decide +kernel
theorem q43:Str.ofString "1/-1"=toS [49,47,45,49]:=by decide +kernel
theorem q44:Str.ofString "@0=1"=toS [64,48,61,49]:=by decide +kernel
theorem q45:Str.ofString "None"=toS [78,111,110,101]:=by decide +kernel
theorem q46:Str.ofString "-1@0="=toS [45,49,64,48,61]:=by decide +kernel
theorem q47:Str.ofString "/1/2/"=toS [47,49,47,50,47]:=by decide +kernel
theorem q48:Str.ofString "0 @1="=toS [48,32,64,49,61]:=by decide +kernel
theorem q49:Str.ofString "00@1="=toS [48,48,64,49,61]:=by decide +kernel
theorem q50:Str.ofString "0@-1="=toS [48,64,45,49,61]:=by decide +kernel
theorem q51:Str.ofString "0@01="=toS [48,64,48,49,61]:=by decide +kernel
theorem q52:Str.ofString "0@1=,"=toS [48,64,49,61,44]:=by decide +kernel
theorem q53:Str.ofString "0@1@2="=toS [48,64,49,64,50,61]:=by decide +kernel
theorem q54:Str.ofString "/a/b/c/d "=toS [47,97,47,98,47,99,47,100,32]:=by decide +kernel
theorem q55:Str.ofString "0/0/0/0/0"=toS [48,47,48,47,48,47,48,47,48]:=by decide +kernel
theorem q56:Str.ofString "aaaaaaaaaaaa"=toS [97,97,97,97,97,97,97,97,97,97,97,97]:=by decide +kernel
theorem q57:Str.ofString "!#$&()+.:;<>?ABCXYZ\x5b]_^{}~|\n\t"=toS [33,35,36,38,40,41,43,46,58,59,60,62,63,65,66,67,88,89,90,91,93,95,94,123,125,126,124,10,9]:=by decide +kernel
def ZJ (W N:List Nat):List (List Nat):=[[],[48,48],[45,48],[45],[43,49],([45,45]++fgs N),([48]++fgs N),[45,48,48],(N++[45])]++[(N++W),W.map up,(W++[95]),((W++[97,97,97,97,97,97,97,97,97,97,97,97]).take 13),List.replicate 61 49,([45]++List.replicate 61 57)]++[([32]++W),(W++[32]),[42,42],([42]++W),((W++[46])++W),[78,111,110,101],((N++[32])++N)]
def places (W N:List Nat):List (List Nat):=[(W++[47]),([47]++N),((W++[47,47])++N),((((W++[47])++W)++[47,49,47,50,47])++N),[47],[47,47,47,47]]++[((W++[47,32])++N),((W++[44])++N),((W++[32,47])++N)]
def Zem (W N:List Nat):List (List Nat):=[[48,64,49],([48,61]++W),[48,64,49,61],([64,49,61]++W),([48,64,61]++W),([45,49,64,48,61]++W),([48,64,45,49,61]++W),(W++[64,48,61,49])]++[(([48,64,49,61]++W)++[44]),([48,64,49,61,44]++N),((([48,64,49,61]++W)++[44,32])++W),((([48,64,49,61]++W)++[61])++W)]++[([48,64,49,64,50,61]++W),((([48,64,49,61]++W)++[59])++W),([48,32,64,49,61]++W),([48,48,64,49,61]++W),([48,64,48,49,61]++W),[61]]++[[64],[],((([48,64,49,61]++W)++[47])++W),([42,64,48,61]++W),(([48,64,49,61]++N)++[32])]
def Zft (W N:List Nat):List (List Nat):=[W,(W++[32]),([32]++N),([42,32]++N),((W++[32,32])++N),(((W++[32])++N)++[32]),[]]++[((((W++[47,42,47])++W)++[32])++N),((((W++[32])++N)++[32])++N),(W++[32,42]),[32]]++[(W++[32,45,48]),((W++[32])++W),((W++[47,32])++N),((W++[47,97,47,98,47,99,47,100,32])++N)]
theorem Znj {W:List Nat} (hW:IsW W):1≤W.length:=by
 obtain ⟨c,r,e,_⟩:=hW.gw.1
 rw [e];simp
theorem Zbk {α:Type} (l:List α) (h:l.length≤1000000):Zy (some l)=some l:=Zex l h
theorem ZlE {W N:List Nat} (hW:IsW W) (hN:IsN N):ZbW [.val (.str (toS W)),.val (.str (toS N))]=some (.val (.lst (tL (ZJ W N)))):=by
 have lw:=hW.len
 have ln:=hN.len
 have lf:=hN.flen
 have st:=ZlM hN
 have ut:=ZpO hW
 have w1:=Znj hW
 refine Zap rfl ?_
 show ZbX [.val (.str (toS W)),.val (.str (toS N)),.no]=_
 simp (disch:=((try simp only [List.length_append,List.length_cons,List.length_nil,List.length_replicate]);omega)) only [ZbX,q0,q1,q2,q3,q4,q5,q6,q7,q8,q9,q10,q11,q12,q13,q14,q15,q16,q17,q18,q19,q20,q21,q22,q23,q24,q25,q26,q27,q28,q29,q30,q31,q32,q33,q34,q35,q36,q37,q38,q39,q40,q41,q42,q43,q44,q45,q46,q47,q48,q49,q50,q51,q52,q53,q54,q55,q56,q57,Zo,Zu,Zz,ZC,ZP,Zbk,ZcR,Zd,mtO,ZkC,sl3,asI,rdP,rdV,Zb,Zi,pks,pk,Zd3,st,ut,Zrb,Zqv,Zqr,List.set_cons_succ,List.set_cons_zero,List.getElem?_cons_succ,List.getElem?_cons_zero,Option.bind,Option.map]
 rfl
theorem Zlv {W N:List Nat} (hW:IsW W) (hN:IsN N):ZcS [.val (.str (toS W)),.val (.str (toS N))]=some (.val (.lst (tL (places W N)))):=by
 have lw:=hW.len
 have ln:=hN.len
 refine Zap rfl ?_
 show ZbY [.val (.str (toS W)),.val (.str (toS N)),.no]=_
 simp (disch:=((try simp only [List.length_append,List.length_cons,List.length_nil,List.length_replicate]);omega)) only [ZbY,q0,q1,q2,q3,q4,q5,q6,q7,q8,q9,q10,q11,q12,q13,q14,q15,q16,q17,q18,q19,q20,q21,q22,q23,q24,q25,q26,q27,q28,q29,q30,q31,q32,q33,q34,q35,q36,q37,q38,q39,q40,q41,q42,q43,q44,q45,q46,q47,q48,q49,q50,q51,q52,q53,q54,q55,q56,q57,Zo,Zu,Zz,ZC,ZP,Zbk,ZcR,Zd,rdP,rdV,Zb,Zi,pks,pk,Zd3,List.set_cons_succ,List.set_cons_zero,List.getElem?_cons_succ,List.getElem?_cons_zero,Option.bind,Option.map]
 rfl
theorem Zml {W N:List Nat} (hW:IsW W) (hN:IsN N):Zdj [.val (.str (toS W)),.val (.str (toS N))]=some (.val (.lst (tL (Zem W N)))):=by
 have lw:=hW.len
 have ln:=hN.len
 refine Zap rfl ?_
 show ZcH [.val (.str (toS W)),.val (.str (toS N)),.no]=_
 simp (disch:=((try simp only [List.length_append,List.length_cons,List.length_nil,List.length_replicate]);omega)) only [ZcH,Zeb,Zed,Zd7,Zd8,Zea,Zec,Zd9,q0,q1,q2,q3,q4,q5,q6,q7,q8,q9,q10,q11,q12,q13,q14,q15,q16,q17,q18,q19,q20,q21,q22,q23,q24,q25,q26,q27,q28,q29,q30,q31,q32,q33,q34,q35,q36,q37,q38,q39,q40,q41,q42,q43,q44,q45,q46,q47,q48,q49,q50,q51,q52,q53,q54,q55,q56,q57,Zo,Zu,Zz,ZC,ZP,Zbk,ZcR,Zd,rdP,rdV,Zb,Zi,pks,pk,Zd3,List.set_cons_succ,List.set_cons_zero,List.getElem?_cons_succ,List.getElem?_cons_zero,Option.bind,Option.map]
 rfl
theorem Zn3 {W N:List Nat} (hW:IsW W) (hN:IsN N):ZdA [.val (.str (toS W)),.val (.str (toS N))]=some (.val (.lst (tL (Zft W N)))):=by
 have lw:=hW.len
 have ln:=hN.len
 refine Zap rfl ?_
 show Zcq [.val (.str (toS W)),.val (.str (toS N)),.no]=_
 simp (disch:=((try simp only [List.length_append,List.length_cons,List.length_nil,List.length_replicate]);omega)) only [Zcq,q0,q1,q2,q3,q4,q5,q6,q7,q8,q9,q10,q11,q12,q13,q14,q15,q16,q17,q18,q19,q20,q21,q22,q23,q24,q25,q26,q27,q28,q29,q30,q31,q32,q33,q34,q35,q36,q37,q38,q39,q40,q41,q42,q43,q44,q45,q46,q47,q48,q49,q50,q51,q52,q53,q54,q55,q56,q57,Zo,Zu,Zz,ZC,ZP,Zbk,ZcR,Zd,rdP,rdV,Zb,Zi,pks,pk,Zd3,List.set_cons_succ,List.set_cons_zero,List.getElem?_cons_succ,List.getElem?_cons_zero,Option.bind,Option.map]
 rfl
theorem ZeH {c:Nat} {r:List Nat} (h:¬ (97≤c∧c≤122)):Zcz (c::r)=false:=by
 show (decide (c∈letters.cps.toList)&&(c::r).all okc&&decide ((c::r).length≤12))=false
 rw [decide_eq_false fun z=>h (Ziv c z)];rfl
theorem Zit {L:List Nat} {c:Nat} (hc:c∈L) (h:okc c=false):Zcz L=false:=by
 cases L with
 | nil=>rfl
 | cons x r =>
  show (decide (x∈letters.cps.toList)&&(x::r).all okc&&decide ((x::r).length≤12))=false
  have:(x::r).all okc=false:=by
   rw [List.all_eq_false]
   exact ⟨c,hc,by rw [h];simp⟩
  rw [this,Bool.and_false,Bool.false_and]
theorem Zlu {L:List Nat} (h:12<L.length):Zcz L=false:=by
 cases L with
 | nil=>rfl
 | cons x r =>
  show (decide (x∈letters.cps.toList)&&(x::r).all okc&&decide ((x::r).length≤12))=false
  rw [decide_eq_false (p:=(x::r).length≤12) (by omega),Bool.and_false]
theorem ZdI {L:List Nat} {c:Nat} (hc:c∈fgs L) (h:dgt c=false):isWW L=false:=by
 have:(fgs L).all dgt=false:=by
  rw [List.all_eq_false]
  exact ⟨c,hc,by rw [h];simp⟩
 unfold isWW
 rw [this,Bool.and_false,Bool.and_false]
theorem Znv {L:List Nat} (h:(fgs L).head?=some 48) (h2:L≠[48]):isWW L=false:=by
 unfold isWW
 rw [decide_eq_true h,decide_eq_false h2]
 simp
theorem Zfo {L:List Nat} {c:Nat} (hc:c∈L) (h:c≠45):c∈fgs L:=by
 unfold fgs
 split
 ·next e =>
  cases L with
  | nil=>exact hc
  | cons x r =>
   rcases List.mem_cons.mp hc with rfl | hc
   ·simp at e;exact absurd e h
   ·exact hc
 ·exact hc
theorem ZcV {L:List Nat} (h1:L≠[42]) (h2:Zcz L=false) (h3:isWW L=false):Za1 L=false:=by
 unfold Za1 okVal
 rw [decide_eq_false h1,h2,h3];rfl
theorem Zlo {c:Nat} (h:¬ (48≤c∧c≤57)∧¬ (97≤c∧c≤122)):okc c=false:=by
 cases e:okc c with
 | false=>rfl
 | true=>rcases Zj8 e with z | z
         ·exact absurd z h.1
         ·exact absurd z h.2
theorem ZhA {c:Nat} (h:¬ (48≤c∧c≤57)):dgt c=false:=by
 unfold dgt
 by_cases h1:48≤c
 ·rw [decide_eq_false (p:=c≤57) (fun z=>h ⟨h1,z⟩),Bool.and_false]
 ·rw [decide_eq_false h1,Bool.false_and]
def Zbs (c:Nat):Prop:=(¬ (48≤c∧c≤57)∧¬ (97≤c∧c≤122))∧c≠45∧c≠42
theorem Zbz {L:List Nat} {c:Nat} (hc:c∈L) (h:Zbs c):Za1 L=false :=
 ZcV (fun e=>by rw [e] at hc;simp at hc;exact h.2.2 hc) (Zit hc (Zlo h.1)) (ZdI (Zfo hc h.2.1) (ZhA h.1.1))
theorem Zfg {L:List Nat} (h:Za1 L=false):okVal L=false:=by
 unfold Za1 at h
 exact (Bool.or_eq_false_iff.mp h).2
theorem Zkr {L:List Nat} (h:Za1 L=false):isWW L=false:=by
 have:=Zfg h
 unfold okVal at this
 exact (Bool.or_eq_false_iff.mp this).2
theorem Zk4 {L:List Nat} (h:Za1 L=false):ZaB L=false:=by
 unfold ZaB
 rw [Zkr h];rfl
theorem Zak {ok:List Nat→Bool} {L p:List Nat} (hp:p∈Zj 47 L) (h:ok p=false):ZM ok L=false:=by
 have:(Zj 47 L).all ok=false:=by
  rw [List.all_eq_false]
  exact ⟨p,hp,by rw [h];simp⟩
 unfold ZM
 rw [this,Bool.and_false]
theorem ZcD {ok1 ok2:List Nat→Bool} (h:∀ L,ok1 L=false→ok2 L=false) {L:List Nat} (e:ZM ok1 L=false):ZM ok2 L=false:=by
 unfold ZM at e ⊢
 rcases Bool.and_eq_false_iff.mp e with e | e
 ·rw [e];rfl
 ·rw [List.all_eq_false] at e
  obtain ⟨p,hp,e⟩:=e
  have:(Zj 47 L).all ok2=false:=by
   rw [List.all_eq_false]
   exact ⟨p,hp,by rw [h p (by simpa using e)];simp⟩
  rw [this,Bool.and_false]
theorem ZcB {L:List Nat} {c:Nat} (hc:c∈L) (h:Zbs c) (h2:c≠47):ZM Za1 L=false:=by
 rcases ZbZ (c:=47) hc with e | ⟨p,hp,e⟩
 ·exact absurd e h2
 ·exact Zak hp (Zbz e h)
theorem ZlI {ok:List Nat→Bool} {L:List Nat} (h:47∉L) (e:ok L=false):ZM ok L=false:=Zak (p:=L) (by rw [Zc1 h];simp) e
theorem ZaM {c:Nat} {a:List Nat} (h:c∉a) (r:List Nat):Zj c (a++r)=match Zj c r with
  | []=>[a]
  | p::ps=>(a++p)::ps:=by
 induction a with
 | nil =>
  cases e:Zj c r with
  | nil=>exact absurd e (ZcX c r)
  | cons p ps=>simpa using e
 | cons x a ih =>
  have h1:¬ x=c:=fun z=>h (by simp [z])
  have ih:=ih fun z=>h (List.mem_cons_of_mem _ z)
  simp only [List.cons_append,Zj,if_neg h1,ih]
  cases Zj c r<;>rfl
theorem IsW.no {W:List Nat} (h:IsW W) {c:Nat} (hc:¬ (48≤c∧c≤57)∧¬ (97≤c∧c≤122)):c∉W:=fun z=>by
 rcases h.signs c z with e | e
 ·exact hc.1 e
 ·exact hc.2 e
theorem IsN.no {N:List Nat} (h:IsN N) {c:Nat} (hc:¬ (48≤c∧c≤57)∧c≠45):c∉N:=fun z=>by
 rcases h.signs c z with e | e
 ·exact hc.2 e
 ·exact hc.1 e
theorem IsW.head {W:List Nat} (h:IsW W):∃ c r,W=c::r∧97≤c∧c≤122:=by
 obtain ⟨c,r,e,hc⟩:=h.gw.1
 exact ⟨c,r,e,Ziv c hc⟩
theorem IsW.ww {W:List Nat} (h:IsW W):isWW W=false:=by
 obtain ⟨c,r,e,h1⟩:=h.head
 exact ZdI (Zfo (c:=c) (by rw [e];simp) (by omega)) (ZhA (by omega))
theorem IsN.ne {N:List Nat} (h:IsN N):∃ c r,N=c::r∧(c=45∨(48≤c∧c≤57)):=by
 cases e:N with
 | nil =>
  obtain ⟨m,_,h⟩:=h.ex
  rw [e] at h
  rcases h with h | h
  ·exact absurd h.symm (ZgB m)
  ·cases h
 | cons c r=>exact ⟨c,r,rfl,h.signs c (by rw [e];simp)⟩
theorem Zg0:Zbs 32:=by unfold Zbs;omega
theorem Zre:Zbs 44:=by unfold Zbs;omega
theorem Zra:Zbs 46:=by unfold Zbs;omega
theorem Zrm:Zbs 47:=by unfold Zbs;omega
theorem Zq1:Zbs 59:=by unfold Zbs;omega
theorem Zpn:Zbs 95:=by unfold Zbs;omega
theorem Zi1 {W:List Nat} (h:IsW W):∀ c∈W.map up,(48≤c∧c≤57)∨(65≤c∧c≤90):=fun c hc=>by
 obtain ⟨x,hx,rfl⟩:=List.mem_map.mp hc
 have:=h.signs x hx
 unfold up
 split<;>omega
def Odd (t:List Nat):Prop:=Za1 t=false∧(47∉t∧61∉t∧44∉t)∧t.length≤70
theorem Zhp {W N:List Nat} (hW:IsW W) (hN:IsN N):∀ t∈ZJ W N,Odd t:=by
 have lw:=hW.len
 have w1:=Znj hW
 have ln:=hN.len
 have lf:=hN.flen
 have w47:=hW.no (c:=47) (by omega)
 have w61:=hW.no (c:=61) (by omega)
 have w44:=hW.no (c:=44) (by omega)
 have n47:=hN.no (c:=47) (by omega)
 have n61:=hN.no (c:=61) (by omega)
 have n44:=hN.no (c:=44) (by omega)
 obtain ⟨m,hm,ef,eN⟩:=hN.fgs
 have fd:∀ c∈fgs N,48≤c∧c≤57:=by rw [ef];exact Zcp m
 have f47:47∉fgs N:=fun z=>by have:=fd _ z;omega
 have f61:61∉fgs N:=fun z=>by have:=fd _ z;omega
 have f44:44∉fgs N:=fun z=>by have:=fd _ z;omega
 have fne:fgs N≠[]:=by rw [ef];exact ZgB m
 have u47:47∉W.map up:=fun z=>by have:=Zi1 hW _ z;omega
 have u61:61∉W.map up:=fun z=>by have:=Zi1 hW _ z;omega
 have u44:44∉W.map up:=fun z=>by have:=Zi1 hW _ z;omega
 obtain ⟨x,r,eW,hx⟩:=hW.head
 have hxW:x∈W:=by rw [eW];simp
 obtain ⟨y,s,eN2,hy⟩:=hN.ne
 have cut:∀ c,c∉W→c≠97→c∉(W++[97,97,97,97,97,97,97,97,97,97,97,97]).take 13:=fun c h1 h2 z=>by
  have:=List.mem_of_mem_take z
  simp [h1,h2] at this
 have c47:=cut 47 w47 (by omega)
 have c61:=cut 61 w61 (by omega)
 have c44:=cut 44 w44 (by omega)
 have lens:∀ t∈ZJ W N,t.length≤70:=by
  intro t ht
  simp only [ZJ,List.mem_append,List.mem_cons,List.not_mem_nil,or_false] at ht
  rcases ht with ((rfl | rfl | rfl | rfl | rfl | rfl | rfl | rfl | rfl) | (rfl | rfl | rfl | rfl | rfl | rfl)) | (rfl | rfl | rfl | rfl | rfl | rfl | rfl) <;>
   simp only [List.length_append,List.length_cons,List.length_nil,List.length_replicate,List.length_map,List.length_take]<;>omega
 have free:∀ t∈ZJ W N,47∉t∧61∉t∧44∉t:=by
  intro t ht
  simp only [ZJ,List.mem_append,List.mem_cons,List.not_mem_nil,or_false] at ht
  rcases ht with ((rfl | rfl | rfl | rfl | rfl | rfl | rfl | rfl | rfl) | (rfl | rfl | rfl | rfl | rfl | rfl)) | (rfl | rfl | rfl | rfl | rfl | rfl | rfl) <;>
   first
   | exact ⟨u47,u61,u44⟩
   | exact ⟨c47,c61,c44⟩
   | simp [w47,w61,w44,n47,n61,n44,f47,f61,f44]
 refine fun t ht=>⟨?_,free t ht,lens t ht⟩
 simp only [ZJ,List.mem_append,List.mem_cons,List.not_mem_nil,or_false] at ht
 rcases ht with ((rfl | rfl | rfl | rfl | rfl | rfl | rfl | rfl | rfl) | (rfl | rfl | rfl | rfl | rfl | rfl)) | (rfl | rfl | rfl | rfl | rfl | rfl | rfl)
 ·decide +kernel
 ·decide +kernel
 ·decide +kernel
 ·decide +kernel
 ·decide +kernel
 ·exact ZcV (by simp) (ZeH (by omega)) (ZdI (c:=45) (by simp [fgs]) (by decide))
 ·exact ZcV (by simp) (ZeH (by omega)) (Znv (by simp [fgs]) (by simpa using fne))
 ·decide +kernel
 ·refine ZcV (by rw [eN2];simp) (Zit (c:=45) (by simp) (Zlo (by omega))) (ZdI (c:=45) ?_ (by decide))
  rw [eN2]
  unfold fgs
  split<;>simp
 ·refine ZcV (by rw [eN2,eW];simp) (by rw [eN2];exact ZeH (by omega)) (ZdI (c:=x) (Zfo (by simp [hxW]) (by omega)) (ZhA (by omega)))
 ·refine Zbz (c:=up x) (List.mem_map.mpr ⟨x,hxW,rfl⟩) ?_
  unfold up Zbs
  rw [if_pos (by omega)];omega
 ·exact Zbz (by simp) Zpn
 ·refine ZcV (fun e=>?_) (Zlu (by simp;omega)) (ZdI (c:=x) (Zfo (by rw [eW];simp) (by omega)) (ZhA (by omega)))
  have:=congrArg List.length e
  simp at this;omega
 ·decide +kernel
 ·decide +kernel
 ·exact Zbz (c:=32) (by simp) Zg0
 ·exact Zbz (c:=32) (by simp) Zg0
 ·decide +kernel
 ·refine ZcV (by rw [eW];simp) (ZeH (by omega)) (ZdI (c:=42) (Zfo (by simp) (by omega)) (by decide))
 ·exact Zbz (c:=46) (by simp) Zra
 ·decide +kernel
 ·exact Zbz (c:=32) (by simp) Zg0
theorem Zfv:Za1 []=false:=by decide +kernel
theorem IsW.split {W:List Nat} (h:IsW W) {c:Nat} (hc:¬ (48≤c∧c≤57)∧¬ (97≤c∧c≤122)):Zj c W=[W]:=Zc1 (h.no hc)
theorem IsN.split {N:List Nat} (h:IsN N) {c:Nat} (hc:¬ (48≤c∧c≤57)∧c≠45):Zj c N=[N]:=Zc1 (h.no hc)
theorem ZkF {W N:List Nat} (hW:IsW W) (hN:IsN N):∀ t∈places W N,ZM Za1 t=false∧t.length≤100:=by
 have lw:=hW.len
 have ln:=hN.len
 have w47:=hW.no (c:=47) (by omega)
 have n47:=hN.no (c:=47) (by omega)
 have sw:=hW.split (c:=47) (by omega)
 have sn:=hN.split (c:=47) (by omega)
 have pw:=fun r=>ZaM w47 r
 intro t ht
 simp only [places,List.mem_append,List.mem_cons,List.not_mem_nil,or_false] at ht
 rcases ht with (rfl | rfl | rfl | rfl | rfl | rfl) | (rfl | rfl | rfl)
 ·refine ⟨Zak (p:=[]) (by simp [pw,Zj]) Zfv,by simp;omega⟩
 ·refine ⟨Zak (p:=[]) (by simp [Zj]) Zfv,by simp;omega⟩
 ·refine ⟨Zak (p:=[]) (by simp [pw,Zj]) Zfv,by simp;omega⟩
 ·refine ⟨?_,by simp;omega⟩
  simp only [List.append_assoc,List.cons_append,List.nil_append]
  simp [ZM,pw,sw,sn,Zj]
 ·exact ⟨by decide +kernel,by decide⟩
 ·exact ⟨by decide +kernel,by decide⟩
 ·exact ⟨ZcB (c:=32) (by simp) Zg0 (by omega),by simp;omega⟩
 ·exact ⟨ZcB (c:=44) (by simp) Zre (by omega),by simp;omega⟩
 ·exact ⟨ZcB (c:=32) (by simp) Zg0 (by omega),by simp;omega⟩
theorem ZlD {W N:List Nat} (hW:IsW W) (hN:IsN N):∀ t∈([[42],W++[47,42],[42,47]++N]:List (List Nat)),ZM okVal t=false∧t.length≤100:=by
 have lw:=hW.len
 have ln:=hN.len
 have w47:=hW.no (c:=47) (by omega)
 have sn:=hN.split (c:=47) (by omega)
 have pw:=fun r=>ZaM w47 r
 have st:okVal [42]=false:=by decide +kernel
 intro t ht
 simp only [List.mem_cons,List.not_mem_nil,or_false] at ht
 rcases ht with rfl | rfl | rfl
 ·exact ⟨by decide +kernel,by decide⟩
 ·exact ⟨Zak (p:=[42]) (by simp [pw,Zj]) st,by simp;omega⟩
 ·exact ⟨Zak (p:=[42]) (by simp [Zj]) st,by simp;omega⟩
theorem ZkB {W N:List Nat} (hW:IsW W) (hN:IsN N):∀ t∈([[42],W,[45,49],[48,47]++W,[49,47,45,49],[49,47,42],[48,47,48,47,48,47,48,47,48],N++[47,45,50]]:List (List Nat)),ZM ZaB t=false∧t.length≤100:=by
 have lw:=hW.len
 have ln:=hN.len
 have sw:=hW.split (c:=47) (by omega)
 have n47:=hN.no (c:=47) (by omega)
 have pn:=fun r=>ZaM n47 r
 have hw:ZaB W=false:=by unfold ZaB;rw [hW.ww];rfl
 intro t ht
 simp only [List.mem_cons,List.not_mem_nil,or_false] at ht
 rcases ht with rfl | rfl | rfl | rfl | rfl | rfl | rfl | rfl
 ·exact ⟨by decide +kernel,by decide⟩
 ·exact ⟨Zak (p:=t) (by rw [sw];simp) hw,by omega⟩
 ·exact ⟨by decide +kernel,by decide⟩
 ·exact ⟨Zak (p:=W) (by simp [Zj,sw]) hw,by simp;omega⟩
 ·exact ⟨by decide +kernel,by decide⟩
 ·exact ⟨by decide +kernel,by decide⟩
 ·exact ⟨by decide +kernel,by decide⟩
 ·exact ⟨Zak (p:=[45,50]) (by simp [Zj,pn]) (by decide +kernel),by simp;omega⟩
theorem Zbe {t a b:List Nat} (e:Zj 32 t=[a,b]) (h:ZM okVal a=false∨isWW b=false):Zeo t=false:=by
 unfold Zeo
 rw [e]
 rcases h with h | h
 ·show (ZM okVal a&&isWW b)=false
  rw [h];rfl
 ·show (ZM okVal a&&isWW b)=false
  rw [h,Bool.and_false]
theorem Zev {t:List Nat} (e:(Zj 32 t).length≠2):Zeo t=false:=by
 unfold Zeo
 split
 ·next a b h=>rw [h] at e;exact absurd rfl e
 ·rfl
def Zef (W:List Nat):List (List Nat):=[[48,48]++[32,53],[45]++[32,53],(W++[95])++[32,53],(W++[47])++[32,53],[45,48]++[32,53],[]++[32,53]]
theorem Zmz {W N:List Nat} (hW:IsW W) (hN:IsN N):∀ t∈Zft W N++Zef W,Zeo t=false∧t.length≤100:=by
 have lw:=hW.len
 have ln:=hN.len
 have w47:=hW.no (c:=47) (by omega)
 have p47:=fun r=>ZaM w47 r
 have s47:=hW.split (c:=47) (by omega)
 have w32:=hW.no (c:=32) (by omega)
 have pw:=fun r=>ZaM w32 r
 have sw:=hW.split (c:=32) (by omega)
 have n32:=hN.no (c:=32) (by omega)
 have pn:=fun r=>ZaM n32 r
 have sn:=hN.split (c:=32) (by omega)
 have l0:ZM okVal []=false:=by decide +kernel
 have l42:ZM okVal [42]=false:=by decide +kernel
 have lS:ZM okVal (W++[47])=false:=Zak (p:=[]) (by simp [p47,Zj]) (Zfg Zfv)
 have l5:ZM okVal (W++[95])=false:=ZcD (fun _=>Zfg) (ZcB (c:=95) (by simp) Zpn (by omega))
 intro t ht
 simp only [Zft,Zef,List.mem_append,List.mem_cons,List.not_mem_nil,or_false] at ht
 rcases ht with (((rfl | rfl | rfl | rfl | rfl | rfl | rfl) | (rfl | rfl | rfl | rfl)) | (rfl | rfl | rfl | rfl)) | (rfl | rfl | rfl | rfl | rfl | rfl)
 ·exact ⟨Zev (by rw [sw];simp),by omega⟩
 ·exact ⟨Zbe (a:=W) (b:=[]) (by simp [pw,Zj]) (.inr (Zkr Zfv)),by simp;omega⟩
 ·exact ⟨Zbe (a:=[]) (b:=N) (by simp [Zj,sn]) (.inl l0),by simp;omega⟩
 ·exact ⟨Zbe (a:=[42]) (b:=N) (by simp [Zj,sn]) (.inl l42),by simp;omega⟩
 ·exact ⟨Zev (by simp [pw,Zj,sn]),by simp;omega⟩
 ·exact ⟨Zev (by simp [pw,pn,Zj]),by simp;omega⟩
 ·exact ⟨by decide +kernel,by decide⟩
 ·exact ⟨Zbe (a:=W++47::42::47::W) (b:=N) (by simp [pw,Zj,sn,sw]) (.inl (Zak (p:=[42]) (by simp [p47,Zj,s47]) (by decide +kernel))),by simp;omega⟩
 ·exact ⟨Zev (by simp [pw,pn,sn,Zj]),by simp;omega⟩
 ·exact ⟨Zbe (a:=W) (b:=[42]) (by simp [pw,Zj]) (.inr (by decide +kernel)),by simp;omega⟩
 ·exact ⟨by decide +kernel,by decide⟩
 ·exact ⟨Zbe (a:=W) (b:=[45,48]) (by simp [pw,Zj]) (.inr (by decide +kernel)),by simp;omega⟩
 ·exact ⟨Zbe (a:=W) (b:=W) (by simp [pw,sw,Zj]) (.inr hW.ww),by simp;omega⟩
 ·exact ⟨Zbe (a:=W++[47]) (b:=N) (by simp [pw,sn,Zj]) (.inl lS),by simp;omega⟩
 ·refine ⟨Zbe (a:=W++[47,97,47,98,47,99,47,100]) (b:=N) (by simp [pw,sn,Zj]) (.inl ?_),by simp;omega⟩
  simp [ZM,p47,Zj]
 ·exact ⟨by decide +kernel,by decide⟩
 ·exact ⟨by decide +kernel,by decide⟩
 ·exact ⟨Zbe (a:=W++[95]) (b:=[53]) (by simp [pw,Zj]) (.inl l5),by simp;omega⟩
 ·exact ⟨Zbe (a:=W++[47]) (b:=[53]) (by simp [pw,Zj]) (.inl lS),by simp;omega⟩
 ·exact ⟨by decide +kernel,by decide⟩
 ·exact ⟨by decide +kernel,by decide⟩
theorem Zig {t:List Nat} (e:(Zj 61 t).length≠2):Zb3 t=false:=by
 unfold Zb3
 split
 ·next a b h=>rw [h] at e;exact absurd rfl e
 ·rfl
theorem Zgt {t a b:List Nat} (e:Zj 61 t=[a,b]) (h:(Zj 64 a).length≠2):Zb3 t=false:=by
 unfold Zb3
 rw [e]
 show (match Zj 64 a with
  | [x,y]=>(Zj 44 b).all Za1&&(ZaB x&&ZaB y)
  | _=>false)=false
 split
 ·next x y h2=>rw [h2] at h;exact absurd rfl h
 ·rfl
theorem Zan {t a b x y:List Nat} (e:Zj 61 t=[a,b]) (e2:Zj 64 a=[x,y]) (h:(∃ p∈Zj 44 b,Za1 p=false)∨ZaB x=false∨ZaB y=false):Zb3 t=false:=by
 unfold Zb3
 rw [e]
 show (match Zj 64 a with
  | [x,y]=>(Zj 44 b).all Za1&&(ZaB x&&ZaB y)
  | _=>false)=false
 rw [e2]
 show ((Zj 44 b).all Za1&&(ZaB x&&ZaB y))=false
 rcases h with ⟨p,hp,h⟩ | h | h
 ·have:(Zj 44 b).all Za1=false:=by
   rw [List.all_eq_false]
   exact ⟨p,hp,by rw [h];simp⟩
  rw [this];rfl
 ·rw [h,Bool.false_and,Bool.and_false]
 ·rw [h,Bool.and_false,Bool.and_false]
theorem ZdX {t a b:List Nat} (e:Zj 61 t=[a,b]) {c:Nat} (hc:c∈b) (h:Zbs c) (h2:c≠44):Zb3 t=false:=by
 by_cases h5:(Zj 64 a).length=2
 ·obtain ⟨x,y,e2⟩:=Zhe h5
  refine Zan e e2 (.inl ?_)
  rcases ZbZ (c:=44) hc with z | ⟨p,hp,z⟩
  ·exact absurd z h2
  ·exact ⟨p,hp,Zbz z h⟩
 ·exact Zgt e h5
theorem ZlJ {W N:List Nat} (hW:IsW W) (hN:IsN N):∀ t∈Zem W N++(ZJ W N).map ([48,64,49,61]++·),Zb3 t=false∧t.length≤100:=by
 have lw:=hW.len
 have ln:=hN.len
 have w61:=hW.no (c:=61) (by omega)
 have pw:=fun r=>ZaM w61 r
 have sw:=hW.split (c:=61) (by omega)
 have n61:=hN.no (c:=61) (by omega)
 have pn:=fun r=>ZaM n61 r
 have sn:=hN.split (c:=61) (by omega)
 have w64:=hW.no (c:=64) (by omega)
 have p64:=fun r=>ZaM w64 r
 have w44:=hW.no (c:=44) (by omega)
 have p44:=fun r=>ZaM w44 r
 have s44:=hW.split (c:=44) (by omega)
 have n44:=hN.split (c:=44) (by omega)
 have hw:ZaB W=false:=by unfold ZaB;rw [hW.ww];rfl
 intro t ht
 rcases List.mem_append.mp ht with ht | ht
 rotate_left
 ·obtain ⟨u,hu,rfl⟩:=List.mem_map.mp ht
  obtain ⟨h1,⟨_,h2,h3⟩,h4⟩:=Zhp hW hN u hu
  refine ⟨Zan (a:=[48,64,49]) (b:=u) (x:=[48]) (y:=[49]) (by simp [Zj,Zc1 h2]) (by decide +kernel) (.inl ⟨u,by rw [Zc1 h3];simp,h1⟩),by simp;omega⟩
 simp only [Zem,List.mem_append,List.mem_cons,List.not_mem_nil,or_false] at ht
 rcases ht with (((rfl | rfl | rfl | rfl | rfl | rfl | rfl | rfl) | (rfl | rfl | rfl | rfl)) | (rfl | rfl | rfl | rfl | rfl | rfl)) | (rfl | rfl | rfl | rfl | rfl)
 ·exact ⟨by decide +kernel,by decide⟩
 ·exact ⟨Zgt (a:=[48]) (b:=W) (by simp [Zj,sw]) (by decide +kernel),by simp;omega⟩
 ·exact ⟨by decide +kernel,by decide⟩
 ·exact ⟨Zan (a:=[64,49]) (b:=W) (x:=[]) (y:=[49]) (by simp [Zj,sw]) (by decide +kernel) (.inr (.inl (by decide +kernel))),by simp;omega⟩
 ·exact ⟨Zan (a:=[48,64]) (b:=W) (x:=[48]) (y:=[]) (by simp [Zj,sw]) (by decide +kernel) (.inr (.inr (by decide +kernel))),by simp;omega⟩
 ·exact ⟨Zan (a:=[45,49,64,48]) (b:=W) (x:=[45,49]) (y:=[48]) (by simp [Zj,sw]) (by decide +kernel) (.inr (.inl (by decide +kernel))),by simp;omega⟩
 ·exact ⟨Zan (a:=[48,64,45,49]) (b:=W) (x:=[48]) (y:=[45,49]) (by simp [Zj,sw]) (by decide +kernel) (.inr (.inr (by decide +kernel))),by simp;omega⟩
 ·exact ⟨Zan (a:=W++[64,48]) (b:=[49]) (x:=W) (y:=[48]) (by simp [Zj,pw]) (by simp [Zj,p64]) (.inr (.inl hw)),by simp;omega⟩
 ·exact ⟨Zan (a:=[48,64,49]) (b:=W++[44]) (x:=[48]) (y:=[49]) (by simp [Zj,pw]) (by decide +kernel) (.inl ⟨[],by simp [Zj,p44],Zfv⟩),by simp;omega⟩
 ·exact ⟨Zan (a:=[48,64,49]) (b:=44::N) (x:=[48]) (y:=[49]) (by simp [Zj,sn]) (by decide +kernel) (.inl ⟨[],by simp [Zj],Zfv⟩),by simp;omega⟩
 ·exact ⟨ZdX (a:=[48,64,49]) (b:=W++44::32::W) (by simp [Zj,pw,sw]) (c:=32) (by simp) Zg0 (by omega),by simp;omega⟩
 ·exact ⟨Zig (by simp [Zj,pw,sw]),by simp;omega⟩
 ·exact ⟨Zgt (a:=[48,64,49,64,50]) (b:=W) (by simp [Zj,sw]) (by decide +kernel),by simp;omega⟩
 ·exact ⟨ZdX (a:=[48,64,49]) (b:=W++59::W) (by simp [Zj,pw,sw]) (c:=59) (by simp) Zq1 (by omega),by simp;omega⟩
 ·exact ⟨Zan (a:=[48,32,64,49]) (b:=W) (x:=[48,32]) (y:=[49]) (by simp [Zj,sw]) (by decide +kernel) (.inr (.inl (by decide +kernel))),by simp;omega⟩
 ·exact ⟨Zan (a:=[48,48,64,49]) (b:=W) (x:=[48,48]) (y:=[49]) (by simp [Zj,sw]) (by decide +kernel) (.inr (.inl (by decide +kernel))),by simp;omega⟩
 ·exact ⟨Zan (a:=[48,64,48,49]) (b:=W) (x:=[48]) (y:=[48,49]) (by simp [Zj,sw]) (by decide +kernel) (.inr (.inr (by decide +kernel))),by simp;omega⟩
 ·exact ⟨by decide +kernel,by decide⟩
 ·exact ⟨by decide +kernel,by decide⟩
 ·exact ⟨by decide +kernel,by decide⟩
 ·exact ⟨ZdX (a:=[48,64,49]) (b:=W++47::W) (by simp [Zj,pw,sw]) (c:=47) (by simp) Zrm (by omega),by simp;omega⟩
 ·exact ⟨Zan (a:=[42,64,48]) (b:=W) (x:=[42]) (y:=[48]) (by simp [Zj,sw]) (by decide +kernel) (.inr (.inl (by decide +kernel))),by simp;omega⟩
 ·exact ⟨ZdX (a:=[48,64,49]) (b:=N++[32]) (by simp [Zj,pn]) (c:=32) (by simp) Zg0 (by omega),by simp;omega⟩
theorem Zlc {L:List (List Nat)} {d:D} (h:d∈tL L):∃ t∈L,d=.str (toS t):=by
 obtain ⟨t,ht,e⟩:=List.mem_map.mp h
 exact ⟨t,ht,e.symm⟩
theorem Zgw {ws:List Int} (hl:ws.length=24) (hp:∀ y∈ws,0≤y∧y<33554432) (i:Int) (h0:0≤i) (h1:i<24):∃ y:Int,ixD (.lst (ws.map D.int)) (.int i)=some (.int y)∧0≤y:=by
 refine ⟨ws.getD i.toNat 0,Zqw h0 (by omega),?_⟩
 have h:i.toNat<ws.length:=by omega
 simp only [List.getD,List.getElem?_eq_getElem h,Option.getD_some]
 exact (hp _ (List.getElem_mem h)).1
theorem ZcJ (y n:Int) (h:0<n):ZbJ (.int y) (.int n)=some (.int (y%n)):=by
 show (if 0<n then some (D.int (y%n)) else none)=_
 rw [if_pos h]
theorem ZmS {ws:List Int} (hl:ws.length=24) (hp:∀ y∈ws,0≤y∧y<33554432) (a b c:Sl) (L:List (List Nat)) (h0:L≠[]) (h1:L.length≤1000):∃ t∈L,Zdl [a,.val (.lst (ws.map D.int)),b,c,.val (.lst (tL L))]=.ret (.val (.str (toS t))):=by
 obtain ⟨y,i2,y0⟩:=Zgw hl hp 2 (by omega) (by omega)
 have hn:=Zfb L
 have hpos:0<(L.length:Int):=by have:=List.length_pos_iff.mpr h0;omega
 have hm:=ZcJ y (L.length:Int) hpos
 obtain ⟨d,hd,hmem⟩:=Zhq (xs:=tL L) (i:=y%(L.length:Int)) (Int.emod_nonneg _ (by omega)) (by
  have:=Int.emod_lt_of_pos y hpos
  simp only [tL,List.length_map];omega)
 obtain ⟨t,ht,rfl⟩:=Zlc hmem
 have hi:ixD (.lst (tL L)) (.int (y%(L.length:Int)))=some (.str (toS t)):=hd
 refine ⟨t,ht,?_⟩
 generalize tL L=T at *
 generalize ws.map D.int=WS at *
 generalize (L.length:Int)=n at *
 simp only [Zdl,Zgq,Zo,Zz,Zd,rdP,rdA,ZD,Zb,Zi,pks,pk,List.getElem?_cons_succ,List.getElem?_cons_zero,Option.bind,Option.map,i2,hn,hm,hi]
theorem ZmK (ts:List (List Nat)) (h:∀ t∈ts,t.length≤70):Za7 (ZF 0) (fun _=>some true) Zc7 [.no] (tL ts)=some (tL (ts.map ([48,64,49,61]++·))):=by
 have:=Zc3 (b:=ZF 0) (e:=Zc7) (ρ:=[.no]) (fun p=>D.str (toS p)) (fun p=>D.str (toS ([48,64,49,61]++p))) ts fun t ht=>⟨[.val (.str (toS t))],rfl,by
  have:=Zd3 [48,64,49,61] t (by have:=h t ht;simp;omega)
  simp only [Zc7,q0,q1,q2,q3,q4,q5,q6,q7,q8,q9,q10,q11,q12,q13,q14,q15,q16,q17,q18,q19,q20,q21,q22,q23,q24,q25,q26,q27,q28,q29,q30,q31,q32,q33,q34,q35,q36,q37,q38,q39,q40,q41,q42,q43,q44,q45,q46,q47,q48,q49,q50,q51,q52,q53,q54,q55,q56,q57,Zd,rdP,List.getElem?_cons_zero,Option.bind,this]⟩
 simp only [tL,List.map_map]
 exact this
theorem ZlV (ts:List (List Nat)) (h:∀ t∈ts,t.length≤70):Za7 (ZF 0) (fun _=>some true) Zck [.no] (tL ts)=some (tL (ts.map (·++[32,53]))):=by
 have:=Zc3 (b:=ZF 0) (e:=Zck) (ρ:=[.no]) (fun p=>D.str (toS p)) (fun p=>D.str (toS (p++[32,53]))) ts fun t ht=>⟨[.val (.str (toS t))],rfl,by
  have:=Zd3 t [32,53] (by have:=h t ht;simp;omega)
  simp only [Zck,q0,q1,q2,q3,q4,q5,q6,q7,q8,q9,q10,q11,q12,q13,q14,q15,q16,q17,q18,q19,q20,q21,q22,q23,q24,q25,q26,q27,q28,q29,q30,q31,q32,q33,q34,q35,q36,q37,q38,q39,q40,q41,q42,q43,q44,q45,q46,q47,q48,q49,q50,q51,q52,q53,q54,q55,q56,q57,Zd,rdP,List.getElem?_cons_zero,Option.bind,this]⟩
 simp only [tL,List.map_map]
 exact this
theorem ZnM (w:Nat) (hw:w<5) {ws:List Int} (hl:ws.length=24) (hp:∀ y∈ws,0≤y∧y<33554432) {W N:List Nat} (hW:IsW W) (hN:IsN N) :
  ∃ t,Zfy [.val (.int (w:Int)),.val (.lst (ws.map D.int)),.val (.str (toS W)),.val (.str (toS N))]=some (.val (.str (toS t)))∧t.length≤100∧okW w t=false:=by
 have lw:=hW.len
 have ln:=hN.len
 have e:∀ b:Int,eqO (.int (w:Int)) (.int b)=some (.bl (decide ((w:Int)=b))):=fun b=>ZiR _ _
 have t1:=ZlE hW hN
 have t2:=Zlv hW hN
 have t3:=Zml hW hN
 have t4:=Zn3 hW hN
 have hin:∀ ρ:VE,ZS 1 [] ρ=[.no]:=fun _=>rfl
 have hte:=fun (L:List (List Nat)) h0 h1=>ZmS hl hp (.val (.int (w:Int))) (.val (.str (toS W))) (.val (.str (toS N))) L h0 h1
 have to:=Zhp hW hN
 generalize hWS:ws.map D.int=WS at *
 suffices h:∃ L:List (List Nat),L≠[]∧L.length≤1000∧(∀ t∈L,okW w t=false∧t.length≤100)∧ZaN [.val (.int (w:Int)),.val (.lst WS),.val (.str (toS W)),.val (.str (toS N)),.no]=Zdl [.val (.int (w:Int)),.val (.lst WS),.val (.str (toS W)),.val (.str (toS N)),.val (.lst (tL L))] by
  obtain ⟨L,h0,h1,h2,h3⟩:=h
  obtain ⟨t,ht,h4⟩:=hte L h0 h1
  refine ⟨t,Zap rfl ?_,(h2 t ht).2,(h2 t ht).1⟩
  show ZaN [.val (.int (w:Int)),.val (.lst WS),.val (.str (toS W)),.val (.str (toS N)),.no]=_
  rw [h3,h4]
 clear hte
 have lenT:(ZJ W N).length=22:=rfl
 have lenP:(places W N).length=9:=rfl
 have lenK:(Zem W N).length=23:=rfl
 have lenR:(Zft W N).length=15:=rfl
 have neT:ZJ W N≠[]:=fun z=>by cases z
 have neP:places W N≠[]:=fun z=>by cases z
 have neK:Zem W N≠[]:=fun z=>by cases z
 have neR:Zft W N≠[]:=fun z=>by cases z
 have pt:Zq (.lst (tL (places W N))) (.lst (tL (ZJ W N)))=some (.lst (tL (places W N++ZJ W N))):=Zi7 _ _ (by omega)
 have bP:∀ t∈places W N++ZJ W N,ZM Za1 t=false∧t.length≤100:=fun t ht=>by
  rcases List.mem_append.mp ht with h | h
  ·exact ZkF hW hN t h
  ·obtain ⟨a,⟨b,_⟩,c⟩:=to t h
   exact ⟨ZlI b a,by omega⟩
 have fir:∀ v:Nat,v<3→v=w→Zco [.val (.int (w:Int)),.val (.lst WS),.val (.str (toS W)),.val (.str (toS N)),.no]=.next [.val (.int (w:Int)),.val (.lst WS),.val (.str (toS W)),.val (.str (toS N)),.val (.lst (tL (places W N++ZJ W N)))]:=fun v hv hvw=>by
  have e3:=e 3
  have e4:=e 4
  rw [decide_eq_false (by omega)] at e3 e4
  generalize tL (places W N++ZJ W N)=T at *
  generalize tL (places W N)=T1 at *
  generalize tL (ZJ W N)=T2 at *
  simp only [Zco,Zo,ZH,Zu,asB,Zd,rdP,rdA,Zr,Zb,List.set_cons_succ,List.set_cons_zero,List.getElem?_cons_succ,List.getElem?_cons_zero,Option.bind,Option.map,Z0,e3,e4,t1,t2,pt]
 match w,hw,e,fir with
 | 0,_,e,fir =>
  have fir:=fir 0 (by omega) rfl
  have e1:eqO (.int ((0:Nat):Int)) (.int 1)=some (.bl false):=e 1
  have e2:eqO (.int ((0:Nat):Int)) (.int 2)=some (.bl false):=e 2
  refine ⟨places W N++ZJ W N,by simp [neP],by simp;omega,bP,?_⟩
  generalize tL (places W N++ZJ W N)=T at *
  simp only [ZaN,ZbE,ZbM,fir,ZbI,ZbF,Zo,ZH,asB,Zd,rdP,List.getElem?_cons_succ,List.getElem?_cons_zero,Option.bind,e1,e2]
 | 1,_,e,fir =>
  have fir:=fir 1 (by omega) rfl
  have e1:eqO (.int ((1:Nat):Int)) (.int 1)=some (.bl true):=e 1
  have e2:eqO (.int ((1:Nat):Int)) (.int 2)=some (.bl false):=e 2
  have ad:Zq (.lst (tL (places W N++ZJ W N))) (.lst [.str (toS [42]),.str (toS (W++[47,42])),.str (toS ([42,47]++N))])=some (.lst (tL ((places W N++ZJ W N)++[[42],W++[47,42],[42,47]++N]))):=Zi7 _ [[42],W++[47,42],[42,47]++N] (by simp;omega)
  refine ⟨(places W N++ZJ W N)++[[42],W++[47,42],[42,47]++N],by simp,by simp;omega,fun t ht=>?_,?_⟩
  ·rcases List.mem_append.mp ht with h | h
   ·exact ⟨ZcD (fun _=>Zfg) (bP t h).1,(bP t h).2⟩
   ·exact ZlD hW hN t h
  ·generalize tL ((places W N++ZJ W N)++[[42],W++[47,42],[42,47]++N])=T' at *
   generalize tL (places W N++ZJ W N)=T at *
   simp (disch:=((try simp only [List.length_append,List.length_cons,List.length_nil,List.length_replicate]);omega)) only [ZaN,ZbE,ZbM,fir,ZbI,ZbF,q0,q1,q2,q3,q4,q5,q6,q7,q8,q9,q10,q11,q12,q13,q14,q15,q16,q17,q18,q19,q20,q21,q22,q23,q24,q25,q26,q27,q28,q29,q30,q31,q32,q33,q34,q35,q36,q37,q38,q39,q40,q41,q42,q43,q44,q45,q46,q47,q48,q49,q50,q51,q52,q53,q54,q55,q56,q57,Zo,ZH,Zu,ZC,ZP,Zbk,asB,Zd,rdP,rdV,Zb,Zi,Zd3,ad,List.set_cons_succ,List.set_cons_zero,List.getElem?_cons_succ,List.getElem?_cons_zero,Option.bind,Option.map,e1,e2]
 | 2,_,e,fir =>
  have fir:=fir 2 (by omega) rfl
  have e1:eqO (.int ((2:Nat):Int)) (.int 1)=some (.bl false):=e 1
  have e2:eqO (.int ((2:Nat):Int)) (.int 2)=some (.bl true):=e 2
  have ad:Zq (.lst (tL (places W N++ZJ W N))) (.lst [.str (toS [42]),.str (toS W),.str (toS [45,49]),.str (toS ([48,47]++W)),.str (toS [49,47,45,49]),.str (toS [49,47,42]),.str (toS [48,47,48,47,48,47,48,47,48]),.str (toS (N++[47,45,50]))])=some (.lst (tL ((places W N++ZJ W N)++[[42],W,[45,49],[48,47]++W,[49,47,45,49],[49,47,42],[48,47,48,47,48,47,48,47,48],N++[47,45,50]]))):=Zi7 _ [[42],W,[45,49],[48,47]++W,[49,47,45,49],[49,47,42],[48,47,48,47,48,47,48,47,48],N++[47,45,50]] (by simp;omega)
  refine ⟨(places W N++ZJ W N)++[[42],W,[45,49],[48,47]++W,[49,47,45,49],[49,47,42],[48,47,48,47,48,47,48,47,48],N++[47,45,50]],by simp,by simp;omega,fun t ht=>?_,?_⟩
  ·rcases List.mem_append.mp ht with h | h
   ·exact ⟨ZcD (fun _=>Zk4) (bP t h).1,(bP t h).2⟩
   ·exact ZkB hW hN t h
  ·generalize tL ((places W N++ZJ W N)++[[42],W,[45,49],[48,47]++W,[49,47,45,49],[49,47,42],[48,47,48,47,48,47,48,47,48],N++[47,45,50]])=T' at *
   generalize tL (places W N++ZJ W N)=T at *
   simp (disch:=((try simp only [List.length_append,List.length_cons,List.length_nil,List.length_replicate]);omega)) only [ZaN,ZbE,ZbM,fir,ZbI,ZbF,q0,q1,q2,q3,q4,q5,q6,q7,q8,q9,q10,q11,q12,q13,q14,q15,q16,q17,q18,q19,q20,q21,q22,q23,q24,q25,q26,q27,q28,q29,q30,q31,q32,q33,q34,q35,q36,q37,q38,q39,q40,q41,q42,q43,q44,q45,q46,q47,q48,q49,q50,q51,q52,q53,q54,q55,q56,q57,Zo,ZH,Zu,ZC,ZP,Zbk,asB,Zd,rdP,rdV,Zb,Zi,Zd3,ad,List.set_cons_succ,List.set_cons_zero,List.getElem?_cons_succ,List.getElem?_cons_zero,Option.bind,Option.map,e1,e2]
 | 3,_,e,_ =>
  have e1:eqO (.int ((3:Nat):Int)) (.int 1)=some (.bl false):=e 1
  have e2:eqO (.int ((3:Nat):Int)) (.int 2)=some (.bl false):=e 2
  have e3:eqO (.int ((3:Nat):Int)) (.int 3)=some (.bl true):=e 3
  have hc:=ZmK (ZJ W N) fun t ht=>(to t ht).2.2
  have hq:Zy (ZL (D.lst (tL (ZJ W N))))=some (tL (ZJ W N)):=Zi9 (ZJ W N) (by omega)
  have ad:=Zi7 (Zem W N) ((ZJ W N).map ([48,64,49,61]++·)) (by simp;omega)
  refine ⟨Zem W N++(ZJ W N).map ([48,64,49,61]++·),by simp [neK],by simp;omega,ZlJ hW hN,?_⟩
  generalize tL (Zem W N++(ZJ W N).map ([48,64,49,61]++·))=T' at *
  generalize tL ((ZJ W N).map ([48,64,49,61]++·))=T3 at *
  generalize tL (Zem W N)=T1 at *
  generalize tL (ZJ W N)=T2 at *
  simp only [ZaN,ZbE,ZbM,Zco,ZbI,ZbF,Zo,ZH,Zu,ZC,ZZ,hin,asB,Zd,rdP,rdA,Zr,Zb,List.set_cons_succ,List.set_cons_zero,List.getElem?_cons_succ,List.getElem?_cons_zero,Option.bind,Option.map,Z0,e1,e2,e3,t1,t3,hc,hq,ad]
 | 4,_,e,_ =>
  have e1:eqO (.int ((4:Nat):Int)) (.int 1)=some (.bl false):=e 1
  have e2:eqO (.int ((4:Nat):Int)) (.int 2)=some (.bl false):=e 2
  have e3:eqO (.int ((4:Nat):Int)) (.int 3)=some (.bl false):=e 3
  have e4:eqO (.int ((4:Nat):Int)) (.int 4)=some (.bl true):=e 4
  have hc:Za7 (ZF 0) (fun _=>some true) Zck [.no] [.str (toS [48,48]),.str (toS [45]),.str (toS (W++[95])),.str (toS (W++[47])),.str (toS [45,48]),.str (toS [])]=some (tL (Zef W)):=ZlV [[48,48],[45],W++[95],W++[47],[45,48],[]] fun t ht=>by
   simp only [List.mem_cons,List.not_mem_nil,or_false] at ht
   rcases ht with rfl | rfl | rfl | rfl | rfl | rfl<;>simp<;>omega
  have ad:=Zi7 (Zft W N) (Zef W) (by rw [lenR,show (Zef W).length=6 from rfl];omega)
  have lenM:(Zef W).length=6:=rfl
  refine ⟨Zft W N++Zef W,by simp [neR],by simp;omega,Zmz hW hN,?_⟩
  generalize tL (Zft W N++Zef W)=T' at *
  generalize tL (Zef W)=T3 at *
  generalize tL (Zft W N)=T1 at *
  simp (disch:=((try simp only [List.length_append,List.length_cons,List.length_nil,List.length_replicate]);omega)) only [ZaN,ZbE,ZbM,Zco,ZbI,ZbF,q0,q1,q2,q3,q4,q5,q6,q7,q8,q9,q10,q11,q12,q13,q14,q15,q16,q17,q18,q19,q20,q21,q22,q23,q24,q25,q26,q27,q28,q29,q30,q31,q32,q33,q34,q35,q36,q37,q38,q39,q40,q41,q42,q43,q44,q45,q46,q47,q48,q49,q50,q51,q52,q53,q54,q55,q56,q57,Zo,ZH,Zu,ZC,ZP,Zbk,ZL,ZZ,hin,asB,Zd,rdP,rdV,rdA,Zr,Zb,Zi,Zd3,List.set_cons_succ,List.set_cons_zero,List.getElem?_cons_succ,List.getElem?_cons_zero,Option.bind,Option.map,Z0,e1,e2,e3,e4,t4,hc,ad]
structure Zki (c:Nat):Prop where
 al:Zbs c
 no:c≠47∧c≠61∧c≠64∧c≠44∧c≠32
theorem Zj3 (w:Nat) {t:List Nat} {c:Nat} (hc:c∈t) (h:Zki c):okW w t=false:=by
 have hp:=ZcB hc h.al h.no.1
 match w with
 | 0=>exact hp
 | 1=>exact ZcD (fun _=>Zfg) hp
 | 2=>exact ZcD (fun _=>Zk4) hp
 | 3 =>
  show Zb3 t=false
  by_cases h4:(Zj 61 t).length=2
  ·obtain ⟨a,b,e⟩:=Zhe h4
   rcases ZbZ (c:=61) hc with z | ⟨p,hp,z⟩
   ·exact absurd z h.no.2.1
   ·rw [e] at hp
    simp only [List.mem_cons,List.not_mem_nil,or_false] at hp
    rcases hp with rfl | rfl
    ·by_cases h5:(Zj 64 p).length=2
     ·obtain ⟨x,y,e2⟩:=Zhe h5
      rcases ZbZ (c:=64) z with z2 | ⟨q,hq,z2⟩
      ·exact absurd z2 h.no.2.2.1
      ·rw [e2] at hq
       simp only [List.mem_cons,List.not_mem_nil,or_false] at hq
       have:=Zk4 (Zbz z2 h.al)
       rcases hq with rfl | rfl
       ·exact Zan e e2 (.inr (.inl this))
       ·exact Zan e e2 (.inr (.inr this))
     ·exact Zgt e h5
    ·exact ZdX e z h.al h.no.2.2.2.1
  ·exact Zig h4
 | n+4 =>
  show Zeo t=false
  by_cases h4:(Zj 32 t).length=2
  ·obtain ⟨a,b,e⟩:=Zhe h4
   rcases ZbZ (c:=32) hc with z | ⟨p,hp,z⟩
   ·exact absurd z h.no.2.2.2.2
   ·rw [e] at hp
    simp only [List.mem_cons,List.not_mem_nil,or_false] at hp
    rcases hp with rfl | rfl
    ·exact Zbe e (.inl (ZcD (fun _=>Zfg) (ZcB z h.al h.no.1)))
    ·exact Zbe e (.inr (Zkr (Zbz z h.al)))
  ·exact Zev h4
def ZkV:List Nat:=[33,35,36,38,40,41,43,46,58,59,60,62,63,65,66,67,88,89,90,91,93,95,94,123,125,126,124,10,9]
theorem Zjy:∀ c∈ZkV,Zki c:=by
 intro c hc
 have:∀ c∈ZkV,(¬ (48≤c∧c≤57)∧¬ (97≤c∧c≤122))∧(c≠45∧c≠42)∧c≠47∧c≠61∧c≠64∧c≠44∧c≠32:=by decide
 have:=this c hc
 exact ⟨⟨this.1,this.2.1⟩,this.2.2⟩
theorem ZnF (T:List Nat) (j:Int) (hT:T.length≤1000) (h0:0≤j) (h1:j≤T.length):slD (.str (toS T)) none (some j)=some (.str (toS (T.take j.toNat))):=by
 show (if (toS T).length≤sizeLine then some (D.str (Txt.slice (toS T) none (some j))) else none)=_
 rw [if_pos (by rw [Zai];exact Nat.le_trans hT (by decide))]
 congr 2
 have:=Zni (toS T) j.toNat (by rw [Zbo];omega)
 rw [show ((j.toNat:Nat):Int)=j by omega] at this
 exact ZaC this
theorem ZlN (T:List Nat) (j:Int) (hT:T.length≤1000) (h0:0≤j) (h1:j≤T.length):slD (.str (toS T)) (some j) none=some (.str (toS (T.drop j.toNat))):=by
 show (if (toS T).length≤sizeLine then some (D.str (Txt.slice (toS T) (some j) none)) else none)=_
 rw [if_pos (by rw [Zai];exact Nat.le_trans hT (by decide))]
 congr 2
 have:=ZhN (toS T) j.toNat (by rw [Zbo];omega)
 rw [show ((j.toNat:Nat):Int)=j by omega] at this
 exact ZaC this
def ZiQ (W N:List Nat):List (List Nat):=[W++[47]++N,N++[47]++W,[48,47]++fgs N,[48,64,49,61]++W,W++[32]++N]
theorem Zko (w:Nat) (hw:w<5) {ws:List Int} (hl:ws.length=24) (hp:∀ y∈ws,0≤y∧y<33554432) {W N:List Nat} (hW:IsW W) (hN:IsN N) :
  ∃ t,Zd5 [.val (.int (w:Int)),.val (.lst (ws.map D.int)),.val (.str (toS W)),.val (.str (toS N))]=some (.val (.str (toS t)))∧t.length≤100∧okW w t=false:=by
 have lw:=hW.len
 have ln:=hN.len
 have lf:=hN.flen
 have st:=ZlM hN
 obtain ⟨d,hd,hmem⟩:=Zhq (xs:=tL (ZiQ W N)) (i:=(w:Int)) (by omega) (by simp only [tL,ZiQ,List.length_map,List.length_cons,List.length_nil];omega)
 obtain ⟨T,hT,rfl⟩:=Zlc hmem
 have hi:ixD (.lst (tL (ZiQ W N))) (.int (w:Int))=some (.str (toS T)):=hd
 have lT:T.length≤50:=by
  simp only [ZiQ,List.mem_cons,List.not_mem_nil,or_false] at hT
  rcases hT with rfl | rfl | rfl | rfl | rfl<;>simp only [List.length_append,List.length_cons,List.length_nil]<;>omega
 have hi:ixD (.lst [.str (toS (W++[47]++N)),.str (toS (N++[47]++W)),.str (toS ([48,47]++fgs N)),.str (toS ([48,64,49,61]++W)),.str (toS (W++[32]++N))]) (.int (w:Int))=some (.str (toS T)):=hi
 obtain ⟨y3,i3,y30⟩:=Zgw hl hp 3 (by omega) (by omega)
 obtain ⟨y4,i4,y40⟩:=Zgw hl hp 4 (by omega) (by omega)
 have hlen:ZaR [.str (toS T)]=some (.int (T.length:Int)):=by
  have hz:(toS T).length≤sizeLine:=by rw [Zai];exact Nat.le_trans lT (by decide)
  have:ZaR [.str (toS T)]=some (.int ((toS T).length:Int)):=by simp [hz]
  rw [this,Zai]
 have had:Zq (.int (T.length:Int)) (.int 1)=some (.int ((T.length:Int)+1)):=rfl
 have hm:=ZcJ y3 ((T.length:Int)+1) (by omega)
 have j0:0≤y3%((T.length:Int)+1):=Int.emod_nonneg _ (by omega)
 have j1:y3%((T.length:Int)+1)≤T.length:=by have:=Int.emod_lt_of_pos y3 (show (0:Int)<(T.length:Int)+1 by omega);omega
 have hm2:=ZcJ y4 29 (by omega)
 have k0:0≤y4%29:=Int.emod_nonneg _ (by omega)
 have k1:y4%29<29:=Int.emod_lt_of_pos y4 (by omega)
 obtain ⟨c,hc,hcm⟩:=Zkb (z:=toS ZkV) (i:=y4%29) (by rw [Zai];decide) k0 (by rw [Zai];exact k1)
 have hcm:c∈ZkV:=hcm
 have hc:ixD (.str (toS [33,35,36,38,40,41,43,46,58,59,60,62,63,65,66,67,88,89,90,91,93,95,94,123,125,126,124,10,9])) (.int (y4%29))=some (.str (toS [c])):=hc
 generalize y3%((T.length:Int)+1)=j at *
 generalize y4%29=k at *
 have s1:=ZnF T j (by omega) j0 j1
 have s2:=ZlN T j (by omega) j0 j1
 have a1:=Zd3 (T.take j.toNat) [c] (by simp only [List.length_take,List.length_cons,List.length_nil];omega)
 have a2:=Zd3 (T.take j.toNat++[c]) (T.drop j.toNat) (by simp only [List.length_append,List.length_take,List.length_drop,List.length_cons,List.length_nil];omega)
 refine ⟨T.take j.toNat++[c]++T.drop j.toNat,?_,by simp only [List.length_append,List.length_take,List.length_drop,List.length_cons,List.length_nil];omega,Zj3 w (c:=c) (by simp) (Zjy c hcm)⟩
 refine Zap rfl ?_
 show Zdy [.val (.int (w:Int)),.val (.lst (ws.map D.int)),.val (.str (toS W)),.val (.str (toS N)),.no,.no,.no]=_
 generalize ws.map D.int=WS at *
 generalize (T.length:Int)+1=n1 at *
 have p0:Zdg [.val (.int (w:Int)),.val (.lst WS),.val (.str (toS W)),.val (.str (toS N)),.no,.no,.no]=.next [.val (.int (w:Int)),.val (.lst WS),.val (.str (toS W)),.val (.str (toS N)),.val (.str (toS T)),.no,.no]:=by
  simp (disch:=((try simp only [List.length_append,List.length_cons,List.length_nil,List.length_replicate]);omega)) only [Zdg,q0,q1,q2,q3,q4,q5,q6,q7,q8,q9,q10,q11,q12,q13,q14,q15,q16,q17,q18,q19,q20,q21,q22,q23,q24,q25,q26,q27,q28,q29,q30,q31,q32,q33,q34,q35,q36,q37,q38,q39,q40,q41,q42,q43,q44,q45,q46,q47,q48,q49,q50,q51,q52,q53,q54,q55,q56,q57,Zu,ZC,ZP,Zbk,mtO,Zd,rdP,rdV,Zb,Zi,pks,pk,Zd3,st,List.set_cons_succ,List.set_cons_zero,List.getElem?_cons_succ,List.getElem?_cons_zero,Option.bind,Option.map,hi]
 simp only [Zdy,p0,ZeI,ZeG,ZeO,ZeT,ZeW,ZeR,q0,q1,q2,q3,q4,q5,q6,q7,q8,q9,q10,q11,q12,q13,q14,q15,q16,q17,q18,q19,q20,q21,q22,q23,q24,q25,q26,q27,q28,q29,q30,q31,q32,q33,q34,q35,q36,q37,q38,q39,q40,q41,q42,q43,q44,q45,q46,q47,q48,q49,q50,q51,q52,q53,q54,q55,q56,q57,Zo,Zu,Zz,sl3,asI,Zd,rdP,rdA,ZD,Zb,Zi,pks,pk,List.set_cons_succ,List.set_cons_zero,List.getElem?_cons_succ,List.getElem?_cons_zero,Option.bind,Option.map,i3,i4,hlen,had,hm,hm2,hc,s1,s2,a1,a2]
theorem Zpy (v:Int) (h:v.natAbs<10^30):IsN (iT v).cps.toList:=by
 rcases Zd1 v with ⟨m,rfl⟩ | ⟨m,hm,rfl⟩
 ·exact ⟨m,by simpa using h,.inl (Zdw m)⟩
 ·exact ⟨m,by simpa using h,.inr (Zdr hm)⟩
theorem ZoP (c:Int):∃ v q P a r r2 s:Int,v.natAbs<10^30∧ZeS (.int c) (.int 3)=some (.int q)∧ZkQ (.int 10) (.int 30)=some (.int P)∧ZbJ (.int q) (.int P)=some (.int a)∧ZbJ (.int c) (.int 2)=some (.int r)∧ZeX (.int 2) (.int r)=some (.int r2)∧ZkN (.int 1) (.int r2)=some (.int s)∧ZeX (.int a) (.int s)=some (.int v):=by
 have h1:ZeS (.int c) (.int 3)=some (.int (c / 3)):=by
  show (if Zgm c 3 then some (D.int (c / 3)) else none)=_
  rw [if_pos (by constructor<;>decide)]
 have h2:ZkQ (.int 10) (.int 30)=some (.int 1000000000000000000000000000000):=by
  show (if Zjf 10 30 then some (D.int (10^(30:Int).toNat)) else none)=_
  rw [if_pos (by decide)];rfl
 have h3:=ZcJ (c / 3) 1000000000000000000000000000000 (by decide)
 have h4:=ZcJ c 2 (by omega)
 have h5:ZeX (.int 2) (.int (c%2))=some (.int (2 * (c%2))):=by
  show (if CMul 2 (c%2) then some (D.int (2 * (c%2))) else none)=_
  rw [if_pos (by left;decide)]
 have h6:ZkN (.int 1) (.int (2 * (c%2)))=some (.int (1-2 * (c%2))):=rfl
 have hc:c%2=0∨c%2=1:=by omega
 have a0:0≤c / 3%1000000000000000000000000000000:=Int.emod_nonneg _ (by decide)
 have a1:c / 3%1000000000000000000000000000000<1000000000000000000000000000000:=Int.emod_lt_of_pos _ (by decide)
 have pw:(10:Nat)^30=1000000000000000000000000000000:=by decide
 generalize c / 3%1000000000000000000000000000000=a at *
 have h7:ZeX (.int a) (.int (1-2 * (c%2)))=some (.int (a * (1-2 * (c%2)))):=by
  show (if CMul a (1-2 * (c%2)) then some (D.int (a * (1-2 * (c%2)))) else none)=_
  rw [if_pos]
  right
  rcases hc with e | e<;>rw [e]<;>decide
 refine ⟨a * (1-2 * (c%2)),_,_,a,_,_,_,?_,h1,h2,h3,h4,h5,h6,h7⟩
 rw [pw]
 rcases hc with e | e<;>rw [e]<;>simp<;>omega
theorem Zlx (W:List Nat) (j:Int) (h0:0≤j) (h1:j<8) (w:Nat):∃ d,ixD (.lst [.non,.int 7,.bl true,.tup [.str (toS W)],.lst [.str (toS W)],.int 0,.tup [],.bl false]) (.int j)=some d∧Bad w d:=by
 obtain ⟨d,hd,hm⟩:=Zhq (xs:=([.non,.int 7,.bl true,.tup [.str (toS W)],.lst [.str (toS W)],.int 0,.tup [],.bl false]:List D)) (i:=j) h0 (by simpa using h1)
 refine ⟨d,hd,.inl ?_⟩
 simp only [List.mem_cons,List.not_mem_nil,or_false] at hm
 rcases hm with rfl | rfl | rfl | rfl | rfl | rfl | rfl | rfl<;>simp
theorem turn (ns:List Int) (k c:Int) (s3 s4 s5 s6 s7:Sl):∃ t3 t4 t5 t6 t7,Zeq [.val (.lst (ns.map D.int)),.val (.int k),.val (.int c),s3,s4,s5,s6,s7]=.next [.val (.lst (ns.map D.int)),.val (.int k),.val (.int c),t3,t4,t5,t6,t7]:=by
 have c0:=Zfu (.val (.lst (ns.map D.int))) ns (.inl rfl) 0 (by omega)
 have c1:=Zfu (.val (.lst (ns.map D.int))) ns (.inl rfl) 1 (by omega)
 generalize ns.getD (0:Int).toNat 0=x0 at *
 generalize ns.getD (1:Int).toNat 0=x1 at *
 generalize ns.map D.int=NS at *
 obtain ⟨ws,hs,hl,hp⟩:=ZlK c k
 have a0:Zq (.int x0) (.int k)=some (.int (x0+k)):=rfl
 have m1:=ZcJ x1 12 (by omega)
 have m10:0≤x1%12:=Int.emod_nonneg _ (by omega)
 have m11:x1%12<12:=Int.emod_lt_of_pos _ (by omega)
 obtain ⟨z,hz,zl,zg⟩:=ZnY (x0+k) (x1%12).toNat (by omega)
 rw [show (((x1%12).toNat:Nat):Int)=x1%12 by omega] at hz
 have hW:IsW z.cps.toList:=⟨zg,by omega⟩
 rw [← ZlG z] at hz
 generalize z.cps.toList=W at *
 obtain ⟨v,q,P,a,r,q2,s,hv,n1,n2,n3,n4,n5,n6,n7⟩:=ZoP c
 have hN:=Zpy v hv
 have hwr:Zbp [.val (.int v)]=some (.val (.str (iT v))):=Zh4 (.int v) (show v.natAbs<10^60 from Nat.lt_trans hv (by decide))
 rw [← ZlG (iT v)] at hwr
 generalize (iT v).cps.toList=N at *
 obtain ⟨y0,i0,y00⟩:=Zgw hl hp 0 (by omega) (by omega)
 obtain ⟨y1,i1,y10⟩:=Zgw hl hp 1 (by omega) (by omega)
 obtain ⟨y2,i2,y20⟩:=Zgw hl hp 2 (by omega) (by omega)
 have mw:=ZcJ y0 5 (by omega)
 have w0:0≤y0%5:=Int.emod_nonneg _ (by omega)
 have w1:y0%5<5:=Int.emod_lt_of_pos _ (by omega)
 obtain ⟨w,ew⟩:∃ w:Nat,y0%5=(w:Int):=⟨(y0%5).toNat,by omega⟩
 rw [ew] at mw w1
 have hw5:w<5:=by omega
 have m4:=ZcJ y1 4 (by omega)
 have m16:=ZcJ y1 16 (by omega)
 have m8:=ZcJ y2 8 (by omega)
 have e4:=ZiR (y1%4) 0
 have e16:=ZiR (y1%16) 3
 obtain ⟨t,ht,tl,tb⟩:=ZnM w hw5 hl hp hW hN
 obtain ⟨u,hu,ul,ub⟩:=Zko w hw5 hl hp hW hN
 obtain ⟨d,hd,db⟩:=Zlx W (y2%8) (Int.emod_nonneg _ (by omega)) (Int.emod_lt_of_pos _ (by omega)) w
 have r1:=ZfA w hw5 (.str (toS t)) (.inr ⟨t,rfl,tl,tb⟩)
 have r2:=ZfA w hw5 (.str (toS u)) (.inr ⟨u,rfl,ul,ub⟩)
 have r3:=ZfA w hw5 d db
 generalize ws.map D.int=WS at *
 generalize decide (y1%4=0)=b4 at *
 generalize decide (y1%16=3)=b16 at *
 generalize y1%4=j4 at *
 generalize y1%16=j16 at *
 generalize y2%8=j8 at *
 generalize x1%12=j12 at *
 cases b16 with
 | true =>
  refine ⟨.val (.lst WS),.val (.str (toS W)),.val (.str (toS N)),.val (.int (w:Int)),.val d,?_⟩
  cases b4<;>simp (disch:=((try simp only [List.length_cons,List.length_nil]);omega)) only [Zeq,Zo,ZH,Zu,Zz,ZC,ZP,Zbk,Zbg,Zae,asB,Zd,rdP,rdV,rdA,Zr,Zb,Zi,Z0,List.set_cons_succ,List.set_cons_zero,List.getElem?_cons_succ,List.getElem?_cons_zero,Option.bind,Option.map,hs,c0,c1,a0,m1,hz,n1,n2,n3,n4,n5,n6,n7,hwr,i0,i1,i2,mw,m4,m16,m8,e4,e16,ht,hu,hd,r1,r2,r3,Bool.not_true]
 | false =>
  cases b4 with
  | true =>
   refine ⟨.val (.lst WS),.val (.str (toS W)),.val (.str (toS N)),.val (.int (w:Int)),.val (.str (toS u)),?_⟩
   simp (disch:=((try simp only [List.length_cons,List.length_nil]);omega)) only [Zeq,Zo,ZH,Zu,Zz,ZC,ZP,Zbk,Zbg,Zae,asB,Zd,rdP,rdV,rdA,Zr,Zb,Zi,Z0,List.set_cons_succ,List.set_cons_zero,List.getElem?_cons_succ,List.getElem?_cons_zero,Option.bind,Option.map,hs,c0,c1,a0,m1,hz,n1,n2,n3,n4,n5,n6,n7,hwr,i0,i1,i2,mw,m4,m16,m8,e4,e16,ht,hu,hd,r1,r2,r3,Bool.not_true]
  | false =>
   refine ⟨.val (.lst WS),.val (.str (toS W)),.val (.str (toS N)),.val (.int (w:Int)),.val (.str (toS t)),?_⟩
   simp (disch:=((try simp only [List.length_cons,List.length_nil]);omega)) only [Zeq,Zo,ZH,Zu,Zz,ZC,ZP,Zbk,Zbg,Zae,asB,Zd,rdP,rdV,rdA,Zr,Zb,Zi,Z0,List.set_cons_succ,List.set_cons_zero,List.getElem?_cons_succ,List.getElem?_cons_zero,Option.bind,Option.map,hs,c0,c1,a0,m1,hz,n1,n2,n3,n4,n5,n6,n7,hwr,i0,i1,i2,mw,m4,m16,m8,e4,e16,ht,hu,hd,r1,r2,r3,Bool.not_true]
theorem run (ns:List Int):∀ (xs:List Int) (k:Nat) (s1 s2 s3 s4 s5 s6 s7:Sl),∃ t1 t2 t3 t4 t5 t6 t7,ZdP (ZiX 2 (ZeJ (ZF 1) (ZeJ (ZF 2) Zkp))) Zeq (Zdi k (xs.map D.int)) [.val (.lst (ns.map D.int)),s1,s2,s3,s4,s5,s6,s7]=.next [.val (.lst (ns.map D.int)),t1,t2,t3,t4,t5,t6,t7]
 | [],k,s1,s2,s3,s4,s5,s6,s7=>⟨s1,s2,s3,s4,s5,s6,s7,rfl⟩
 | x::xs,k,s1,s2,s3,s4,s5,s6,s7=>by
  obtain ⟨a3,a4,a5,a6,a7,h⟩:=turn ns (k:Int) x s3 s4 s5 s6 s7
  obtain ⟨t1,t2,t3,t4,t5,t6,t7,ih⟩:=run ns xs (k+1) (.val (.int (k:Int))) (.val (.int x)) a3 a4 a5 a6 a7
  refine ⟨t1,t2,t3,t4,t5,t6,t7,?_⟩
  have hb:ZiX 2 (ZeJ (ZF 1) (ZeJ (ZF 2) Zkp)) (.tup [.int (k:Int),.int x]) [.val (.lst (ns.map D.int)),s1,s2,s3,s4,s5,s6,s7]=some [.val (.lst (ns.map D.int)),.val (.int (k:Int)),.val (.int x),s3,s4,s5,s6,s7]:=rfl
  simp only [List.map_cons,Zdi,ZdP,hb,h]
  exact ih
theorem ZmN (ns:List Int) (hl:ns.length≤63):Znh [.val (.lst (ns.map D.int))]=some (.val (.bl true)):=by
 have c2:=Zfu (.val (.lst (ns.map D.int))) ns (.inl rfl) 2 (by omega)
 generalize ns.getD (2:Int).toNat 0=x at *
 have hcut:slD (.lst (ns.map D.int)) (some 3) (some 33)=some (.lst (((ns.drop 3).take 30).map D.int)):=by
  show some (D.lst (ZcI (ns.map D.int) (some 3) (some 33)))=_
  rw [ZjG,ZnQ _ _ _ (by omega) (by omega)];rfl
 have had:Zq (.lst [.int x]) (.lst (((ns.drop 3).take 30).map D.int))=some (.lst ((x::(ns.drop 3).take 30).map D.int)):=by
  rw [ZcR _ _ (by simp only [List.length_cons,List.length_nil,List.length_map,List.length_take,List.length_drop];omega)]
  rfl
 obtain ⟨t1,t2,t3,t4,t5,t6,t7,h⟩:=run ns (x::(ns.drop 3).take 30) 0 .no .no .no .no .no .no .no
 refine Zap rfl ?_
 show ZiT [.val (.lst (ns.map D.int)),.no,.no,.no,.no,.no,.no,.no]=_
 generalize (x::(ns.drop 3).take 30).map D.int=R at *
 generalize ((ns.drop 3).take 30).map D.int=R2 at *
 generalize ns.map D.int=NS at *
 simp (disch:=((try simp only [List.length_cons,List.length_nil]);omega)) only [ZiT,Zo,Zg3,Zz,ZiO,ZcZ,ZC,ZP,Zbk,sl3,asI,Zd,rdP,rdA,Zr,Zb,Zi,Z0,List.getElem?_cons_zero,Option.bind,Option.map,c2,hcut,had,h]
def top (i:Nat):Stmt:=PySem.Challenge.pw_cubebook_k82_no_text.main.body.getD i (.Pass ⟨0,0,0,0⟩)
abbrev Zci:Stmt:=top 14
abbrev Zaf:Stmt:=top 18
abbrev ZbK:Stmt:=top 19
abbrev ZbH:Stmt:=top 20
abbrev ZbD:Stmt:=top 21
abbrev Zab:Stmt:=top 22
abbrev Zcx:Stmt:=top 23
abbrev Zbd:Stmt:=top 24
abbrev ZaI:Stmt:=top 25
abbrev Zar:Stmt:=top 26
abbrev Zaj:Stmt:=top 27
abbrev ZaK:Stmt:=top 28
abbrev Zcu:Stmt:=top 29
abbrev Zbm:Stmt:=top 31
abbrev ZbO:Stmt:=top 32
abbrev ZcC:Stmt:=top 33
abbrev Zbj:Stmt:=top 35
abbrev ZcE:Stmt:=top 36
abbrev Zbl:Stmt:=top 37
abbrev ZaG:Stmt:=top 38
abbrev ZaH:Stmt:=top 39
abbrev ZaT:Stmt:=top 40
abbrev Zbb:Stmt:=top 41
abbrev Zbv:Stmt:=top 42
abbrev Zbi:Stmt:=top 43
abbrev Zgz:Stmt:=top 44
structure AD where
 a0:Addr
 d0:FuncData
 a1:Addr
 d1:FuncData
 a2:Addr
 d2:FuncData
 a3:Addr
 d3:FuncData
 a4:Addr
 d4:FuncData
 a5:Addr
 d5:FuncData
 a6:Addr
 d6:FuncData
 a7:Addr
 d7:FuncData
 a8:Addr
 d8:FuncData
 a9:Addr
 d9:FuncData
 a10:Addr
 d10:FuncData
 a11:Addr
 d11:FuncData
 a12:Addr
 d12:FuncData
 a13:Addr
 d13:FuncData
 a14:Addr
 d14:FuncData
 a15:Addr
 d15:FuncData
 a16:Addr
 d16:FuncData
 a17:Addr
 d17:FuncData
 a18:Addr
 d18:FuncData
 a19:Addr
 d19:FuncData
 a20:Addr
 d20:FuncData
 a21:Addr
 d21:FuncData
 a22:Addr
 d22:FuncData
 a23:Addr
 d23:FuncData
 a24:Addr
 d24:FuncData
 a25:Addr
 d25:FuncData
 a_CubeError:Addr
 a_NoGrain:Addr
 a_NoLadder:Addr
 a_NoPick:Addr
 a_NoRow:Addr
 a_NoSuch:Addr
 a_NoText:Addr
 a_NoValue:Addr
 a_TooMuch:Addr
structure Tx (K:PySem.W.Frag) (mg:Str→Option Value) (d:AD):Prop where
 m0:mg "is_word"=some (.ref d.a0)
 F0:Fun K "is_word" "is_word" Zci d.a0 d.d0
 b0:Binds K d.d0 ["thing"] []
 m1:mg "is_written_whole"=some (.ref d.a1)
 F1:Fun K "is_written_whole" "is_written_whole" Zaf d.a1 d.d1
 b1:Binds K d.d1 ["text"] []
 m2:mg "read_whole"=some (.ref d.a2)
 F2:Fun K "read_whole" "read_whole" ZbK d.a2 d.d2
 b2:Binds K d.d2 ["text"] []
 m3:mg "read_place"=some (.ref d.a3)
 F3:Fun K "read_place" "read_place" ZbH d.a3 d.d3
 b3:Binds K d.d3 ["text"] []
 m4:mg "read_value"=some (.ref d.a4)
 F4:Fun K "read_value" "read_value" ZbD d.a4 d.d4
 b4:Binds K d.d4 ["text"] []
 m5:mg "read_value_or_whole"=some (.ref d.a5)
 F5:Fun K "read_value_or_whole" "read_value_or_whole" Zab d.a5 d.d5
 b5:Binds K d.d5 ["text"] []
 m6:mg "parts_of"=some (.ref d.a6)
 F6:Fun K "parts_of" "parts_of" Zcx d.a6 d.d6
 b6:Binds K d.d6 ["text","sign"] []
 m7:mg "few_parts_of"=some (.ref d.a7)
 F7:Fun K "few_parts_of" "few_parts_of" Zbd d.a7 d.d7
 b7:Binds K d.d7 ["text"] []
 m8:mg "read_key"=some (.ref d.a8)
 F8:Fun K "read_key" "read_key" ZaI d.a8 d.d8
 b8:Binds K d.d8 ["text"] []
 m9:mg "read_line"=some (.ref d.a9)
 F9:Fun K "read_line" "read_line" Zar d.a9 d.d9
 b9:Binds K d.d9 ["text"] []
 m10:mg "read_grain"=some (.ref d.a10)
 F10:Fun K "read_grain" "read_grain" Zaj d.a10 d.d10
 b10:Binds K d.d10 ["text"] []
 m11:mg "read_pick"=some (.ref d.a11)
 F11:Fun K "read_pick" "read_pick" ZaK d.a11 d.d11
 b11:Binds K d.d11 ["text"] []
 m12:mg "read_row"=some (.ref d.a12)
 F12:Fun K "read_row" "read_row" Zcu d.a12 d.d12
 b12:Binds K d.d12 ["text"] []
 m13:mg "_law_cell_at"=some (.ref d.a13)
 F13:Fun K "_law_cell_at" "_law_cell_at" Zbm d.a13 d.d13
 b13:Binds K d.d13 ["_law_script","_law_k"] []
 m14:mg "_law_stream"=some (.ref d.a14)
 F14:Fun K "_law_stream" "_law_stream" ZbO d.a14 d.d14
 b14:Binds K d.d14 ["_law_cell","_law_place"] []
 m15:mg "_law_word"=some (.ref d.a15)
 F15:Fun K "_law_word" "_law_word" ZcC d.a15 d.d15
 b15:Binds K d.d15 ["_law_cell","_law_many"] []
 m16:mg "_law_written"=some (.ref d.a16)
 F16:Fun K "_law_written" "_law_written" Zbj d.a16 d.d16
 b16:Binds K d.d16 ["_law_thing_here"] []
 m17:mg "_law_read"=some (.ref d.a17)
 F17:Fun K "_law_read" "_law_read" ZcE d.a17 d.d17
 b17:Binds K d.d17 ["_law_way","_law_text_here"] []
 m18:mg "_law_refused"=some (.ref d.a18)
 F18:Fun K "_law_refused" "_law_refused" Zbl d.a18 d.d18
 b18:Binds K d.d18 ["_law_way","_law_text_here"] []
 m19:mg "_law_odd_things"=some (.ref d.a19)
 F19:Fun K "_law_odd_things" "_law_odd_things" ZaG d.a19 d.d19
 b19:Binds K d.d19 ["_law_word_here","_law_number"] []
 m20:mg "_law_odd_places"=some (.ref d.a20)
 F20:Fun K "_law_odd_places" "_law_odd_places" ZaH d.a20 d.d20
 b20:Binds K d.d20 ["_law_word_here","_law_number"] []
 m21:mg "_law_odd_picks"=some (.ref d.a21)
 F21:Fun K "_law_odd_picks" "_law_odd_picks" ZaT d.a21 d.d21
 b21:Binds K d.d21 ["_law_word_here","_law_number"] []
 m22:mg "_law_odd_rows"=some (.ref d.a22)
 F22:Fun K "_law_odd_rows" "_law_odd_rows" Zbb d.a22 d.d22
 b22:Binds K d.d22 ["_law_word_here","_law_number"] []
 m23:mg "_law_text"=some (.ref d.a23)
 F23:Fun K "_law_text" "_law_text" Zbv d.a23 d.d23
 b23:Binds K d.d23 ["_law_way","_law_s","_law_word_here","_law_number"] []
 m24:mg "_law_spoiled"=some (.ref d.a24)
 F24:Fun K "_law_spoiled" "_law_spoiled" Zbi d.a24 d.d24
 b24:Binds K d.d24 ["_law_way","_law_s","_law_word_here","_law_number"] []
 m25:mg "law"=some (.ref d.a25)
 F25:Fun K "law" "law" Zgz d.a25 d.d25
 b25:Binds K d.d25 ["_law_script"] []
 n_ValueError:mg "ValueError"=none
 n_abs:mg "abs"=none
 n_all:mg "all"=none
 n_any:mg "any"=none
 n_enumerate:mg "enumerate"=none
 n_int:mg "int"=none
 n_isinstance:mg "isinstance"=none
 n_len:mg "len"=none
 n_range:mg "range"=none
 n_str:mg "str"=none
 n_tuple:mg "tuple"=none
 g_FIGURES:∃ u,mg "FIGURES"=some u∧RelV (.str "0123456789") u
 g_LETTERS:∃ u,mg "LETTERS"=some u∧RelV (.str "abcdefghijklmnopqrstuvwxyz") u
 g_LONGEST_WORD:∃ u,mg "LONGEST_WORD"=some u∧RelV (.int (12)) u
 g_MOST_FIGURES:∃ u,mg "MOST_FIGURES"=some u∧RelV (.int (60)) u
 g_MOST_PARTS:∃ u,mg "MOST_PARTS"=some u∧RelV (.int (4)) u
 m_CubeError:mg "CubeError"=some (.ref d.a_CubeError)
 q_CubeError:PySem.W.nsIn K mainGlobals "CubeError"=some (some (.ref d.a_CubeError))
 m_NoGrain:mg "NoGrain"=some (.ref d.a_NoGrain)
 q_NoGrain:PySem.W.nsIn K mainGlobals "NoGrain"=some (some (.ref d.a_NoGrain))
 m_NoLadder:mg "NoLadder"=some (.ref d.a_NoLadder)
 q_NoLadder:PySem.W.nsIn K mainGlobals "NoLadder"=some (some (.ref d.a_NoLadder))
 m_NoPick:mg "NoPick"=some (.ref d.a_NoPick)
 q_NoPick:PySem.W.nsIn K mainGlobals "NoPick"=some (some (.ref d.a_NoPick))
 m_NoRow:mg "NoRow"=some (.ref d.a_NoRow)
 q_NoRow:PySem.W.nsIn K mainGlobals "NoRow"=some (some (.ref d.a_NoRow))
 m_NoSuch:mg "NoSuch"=some (.ref d.a_NoSuch)
 q_NoSuch:PySem.W.nsIn K mainGlobals "NoSuch"=some (some (.ref d.a_NoSuch))
 m_NoText:mg "NoText"=some (.ref d.a_NoText)
 q_NoText:PySem.W.nsIn K mainGlobals "NoText"=some (some (.ref d.a_NoText))
 m_NoValue:mg "NoValue"=some (.ref d.a_NoValue)
 q_NoValue:PySem.W.nsIn K mainGlobals "NoValue"=some (some (.ref d.a_NoValue))
 m_TooMuch:mg "TooMuch"=some (.ref d.a_TooMuch)
 q_TooMuch:PySem.W.nsIn K mainGlobals "TooMuch"=some (some (.ref d.a_TooMuch))
 k_NoText:XMk K d.a_NoText
 f_NoText:Za3 K d.a_NoText
 p_NoText_NoGrain:PySem.W.kitOne K (.ref d.a_NoText) (.ref d.a_NoGrain)=some (ZU "NoGrain" "NoText")
 p_NoText_NoLadder:PySem.W.kitOne K (.ref d.a_NoText) (.ref d.a_NoLadder)=some (ZU "NoLadder" "NoText")
 p_NoText_NoPick:PySem.W.kitOne K (.ref d.a_NoText) (.ref d.a_NoPick)=some (ZU "NoPick" "NoText")
 p_NoText_NoRow:PySem.W.kitOne K (.ref d.a_NoText) (.ref d.a_NoRow)=some (ZU "NoRow" "NoText")
 p_NoText_NoSuch:PySem.W.kitOne K (.ref d.a_NoText) (.ref d.a_NoSuch)=some (ZU "NoSuch" "NoText")
 p_NoText_NoText:PySem.W.kitOne K (.ref d.a_NoText) (.ref d.a_NoText)=some (ZU "NoText" "NoText")
 p_NoText_NoValue:PySem.W.kitOne K (.ref d.a_NoText) (.ref d.a_NoValue)=some (ZU "NoValue" "NoText")
 p_NoText_TooMuch:PySem.W.kitOne K (.ref d.a_NoText) (.ref d.a_TooMuch)=some (ZU "TooMuch" "NoText")
 p_NoText_ValueError:PySem.W.kitOne K (.ref d.a_NoText) (.type "ValueError")=some (ZU "ValueError" "NoText")
 x_NoText_CubeError:PySem.W.exmOne K (.ref d.a_NoText) (.ref d.a_CubeError)=some true
section
variable {P:Program} {w:World} {K:PySem.W.Frag} {mg:Str→Option Value} {base:Heap} {d:AD}
theorem ZdS {c:Str} (h:CS.contains c=true):c="NoText":=by
 simpa [CS] using h
theorem Zix (T:Tx K mg d):∀ c D,CS.contains c=true→PySem.W.nsIn K mainGlobals c=some (some (.ref D))→PySem.W.exmOne K (.ref D) (.ref d.a_CubeError)=some true:=by
 intro c D h e
 rcases ZdS h with rfl
 ·have z:=e.symm.trans T.q_NoText;cases z;exact T.x_NoText_CubeError
theorem ZjT (T:Tx K mg d):∀ c D,CS.contains c=true→PySem.W.nsIn K mainGlobals c=some (some (.ref D))→Za3 K D∧PySem.W.kitOne K (.ref D) (.ref d.a_NoGrain)=some (ZU "NoGrain" c):=by
 intro c D h e
 rcases ZdS h with rfl
 ·have z:=e.symm.trans T.q_NoText;cases z;exact ⟨T.f_NoText,T.p_NoText_NoGrain⟩
theorem ZjQ (T:Tx K mg d):∀ c D,CS.contains c=true→PySem.W.nsIn K mainGlobals c=some (some (.ref D))→Za3 K D∧PySem.W.kitOne K (.ref D) (.ref d.a_NoLadder)=some (ZU "NoLadder" c):=by
 intro c D h e
 rcases ZdS h with rfl
 ·have z:=e.symm.trans T.q_NoText;cases z;exact ⟨T.f_NoText,T.p_NoText_NoLadder⟩
theorem ZkK (T:Tx K mg d):∀ c D,CS.contains c=true→PySem.W.nsIn K mainGlobals c=some (some (.ref D))→Za3 K D∧PySem.W.kitOne K (.ref D) (.ref d.a_NoPick)=some (ZU "NoPick" c):=by
 intro c D h e
 rcases ZdS h with rfl
 ·have z:=e.symm.trans T.q_NoText;cases z;exact ⟨T.f_NoText,T.p_NoText_NoPick⟩
theorem Zl1 (T:Tx K mg d):∀ c D,CS.contains c=true→PySem.W.nsIn K mainGlobals c=some (some (.ref D))→Za3 K D∧PySem.W.kitOne K (.ref D) (.ref d.a_NoRow)=some (ZU "NoRow" c):=by
 intro c D h e
 rcases ZdS h with rfl
 ·have z:=e.symm.trans T.q_NoText;cases z;exact ⟨T.f_NoText,T.p_NoText_NoRow⟩
theorem Zk9 (T:Tx K mg d):∀ c D,CS.contains c=true→PySem.W.nsIn K mainGlobals c=some (some (.ref D))→Za3 K D∧PySem.W.kitOne K (.ref D) (.ref d.a_NoSuch)=some (ZU "NoSuch" c):=by
 intro c D h e
 rcases ZdS h with rfl
 ·have z:=e.symm.trans T.q_NoText;cases z;exact ⟨T.f_NoText,T.p_NoText_NoSuch⟩
theorem ZkW (T:Tx K mg d):∀ c D,CS.contains c=true→PySem.W.nsIn K mainGlobals c=some (some (.ref D))→Za3 K D∧PySem.W.kitOne K (.ref D) (.ref d.a_NoText)=some (ZU "NoText" c):=by
 intro c D h e
 rcases ZdS h with rfl
 ·have z:=e.symm.trans T.q_NoText;cases z;exact ⟨T.f_NoText,T.p_NoText_NoText⟩
theorem ZjX (T:Tx K mg d):∀ c D,CS.contains c=true→PySem.W.nsIn K mainGlobals c=some (some (.ref D))→Za3 K D∧PySem.W.kitOne K (.ref D) (.ref d.a_NoValue)=some (ZU "NoValue" c):=by
 intro c D h e
 rcases ZdS h with rfl
 ·have z:=e.symm.trans T.q_NoText;cases z;exact ⟨T.f_NoText,T.p_NoText_NoValue⟩
theorem ZjZ (T:Tx K mg d):∀ c D,CS.contains c=true→PySem.W.nsIn K mainGlobals c=some (some (.ref D))→Za3 K D∧PySem.W.kitOne K (.ref D) (.ref d.a_TooMuch)=some (ZU "TooMuch" c):=by
 intro c D h e
 rcases ZdS h with rfl
 ·have z:=e.symm.trans T.q_NoText;cases z;exact ⟨T.f_NoText,T.p_NoText_TooMuch⟩
theorem ZhZ (T:Tx K mg d):∀ c D,CS.contains c=true→PySem.W.nsIn K mainGlobals c=some (some (.ref D))→Za3 K D∧PySem.W.kitOne K (.ref D) (.type "ValueError")=some (ZU "ValueError" c):=by
 intro c D h e
 rcases ZdS h with rfl
 ·have z:=e.symm.trans T.q_NoText;cases z;exact ⟨T.f_NoText,T.p_NoText_ValueError⟩
theorem ZkZ:ZI ["thing"] ["thing"] (Zn Zci):=⟨rfl,rfl,rfl,by decide +kernel,rfl,by decide +kernel,by decide +kernel⟩
theorem Zhi (T:Tx K mg d):FnOk P w K mg base CX0 1 d.a0 d.d0 ["thing"] (spD K ZaO) :=
 by
 refine Z2 (N:=["thing"]) (ps:=["thing"]) T.F0 ZkZ (by decide) (g:=ZbR) (fun cdv A outer s H E M H0 hr=>?_)
 refine Z1 (Ze (ZO (ZbU (ZaE (j_p (ZA ZdC Zgu (by rfl) T.n_isinstance (by rfl) (Za (Zs 0) (Za (Zg (ZdO (n:="str") (by rfl) T.n_str (by rfl))) Zc))))))
   (Ze (Zv Zcv)
   Zm)
   Zm)
   (Ze (ZO (ZfG (ZcY (ZeC hr.units (j_p (ZA Z8 ZaA (by rfl) T.n_len (by rfl) (Za (Zs 0) Zc))) (j_p Zk)) (Zcj (ZeD hr.units (j_p (ZA Z8 ZaA (by rfl) T.n_len (by rfl) (Za (Zs 0) Zc))) (j_p (ZbS (d:=.int (12)) (by rfl) T.g_LONGEST_WORD (fun _ _=>by simp only [Den])))))))
   (Ze (Zv Zcv)
   Zm)
   Zm)
   (Ze (Zv (Zhc (Zgv hr.units (j_p (Zx (Zl 0) (j_p Zk) (fun _ _=>rfl))) (j_p (ZbS (d:=.str "abcdefghijklmnopqrstuvwxyz") (by rfl) T.g_LETTERS (fun _ _=>by simp only [Den])))) (ZgU (ZA (ZjH rfl) Zls (by rfl) T.n_all (by rfl) (Za (Zg (Zal (Za9 ["sign"] [] [] (show ZR ["sign"] [] _ (Zn Zci) from ⟨rfl,by decide +kernel,by decide +kernel,by decide +kernel,by decide +kernel,by decide +kernel⟩) rfl rfl  (Zah (Zph 0)) (fun _ _ _ _ _ _ _=>(ZQ (i:=0) (show ((["sign"]:List Str)++([]:List Str)).Nodup by decide +kernel) rfl (Or.inl rfl))) (fun _ _ _ _ _ _ _=>Za0) (fun _ _ _ _ _ _ _=>(ZnB (Zgv hr.units (Zl 0) (j_p (ZbS (d:=.str "abcdefghijklmnopqrstuvwxyz") (by rfl) T.g_LETTERS (fun _ _=>by simp only [Den])))) (ZgU (Zgv hr.units (Zl 0) (j_p (ZbS (d:=.str "0123456789") (by rfl) T.g_FIGURES (fun _ _=>by simp only [Den]))))))) (by decide)))) Zc)))))
   Zm))) ?_
 rfl
theorem sc_is_written_whole:ZI ["text","figures"] ["text"] (Zn Zaf):=⟨rfl,rfl,rfl,by decide +kernel,rfl,by decide +kernel,by decide +kernel⟩
theorem Zdz (T:Tx K mg d):FnOk P w K mg base CX0 1 d.a1 d.d1 ["text"] (spD K ZaQ) :=
 by
 refine Z2 (N:=["text","figures"]) (ps:=["text"]) T.F1 sc_is_written_whole (by decide) (g:=Zd0) (fun cdv A outer s H E M H0 hr=>?_)
 refine Z1 (Ze (Zt (i:=1) sc_is_written_whole.nd rfl (Or.inl rfl) (Zei (ZaE (j_p (ZbQ PySem.F.plainAttrs_str PySem.F.slot_str_startswith PySem.F.type_str_startswith ZfW ZfU (Zl 0) (Za (Zg Zf) Zc)))) (Zct (Zl 0) (Zcl (j_p Zk)) ZdV) (Zda 0)))
   (Ze (ZO (ZfG (ZcY (ZeC hr.units (j_p (ZA Z8 ZaA (by rfl) T.n_len (by rfl) (Za (Zs 1) Zc))) (j_p Zk)) (Zcj (ZeD hr.units (j_p (ZA Z8 ZaA (by rfl) T.n_len (by rfl) (Za (Zs 1) Zc))) (j_p (ZbS (d:=.int (60)) (by rfl) T.g_MOST_FIGURES (fun _ _=>by simp only [Den])))))))
   (Ze (Zv Zcv)
   Zm)
   Zm)
   (Ze (ZO (ZfG (Zmq (ZaE (j_p (ZbQ PySem.F.plainAttrs_str PySem.F.slot_str_startswith PySem.F.type_str_startswith ZfW ZfU (Zl 1) (Za (Zg Zf) Zc)))) (ZlS (ZbA hr.units (Zl 0) (j_p Zf)))))
   (Ze (Zv Zcv)
   Zm)
   Zm)
   (Ze (Zv (ZA (ZjH rfl) Zls (by rfl) T.n_all (by rfl) (Za (Zg (Zal (Za9 ["sign"] [] [] (show ZR ["sign"] [] _ (Zn Zaf) from ⟨rfl,by decide +kernel,by decide +kernel,by decide +kernel,by decide +kernel,by decide +kernel⟩) rfl rfl  (Zah (Zph 1)) (fun _ _ _ _ _ _ _=>(ZQ (i:=0) (show ((["sign"]:List Str)++([]:List Str)).Nodup by decide +kernel) rfl (Or.inl rfl))) (fun _ _ _ _ _ _ _=>Za0) (fun _ _ _ _ _ _ _=>(Zgv hr.units (Zl 0) (j_p (ZbS (d:=.str "0123456789") (by rfl) T.g_FIGURES (fun _ _=>by simp only [Den]))))) (by decide)))) Zc)))
   Zm)))) ?_
 rfl
theorem ZgN:ZI ["text","sign"] ["text","sign"] (Zn Zcx):=⟨rfl,rfl,rfl,by decide +kernel,rfl,by decide +kernel,by decide +kernel⟩
theorem Zb8 (T:Tx K mg d):FnOk P w K mg base CX0 1 d.a6 d.d6 ["text","sign"] (spD K Zbx) :=
 by
 refine Z2 (N:=["text","sign"]) (ps:=["text","sign"]) T.F6 ZgN (by decide) (g:=Zen) (fun cdv A outer s H E M H0 hr=>?_)
 refine Z1 (Ze (ZO (ZbU (ZaE (j_p (ZA ZdC Zgu (by rfl) T.n_isinstance (by rfl) (Za (Zs 0) (Za (Zg (ZdO (n:="str") (by rfl) T.n_str (by rfl))) Zc))))))
   (Ze Zbt
   Zm)
   Zm)
   (Ze (Zv (ZbQ PySem.F.plainAttrs_str PySem.F.slot_str_split PySem.F.type_str_split ZdB ZdM (Zl 0) (Za (Zs 1) Zc)))
   Zm)) ?_
 rfl
theorem Zew (T:Tx K mg d):FnOk P w K mg base (CXv P w) 1 d.a6 d.d6 ["text","sign"] (spX K Zby) :=
 by
 refine Zb6 (N:=["text","sign"]) (ps:=["text","sign"]) T.F6 ZgN (by decide) (h:=Zcr) (fun cdv A outer s H E M H0 hr=>?_)
 refine Zbn (Zad (ZdR ZE (ZbU (ZaE (j_p (ZA ZdC Zgu (by rfl) T.n_isinstance (by rfl) (Za (Zs 0) (Za (Zg (ZdO (n:="str") (by rfl) T.n_str (by rfl))) Zc))))))
   (Zad (XT.s (ZdG ZE rfl rfl T.k_NoText T.q_NoText (by rfl) T.m_NoText (Za (Zg Zf) Zc))))
   Zca)) ?_
 rfl
theorem Zh8:ZI ["_law_script","_law_k"] ["_law_script","_law_k"] (Zn Zbm):=⟨rfl,rfl,rfl,by decide +kernel,rfl,by decide +kernel,by decide +kernel⟩
theorem ZdL (T:Tx K mg d):FnOk P w K mg base CX0 1 d.a13 d.d13 ["_law_script","_law_k"] (spD K ZaX) :=
 by
 refine Z2 (N:=["_law_script","_law_k"]) (ps:=["_law_script","_law_k"]) T.F13 Zh8 (by decide) (g:=ZcP) (fun cdv A outer s H E M H0 hr=>?_)
 refine Z1 (Ze (ZO (ZeC hr.units (Zl 1) (j_p (ZA Z8 ZaA (by rfl) T.n_len (by rfl) (Za (Zs 0) Zc))))
   (Ze (Zv (Zx (Zl 0) (Zl 1) (fun _ _=>rfl)))
   Zm)
   Zm)
   (Ze (Zv Zk)
   Zm)) ?_
 rfl
theorem sc_law_stream:ZI ["_law_cell","_law_place","_law_number","_law_some","_law_k"] ["_law_cell","_law_place"] (Zn ZbO):=⟨rfl,rfl,rfl,by decide +kernel,rfl,by decide +kernel,by decide +kernel⟩
theorem ZiG (T:Tx K mg d):FnOk P w K mg base CX0 1 d.a14 d.d14 ["_law_cell","_law_place"] (spD K Zdq) :=
 by
 refine Z2 (N:=["_law_cell","_law_place","_law_number","_law_some","_law_k"]) (ps:=["_law_cell","_law_place"]) T.F14 sc_law_stream (by decide) (g:=ZeE) (fun cdv A outer s H E M H0 hr=>?_)
 refine Z1 (Ze (Zt (i:=2) sc_law_stream.nd rfl (Or.inl rfl) (Zao (j_p (Zh (Zl 0) (j_p (Zez (j_p Zk) (Zl 1))))) (j_p Zk)))
   (Ze (Zly (i:=3) sc_law_stream.nd rfl (Or.inl rfl) (ZT Zc))
   (Ze (Zg1 PassesOwn.never rfl (ZgL (by rfl) T.n_range (Za (Zg Zk) Zc)) (ZQ (i:=4) sc_law_stream.nd rfl (Or.inl rfl))
   (Ze (Zt (i:=2) sc_law_stream.nd rfl (Or.inl rfl) (Zao (j_p (Zh (j_p (Zh (j_p (Zez (Zl 2) (j_p Zk))) (j_p (Zez (j_p Zk) (Zl 4))))) (j_p Zk))) (j_p Zk)))
   (Ze (Zj0 (i:=3) rfl (by first | exact Or.inl rfl | exact Or.inr (Or.inl rfl)) (ZeN (Zl 2) (j_p Zk)))
   Zm)))
   (Ze (Zv (Zct (Zl 3) (Zcl (j_p Zk)) ZdV))
   Zm)))) ?_
 rfl
theorem sc_law_word:ZI ["_law_cell","_law_many","_law_signs","_law_word_here","_law_k"] ["_law_cell","_law_many"] (Zn ZcC):=⟨rfl,rfl,rfl,by decide +kernel,rfl,by decide +kernel,by decide +kernel⟩
theorem Zj1 (T:Tx K mg d):FnOk P w K mg base CX0 1 d.a15 d.d15 ["_law_cell","_law_many"] (spD K Zeg) :=
 by
 refine Z2 (N:=["_law_cell","_law_many","_law_signs","_law_word_here","_law_k"]) (ps:=["_law_cell","_law_many"]) T.F15 sc_law_word (by decide) (g:=ZfJ) (fun cdv A outer s H E M H0 hr=>?_)
 refine Z1 (Ze (Zt (i:=2) sc_law_word.nd rfl (Or.inl rfl) Zf)
   (Ze (Zt (i:=3) sc_law_word.nd rfl (Or.inl rfl) (Zx (Zl 2) (j_p (Zao (Zl 0) (j_p Zk))) (fun _ _=>rfl)))
   (Ze (Zg1 PassesOwn.never rfl (ZgL (by rfl) T.n_range (Za (Zg (Zda 1)) Zc)) (ZQ (i:=4) sc_law_word.nd rfl (Or.inl rfl))
   (Ze (Zt (i:=3) sc_law_word.nd rfl (Or.inl rfl) (Zh (Zl 3) (j_p (Zx (Zl 2) (j_p (Zao (j_p (ZeN (Zl 0) (j_p (Zh (Zl 4) (j_p Zk))))) (j_p Zk))) (fun _ _=>rfl)))))
   Zm))
   (Ze (Zv (Zda 3))
   Zm)))) ?_
 rfl
theorem sc_law_written:ZI ["_law_thing_here","_law_figures","_law_rest"] ["_law_thing_here"] (Zn Zbj):=⟨rfl,rfl,rfl,by decide +kernel,rfl,by decide +kernel,by decide +kernel⟩
theorem Zic (T:Tx K mg d):FnOk P w K mg base CX0 1 d.a16 d.d16 ["_law_thing_here"] (spD K Zbp) :=
 by
 refine Z2 (N:=["_law_thing_here","_law_figures","_law_rest"]) (ps:=["_law_thing_here"]) T.F16 sc_law_written (by decide) (g:=ZcQ) (fun cdv A outer s H E M H0 hr=>?_)
 refine Z1 (Ze (ZO (Zmk (Zl 0))
   (Ze (Zv Zf)
   Zm)
   Zm)
   (Ze (ZO (ZbU (ZaE (j_p (ZA ZdC Zgu (by rfl) T.n_isinstance (by rfl) (Za (Zs 0) (Za (Zg (ZdO (n:="int") (by rfl) T.n_int (by rfl))) Zc))))))
   (Ze (Zv (Zda 0))
   Zm)
   Zm)
   (Ze (Zt (i:=1) sc_law_written.nd rfl (Or.inl rfl) Zf)
   (Ze (Zt (i:=2) sc_law_written.nd rfl (Or.inl rfl) (ZA Zmp Zo9 (by rfl) T.n_abs (by rfl) (Za (Zs 0) Zc)))
   (Ze (ZkL (fun _=>100) PassesOwn.never (ZfG (ZcY (ZeD hr.units (Zl 2) (j_p Zk)) (Zcj (ZW hr.units (Zl 1) (j_p Zf)))))
   (Ze (Zt (i:=1) sc_law_written.nd rfl (Or.inl rfl) (Zh (j_p (Zx (j_p Zf) (j_p (Zao (Zl 2) (j_p Zk))) (fun _ _=>rfl))) (Zl 1)))
   (Ze (Zt (i:=2) sc_law_written.nd rfl (Or.inl rfl) (ZeN (Zl 2) (j_p Zk)))
   Zm)))
   (Ze (Zv (Zei (ZmD hr.units (Zl 0) (j_p Zk)) (Zda 1) (Zh (j_p Zf) (Zl 1))))
   Zm)))))) ?_
 rfl
theorem sc_law_odd_things:ZI ["_law_word_here","_law_number","_law_some"] ["_law_word_here","_law_number"] (Zn ZaG):=⟨rfl,rfl,rfl,by decide +kernel,rfl,by decide +kernel,by decide +kernel⟩
theorem Zee (T:Tx K mg d):FnOk P w K mg base CX0 1 d.a19 d.d19 ["_law_word_here","_law_number"] (spD K ZbW) :=
 by
 refine Z2 (N:=["_law_word_here","_law_number","_law_some"]) (ps:=["_law_word_here","_law_number"]) T.F19 sc_law_odd_things (by decide) (g:=ZbX) (fun cdv A outer s H E M H0 hr=>?_)
 refine Z1 (Ze (Zt (i:=2) sc_law_odd_things.nd rfl (Or.inl rfl) (Zal (ZT (Za (Zg Zf) (Za (Zg Zf) (Za (Zg Zf) (Za (Zg Zf) (Za (Zg Zf) (Za (Zg (Zh (j_p Zf) (j_p (ZbQ PySem.F.plainAttrs_str PySem.F.slot_str_strip PySem.F.type_str_strip Zg7 Zhb (Zl 1) (Za (Zg Zf) Zc))))) (Za (Zg (Zh (j_p Zf) (j_p (ZbQ PySem.F.plainAttrs_str PySem.F.slot_str_strip PySem.F.type_str_strip Zg7 Zhb (Zl 1) (Za (Zg Zf) Zc))))) (Za (Zg Zf) (Za (Zg (Zh (Zl 1) (j_p Zf))) Zc))))))))))))
   (Ze (Zt (i:=2) sc_law_odd_things.nd rfl (Or.inl rfl) (Zh (Zl 2) (j_p (Zal (ZT (Za (Zg (Zh (Zl 1) (Zl 0))) (Za (Zg (Zmu PySem.F.plainAttrs_str PySem.F.slot_str_upper PySem.F.type_str_upper Zm4 ZmR (Zl 0))) (Za (Zg (Zh (Zl 0) (j_p Zf))) (Za (Zg (Zct (j_p (Zh (Zl 0) (j_p Zf))) ZdV (Zcl (j_p Zk)))) (Za (Zg (Ziu (j_p Zf) (j_p Zk))) (Za (Zg (Zh (j_p Zf) (j_p (Ziu (j_p Zf) (j_p Zk))))) Zc)))))))))))
   (Ze (Zv (Zh (Zl 2) (j_p (Zal (ZT (Za (Zg (Zh (j_p Zf) (Zl 0))) (Za (Zg (Zh (Zl 0) (j_p Zf))) (Za (Zg Zf) (Za (Zg (Zh (j_p Zf) (Zl 0))) (Za (Zg (Zh (j_p (Zh (Zl 0) (j_p Zf))) (Zl 0))) (Za (Zg Zf) (Za (Zg (Zh (j_p (Zh (Zl 1) (j_p Zf))) (Zl 1))) Zc))))))))))))
   Zm))) ?_
 rfl
theorem sc_law_odd_places:ZI ["_law_word_here","_law_number","_law_some"] ["_law_word_here","_law_number"] (Zn ZaH):=⟨rfl,rfl,rfl,by decide +kernel,rfl,by decide +kernel,by decide +kernel⟩
theorem ZgC (T:Tx K mg d):FnOk P w K mg base CX0 1 d.a20 d.d20 ["_law_word_here","_law_number"] (spD K ZcS) :=
 by
 refine Z2 (N:=["_law_word_here","_law_number","_law_some"]) (ps:=["_law_word_here","_law_number"]) T.F20 sc_law_odd_places (by decide) (g:=ZbY) (fun cdv A outer s H E M H0 hr=>?_)
 refine Z1 (Ze (Zt (i:=2) sc_law_odd_places.nd rfl (Or.inl rfl) (Zal (ZT (Za (Zg (Zh (Zl 0) (j_p Zf))) (Za (Zg (Zh (j_p Zf) (Zl 1))) (Za (Zg (Zh (j_p (Zh (Zl 0) (j_p Zf))) (Zl 1))) (Za (Zg (Zh (j_p (Zh (j_p (Zh (j_p (Zh (Zl 0) (j_p Zf))) (Zl 0))) (j_p Zf))) (Zl 1))) (Za (Zg Zf) (Za (Zg Zf) Zc)))))))))
   (Ze (Zv (Zh (Zl 2) (j_p (Zal (ZT (Za (Zg (Zh (j_p (Zh (Zl 0) (j_p Zf))) (Zl 1))) (Za (Zg (Zh (j_p (Zh (Zl 0) (j_p Zf))) (Zl 1))) (Za (Zg (Zh (j_p (Zh (Zl 0) (j_p Zf))) (Zl 1))) Zc))))))))
   Zm)) ?_
 rfl
theorem sc_law_odd_picks:ZI ["_law_word_here","_law_number","_law_some"] ["_law_word_here","_law_number"] (Zn ZaT):=⟨rfl,rfl,rfl,by decide +kernel,rfl,by decide +kernel,by decide +kernel⟩
theorem Zhg (T:Tx K mg d):FnOk P w K mg base CX0 1 d.a21 d.d21 ["_law_word_here","_law_number"] (spD K Zdj) :=
 by
 refine Z2 (N:=["_law_word_here","_law_number","_law_some"]) (ps:=["_law_word_here","_law_number"]) T.F21 sc_law_odd_picks (by decide) (g:=ZeQ) (fun cdv A outer s H E M H0 hr=>?_)
 refine Z1 (Ze (Zt (i:=2) sc_law_odd_picks.nd rfl (Or.inl rfl) (Zal (ZT (Za (Zg Zf) (Za (Zg (Zh (j_p Zf) (Zl 0))) (Za (Zg Zf) (Za (Zg (Zh (j_p Zf) (Zl 0))) (Za (Zg (Zh (j_p Zf) (Zl 0))) (Za (Zg (Zh (j_p Zf) (Zl 0))) (Za (Zg (Zh (j_p Zf) (Zl 0))) (Za (Zg (Zh (Zl 0) (j_p Zf))) Zc)))))))))))
   (Ze (Zt (i:=2) sc_law_odd_picks.nd rfl (Or.inl rfl) (Zh (Zl 2) (j_p (Zal (ZT (Za (Zg (Zh (j_p (Zh (j_p Zf) (Zl 0))) (j_p Zf))) (Za (Zg (Zh (j_p Zf) (Zl 1))) (Za (Zg (Zh (j_p (Zh (j_p (Zh (j_p Zf) (Zl 0))) (j_p Zf))) (Zl 0))) (Za (Zg (Zh (j_p (Zh (j_p (Zh (j_p Zf) (Zl 0))) (j_p Zf))) (Zl 0))) Zc)))))))))
   (Ze (Zt (i:=2) sc_law_odd_picks.nd rfl (Or.inl rfl) (Zh (Zl 2) (j_p (Zal (ZT (Za (Zg (Zh (j_p Zf) (Zl 0))) (Za (Zg (Zh (j_p (Zh (j_p (Zh (j_p Zf) (Zl 0))) (j_p Zf))) (Zl 0))) (Za (Zg (Zh (j_p Zf) (Zl 0))) (Za (Zg (Zh (j_p Zf) (Zl 0))) (Za (Zg (Zh (j_p Zf) (Zl 0))) (Za (Zg Zf) Zc)))))))))))
   (Ze (Zv (Zh (Zl 2) (j_p (Zal (ZT (Za (Zg Zf) (Za (Zg Zf) (Za (Zg (Zh (j_p (Zh (j_p (Zh (j_p Zf) (Zl 0))) (j_p Zf))) (Zl 0))) (Za (Zg (Zh (j_p Zf) (Zl 0))) (Za (Zg (Zh (j_p (Zh (j_p Zf) (Zl 1))) (j_p Zf))) Zc))))))))))
   Zm)))) ?_
 rfl
theorem sc_law_odd_rows:ZI ["_law_word_here","_law_number","_law_some"] ["_law_word_here","_law_number"] (Zn Zbb):=⟨rfl,rfl,rfl,by decide +kernel,rfl,by decide +kernel,by decide +kernel⟩
theorem Zhx (T:Tx K mg d):FnOk P w K mg base CX0 1 d.a22 d.d22 ["_law_word_here","_law_number"] (spD K ZdA) :=
 by
 refine Z2 (N:=["_law_word_here","_law_number","_law_some"]) (ps:=["_law_word_here","_law_number"]) T.F22 sc_law_odd_rows (by decide) (g:=Zcq) (fun cdv A outer s H E M H0 hr=>?_)
 refine Z1 (Ze (Zt (i:=2) sc_law_odd_rows.nd rfl (Or.inl rfl) (Zal (ZT (Za (Zg (Zda 0)) (Za (Zg (Zh (Zl 0) (j_p Zf))) (Za (Zg (Zh (j_p Zf) (Zl 1))) (Za (Zg (Zh (j_p Zf) (Zl 1))) (Za (Zg (Zh (j_p (Zh (Zl 0) (j_p Zf))) (Zl 1))) (Za (Zg (Zh (j_p (Zh (j_p (Zh (Zl 0) (j_p Zf))) (Zl 1))) (j_p Zf))) (Za (Zg Zf) Zc))))))))))
   (Ze (Zt (i:=2) sc_law_odd_rows.nd rfl (Or.inl rfl) (Zh (Zl 2) (j_p (Zal (ZT (Za (Zg (Zh (j_p (Zh (j_p (Zh (j_p (Zh (Zl 0) (j_p Zf))) (Zl 0))) (j_p Zf))) (Zl 1))) (Za (Zg (Zh (j_p (Zh (j_p (Zh (j_p (Zh (Zl 0) (j_p Zf))) (Zl 1))) (j_p Zf))) (Zl 1))) (Za (Zg (Zh (Zl 0) (j_p Zf))) (Za (Zg Zf) Zc)))))))))
   (Ze (Zv (Zh (Zl 2) (j_p (Zal (ZT (Za (Zg (Zh (Zl 0) (j_p Zf))) (Za (Zg (Zh (j_p (Zh (Zl 0) (j_p Zf))) (Zl 0))) (Za (Zg (Zh (j_p (Zh (Zl 0) (j_p Zf))) (Zl 1))) (Za (Zg (Zh (j_p (Zh (Zl 0) (j_p Zf))) (Zl 1))) Zc)))))))))
   Zm))) ?_
 rfl
theorem sc_law_spoiled:ZI ["_law_way","_law_s","_law_word_here","_law_number","_law_text_here","_law_at","_law_sign"] ["_law_way","_law_s","_law_word_here","_law_number"] (Zn Zbi):=⟨rfl,rfl,rfl,by decide +kernel,rfl,by decide +kernel,by decide +kernel⟩
theorem Zh5 (T:Tx K mg d):FnOk P w K mg base CX0 1 d.a24 d.d24 ["_law_way","_law_s","_law_word_here","_law_number"] (spD K Zd5) :=
 by
 refine Z2 (N:=["_law_way","_law_s","_law_word_here","_law_number","_law_text_here","_law_at","_law_sign"]) (ps:=["_law_way","_law_s","_law_word_here","_law_number"]) T.F24 sc_law_spoiled (by decide) (g:=ZfO) (fun cdv A outer s H E M H0 hr=>?_)
 refine Z1 (Ze (Zt (i:=4) sc_law_spoiled.nd rfl (Or.inl rfl) (Zx (j_p (Zal (ZT (Za (Zg (Zh (j_p (Zh (Zl 2) (j_p Zf))) (Zl 3))) (Za (Zg (Zh (j_p (Zh (Zl 3) (j_p Zf))) (Zl 2))) (Za (Zg (Zh (j_p Zf) (j_p (ZbQ PySem.F.plainAttrs_str PySem.F.slot_str_strip PySem.F.type_str_strip Zg7 Zhb (Zl 3) (Za (Zg Zf) Zc))))) (Za (Zg (Zh (j_p Zf) (Zl 2))) (Za (Zg (Zh (j_p (Zh (Zl 2) (j_p Zf))) (Zl 3))) Zc)))))))) (Zl 0) (fun _ _=>rfl)))
   (Ze (Zt (i:=5) sc_law_spoiled.nd rfl (Or.inl rfl) (Zao (j_p (Zx (Zl 1) (j_p Zk) (fun _ _=>rfl))) (j_p (Zh (j_p (ZA Z8 ZaA (by rfl) T.n_len (by rfl) (Za (Zs 4) Zc))) (j_p Zk)))))
   (Ze (Zt (i:=6) sc_law_spoiled.nd rfl (Or.inl rfl) (Zx (j_p Zf) (j_p (Zao (j_p (Zx (Zl 1) (j_p Zk) (fun _ _=>rfl))) (j_p Zk))) (fun _ _=>rfl)))
   (Ze (Zv (Zh (j_p (Zh (j_p (Zct (Zl 4) ZdV (Zcl (Zl 5)))) (Zl 6))) (j_p (Zct (Zl 4) (Zcl (Zl 5)) ZdV))))
   Zm)))) ?_
 rfl
theorem ZfQ:ZI ["text"] ["text"] (Zn ZbK):=⟨rfl,rfl,rfl,by decide +kernel,rfl,by decide +kernel,by decide +kernel⟩
theorem Zb4 (T:Tx K mg d):FnOk P w K mg base CX0 2 d.a2 d.d2 ["text"] (spD K Zav) :=
 by
 refine Z2 (N:=["text"]) (ps:=["text"]) T.F2 ZfQ (by decide) (g:=Zdm) (fun cdv A outer s H E M H0 hr=>?_)
 refine Z1 (Ze (ZO (ZfG (ZcY (ZbU (ZaE (j_p (ZA ZdC Zgu (by rfl) T.n_isinstance (by rfl) (Za (Zs 0) (Za (Zg (ZdO (n:="str") (by rfl) T.n_str (by rfl))) Zc)))))) (Zcj (ZbU (ZaE (j_p (Zp (Zdz T) (hr.mono (by decide)) (by rfl) T.m1 T.F1.kp T.b1 (E:=E0) Zw (Za (Zs 0) Zc))))))))
   (Ze Zbt
   Zm)
   Zm)
   (Ze (Zv (ZdU Zl3 Zn1 (by rfl) T.n_int (by rfl) (Za (Zs 0) Zc)))
   Zm)) ?_
 rfl
theorem ZdD (T:Tx K mg d):FnOk P w K mg base (CXv P w) 2 d.a2 d.d2 ["text"] (spX K Zau) :=
 by
 refine Zb6 (N:=["text"]) (ps:=["text"]) T.F2 ZfQ (by decide) (h:=Zc4) (fun cdv A outer s H E M H0 hr=>?_)
 refine Zbn (Zad (ZdR ZE (ZfG (ZcY (ZbU (ZaE (j_p (ZA ZdC Zgu (by rfl) T.n_isinstance (by rfl) (Za (Zs 0) (Za (Zg (ZdO (n:="str") (by rfl) T.n_str (by rfl))) Zc)))))) (Zcj (ZbU (ZaE (j_p (Zp (Zdz T) (hr.mono (by decide)) (by rfl) T.m1 T.F1.kp T.b1 (E:=E0) Zw (Za (Zs 0) Zc))))))))
   (Zad (XT.s (ZdG ZE rfl rfl T.k_NoText T.q_NoText (by rfl) T.m_NoText (Za (Zg Zf) Zc))))
   Zca)) ?_
 rfl
theorem sc_few_parts_of:ZI ["text","parts"] ["text"] (Zn Zbd):=⟨rfl,rfl,rfl,by decide +kernel,rfl,by decide +kernel,by decide +kernel⟩
theorem Z9 (T:Tx K mg d):FnOk P w K mg base CX0 2 d.a7 d.d7 ["text"] (spD K ZK) :=
 by
 refine Z2 (N:=["text","parts"]) (ps:=["text"]) T.F7 sc_few_parts_of (by decide) (g:=ZcA) (fun cdv A outer s H E M H0 hr=>?_)
 refine Z1 (Ze (Zt (i:=1) sc_few_parts_of.nd rfl (Or.inl rfl) (Zp (Zb8 T) (hr.mono (by decide)) (by rfl) T.m6 T.F6.kp T.b6 (E:=E0) Zw (Za (Zs 0) (Za (Zg Zf) Zc))))
   (Ze (ZO (ZeD hr.units (j_p (ZA Z8 ZaA (by rfl) T.n_len (by rfl) (Za (Zs 1) Zc))) (j_p (ZbS (d:=.int (4)) (by rfl) T.g_MOST_PARTS (fun _ _=>by simp only [Den]))))
   (Ze Zbt
   Zm)
   Zm)
   (Ze (Zv (Zda 1))
   Zm))) ?_
 rfl
theorem ZcU (T:Tx K mg d):FnOk P w K mg base (CXv P w) 2 d.a7 d.d7 ["text"] (spX K Z7) :=
 by
 refine Zb6 (N:=["text","parts"]) (ps:=["text"]) T.F7 sc_few_parts_of (by decide) (h:=ZaD) (fun cdv A outer s H E M H0 hr=>?_)
 refine Zbn (ZbN ZE (XT.s (Zhw (ZY ZE rfl (Zew T) (hr.mono (by decide)) (by rfl) T.m6 T.F6.kp T.b6 (Za (Zs 0) (Za (Zg Zf) Zc))))) (Zt (i:=1) sc_few_parts_of.nd rfl (Or.inl rfl) (Zp (Zb8 T) (hr.mono (by decide)) (by rfl) T.m6 T.F6.kp T.b6 (E:=E0) Zw (Za (Zs 0) (Za (Zg Zf) Zc))))
   (Zad (ZdR ZE (ZeD hr.units (j_p (ZA Z8 ZaA (by rfl) T.n_len (by rfl) (Za (Zs 1) Zc))) (j_p (ZbS (d:=.int (4)) (by rfl) T.g_MOST_PARTS (fun _ _=>by simp only [Den]))))
   (Zad (XT.s (ZdG ZE rfl rfl T.k_NoText T.q_NoText (by rfl) T.m_NoText (Za (Zg Zf) Zc))))
   Zca))) ?_
 rfl
theorem sc_law_text:ZI ["_law_way","_law_s","_law_word_here","_law_number","_law_some"] ["_law_way","_law_s","_law_word_here","_law_number"] (Zn Zbv):=⟨rfl,rfl,rfl,by decide +kernel,rfl,by decide +kernel,by decide +kernel⟩
theorem ZjY (T:Tx K mg d):FnOk P w K mg base CX0 2 d.a23 d.d23 ["_law_way","_law_s","_law_word_here","_law_number"] (spD K Zfy) :=
 by
 refine Z2 (N:=["_law_way","_law_s","_law_word_here","_law_number","_law_some"]) (ps:=["_law_way","_law_s","_law_word_here","_law_number"]) T.F23 sc_law_text (by decide) (g:=Zhy) (fun cdv A outer s H E M H0 hr=>?_)
 refine Z1 (Ze (ZO (ZW hr.units (Zl 0) (j_p Zk))
   (Ze (Zt (i:=4) sc_law_text.nd rfl (Or.inl rfl) (Zh (j_p (Zp (Zhg T) (hr.mono (by decide)) (by rfl) T.m21 T.F21.kp T.b21 (E:=E0) Zw (Za (Zs 2) (Za (Zs 3) Zc)))) (j_p (Zal (Za9 ["_law_odd"] [] [] (show ZR ["_law_odd"] [] _ (Zn Zbv) from ⟨rfl,by decide +kernel,by decide +kernel,by decide +kernel,by decide +kernel,by decide +kernel⟩) rfl rfl  (Zah (j_q (Zp (Zee T) (hr.mono (by decide)) (by rfl) T.m19 T.F19.kp T.b19 (E:=E0) Zw (Za (Zs 2) (Za (Zs 3) Zc))))) (fun _ _ _ _ _ _ _=>(ZQ (i:=0) (show ((["_law_odd"]:List Str)++([]:List Str)).Nodup by decide +kernel) rfl (Or.inl rfl))) (fun _ _ _ _ _ _ _=>Za0) (fun _ _ _ _ _ _ _=>(Zh (j_p Zf) (Zl 0))) (by decide))))))
   Zm)
   (Ze (ZO (ZW hr.units (Zl 0) (j_p Zk))
   (Ze (Zt (i:=4) sc_law_text.nd rfl (Or.inl rfl) (Zh (j_p (Zp (Zhx T) (hr.mono (by decide)) (by rfl) T.m22 T.F22.kp T.b22 (E:=E0) Zw (Za (Zs 2) (Za (Zs 3) Zc)))) (j_p (Zal (Za9 ["_law_odd"] [] [] (show ZR ["_law_odd"] [] _ (Zn Zbv) from ⟨rfl,by decide +kernel,by decide +kernel,by decide +kernel,by decide +kernel,by decide +kernel⟩) rfl rfl  (Zah (j_q (Zal (ZT (Za (Zg Zf) (Za (Zg Zf) (Za (Zg (Zh (Zl 2) (j_p Zf))) (Za (Zg (Zh (Zl 2) (j_p Zf))) (Za (Zg Zf) (Za (Zg Zf) Zc)))))))))) (fun _ _ _ _ _ _ _=>(ZQ (i:=0) (show ((["_law_odd"]:List Str)++([]:List Str)).Nodup by decide +kernel) rfl (Or.inl rfl))) (fun _ _ _ _ _ _ _=>Za0) (fun _ _ _ _ _ _ _=>(Zh (Zl 0) (j_p Zf))) (by decide))))))
   Zm)
   (Ze (Zt (i:=4) sc_law_text.nd rfl (Or.inl rfl) (Zh (j_p (Zp (ZgC T) (hr.mono (by decide)) (by rfl) T.m20 T.F20.kp T.b20 (E:=E0) Zw (Za (Zs 2) (Za (Zs 3) Zc)))) (j_p (Zp (Zee T) (hr.mono (by decide)) (by rfl) T.m19 T.F19.kp T.b19 (E:=E0) Zw (Za (Zs 2) (Za (Zs 3) Zc))))))
   Zm))
   Zm))
   (Ze (ZO (ZW hr.units (Zl 0) (j_p Zk))
   (Ze (Zt (i:=4) sc_law_text.nd rfl (Or.inl rfl) (Zh (Zl 4) (j_p (Zal (ZT (Za (Zg Zf) (Za (Zg (Zh (Zl 2) (j_p Zf))) (Za (Zg (Zh (j_p Zf) (Zl 3))) Zc))))))))
   Zm)
   Zm)
   (Ze (ZO (ZW hr.units (Zl 0) (j_p Zk))
   (Ze (Zt (i:=4) sc_law_text.nd rfl (Or.inl rfl) (Zh (Zl 4) (j_p (Zal (ZT (Za (Zg Zf) (Za (Zg (Zda 2)) (Za (Zg Zf) (Za (Zg (Zh (j_p Zf) (Zl 2))) (Za (Zg Zf) (Za (Zg Zf) (Za (Zg Zf) (Za (Zg (Zh (Zl 3) (j_p Zf))) Zc)))))))))))))
   Zm)
   Zm)
   (Ze (Zv (Zx (Zl 4) (j_p (Zao (j_p (Zx (Zl 1) (j_p Zk) (fun _ _=>rfl))) (j_p (ZA Z8 ZaA (by rfl) T.n_len (by rfl) (Za (Zs 4) Zc))))) (fun _ _=>rfl)))
   Zm)))) ?_
 rfl
theorem sc_read_place:ZI ["text","number"] ["text"] (Zn ZbH):=⟨rfl,rfl,rfl,by decide +kernel,rfl,by decide +kernel,by decide +kernel⟩
theorem ZaY (T:Tx K mg d):FnOk P w K mg base CX0 3 d.a3 d.d3 ["text"] (spD K Zas) :=
 by
 refine Z2 (N:=["text","number"]) (ps:=["text"]) T.F3 sc_read_place (by decide) (g:=Zdn) (fun cdv A outer s H E M H0 hr=>?_)
 refine Z1 (Ze (Zt (i:=1) sc_read_place.nd rfl (Or.inl rfl) (Zp (Zb4 T) (hr.mono (by decide)) (by rfl) T.m2 T.F2.kp T.b2 (E:=E0) Zw (Za (Zs 0) Zc)))
   (Ze (ZO (ZeC hr.units (Zl 1) (j_p Zk))
   (Ze Zbt
   Zm)
   Zm)
   (Ze (Zv (Zda 1))
   Zm))) ?_
 rfl
theorem ZdK (T:Tx K mg d):FnOk P w K mg base (CXv P w) 3 d.a3 d.d3 ["text"] (spX K ZaP) :=
 by
 refine Zb6 (N:=["text","number"]) (ps:=["text"]) T.F3 sc_read_place (by decide) (h:=ZbG) (fun cdv A outer s H E M H0 hr=>?_)
 refine Zbn (ZbN ZE (XT.s (Zhw (ZY ZE rfl (ZdD T) (hr.mono (by decide)) (by rfl) T.m2 T.F2.kp T.b2 (Za (Zs 0) Zc)))) (Zt (i:=1) sc_read_place.nd rfl (Or.inl rfl) (Zp (Zb4 T) (hr.mono (by decide)) (by rfl) T.m2 T.F2.kp T.b2 (E:=E0) Zw (Za (Zs 0) Zc)))
   (Zad (ZdR ZE (ZeC hr.units (Zl 1) (j_p Zk))
   (Zad (XT.s (ZdG ZE rfl rfl T.k_NoText T.q_NoText (by rfl) T.m_NoText (Za (Zg Zf) Zc))))
   Zca))) ?_
 rfl
theorem ZfR:ZI ["text"] ["text"] (Zn ZbD):=⟨rfl,rfl,rfl,by decide +kernel,rfl,by decide +kernel,by decide +kernel⟩
theorem ZcM (T:Tx K mg d):FnOk P w K mg base CX0 3 d.a4 d.d4 ["text"] (spD K Zdc) :=
 by
 refine Z2 (N:=["text"]) (ps:=["text"]) T.F4 ZfR (by decide) (g:=ZbL) (fun cdv A outer s H E M H0 hr=>?_)
 refine Z1 (Ze (Zv (Zei (ZaE (j_p (Zp (Zhi T) (hr.mono (by decide)) (by rfl) T.m0 T.F0.kp T.b0 (E:=E0) Zw (Za (Zs 0) Zc)))) (Zda 0) (Zp (Zb4 T) (hr.mono (by decide)) (by rfl) T.m2 T.F2.kp T.b2 (E:=E0) Zw (Za (Zs 0) Zc))))
   Zm) ?_
 rfl
theorem Ze9 (T:Tx K mg d):FnOk P w K mg base (CXv P w) 3 d.a4 d.d4 ["text"] (spX K Zcm) :=
 by
 refine Zb6 (N:=["text"]) (ps:=["text"]) T.F4 ZfR (by decide) (h:=ZbC) (fun cdv A outer s H E M H0 hr=>?_)
 refine Zbn (Zad (XT.s (Zb0 (Zjn ZE (ZaE (j_p (Zp (Zhi T) (hr.mono (by decide)) (by rfl) T.m0 T.F0.kp T.b0 (E:=E0) Zw (Za (Zs 0) Zc)))) ZhX (ZY ZE rfl (ZdD T) (hr.mono (by decide)) (by rfl) T.m2 T.F2.kp T.b2 (Za (Zs 0) Zc)))))) ?_
 rfl
theorem ZcK:ZI ["text"] ["text"] (Zn Zab):=⟨rfl,rfl,rfl,by decide +kernel,rfl,by decide +kernel,by decide +kernel⟩
theorem Z6 (T:Tx K mg d):FnOk P w K mg base CX0 4 d.a5 d.d5 ["text"] (spD K ZaV) :=
 by
 refine Z2 (N:=["text"]) (ps:=["text"]) T.F5 ZcK (by decide) (g:=Zac) (fun cdv A outer s H E M H0 hr=>?_)
 refine Z1 (Ze (Zv (Zei (ZW hr.units (Zl 0) (j_p Zf)) Zi6 (Zp (ZcM T) (hr.mono (by decide)) (by rfl) T.m4 T.F4.kp T.b4 (E:=E0) Zw (Za (Zs 0) Zc))))
   Zm) ?_
 rfl
theorem ZcG (T:Tx K mg d):FnOk P w K mg base (CXv P w) 4 d.a5 d.d5 ["text"] (spX K Zaq) :=
 by
 refine Zb6 (N:=["text"]) (ps:=["text"]) T.F5 ZcK (by decide) (h:=Zaa) (fun cdv A outer s H E M H0 hr=>?_)
 refine Zbn (Zad (XT.s (Zb0 (Zjn ZE (ZW hr.units (Zl 0) (j_p Zf)) ZhX (ZY ZE rfl (Ze9 T) (hr.mono (by decide)) (by rfl) T.m4 T.F4.kp T.b4 (Za (Zs 0) Zc)))))) ?_
 rfl
theorem Zga:ZI ["text"] ["text"] (Zn Zar):=⟨rfl,rfl,rfl,by decide +kernel,rfl,by decide +kernel,by decide +kernel⟩
theorem Zdu (T:Tx K mg d):FnOk P w K mg base CX0 4 d.a9 d.d9 ["text"] (spD K Zb9) :=
 by
 refine Z2 (N:=["text"]) (ps:=["text"]) T.F9 Zga (by decide) (g:=ZgH) (fun cdv A outer s H E M H0 hr=>?_)
 refine Z1 (Ze (Zv (ZdU Zd2 ZgX (by rfl) T.n_tuple (by rfl) (Za (Zg (Zal (Za9 ["part"] [] [] (show ZR ["part"] [] _ (Zn Zar) from ⟨rfl,by decide +kernel,by decide +kernel,by decide +kernel,by decide +kernel,by decide +kernel⟩) rfl rfl  (Zah (j_q (Zp (Z9 T) (hr.mono (by decide)) (by rfl) T.m7 T.F7.kp T.b7 (E:=E0) Zw (Za (Zs 0) Zc)))) (fun _ _ _ _ _ _ _=>(ZQ (i:=0) (show ((["part"]:List Str)++([]:List Str)).Nodup by decide +kernel) rfl (Or.inl rfl))) (fun _ _ _ _ _ _ _=>Za0) (fun _ _ _ _ _ _ _=>(Zp (ZcM T) (hr.mono (by decide)) (by rfl) T.m4 T.F4.kp T.b4 (E:=E0) Zw (Za (Zs 0) Zc))) (by decide)))) Zc)))
   Zm) ?_
 rfl
theorem ZfT (T:Tx K mg d):FnOk P w K mg base (CXv P w) 4 d.a9 d.d9 ["text"] (spX K Zb7) :=
 by
 refine Zb6 (N:=["text"]) (ps:=["text"]) T.F9 Zga (by decide) (h:=ZgG) (fun cdv A outer s H E M H0 hr=>?_)
 refine Zbn (Zad (XT.s (Zb0 (Zf6 (by rfl) T.n_tuple (by rfl) (Zc2 ZE (Zku (ZgQ ["part"] [] (show ZR ["part"] [] _ (Zn Zar) from ⟨rfl,by decide +kernel,by decide +kernel,by decide +kernel,by decide +kernel,by decide +kernel⟩) (ZY ZE rfl (ZcU T) (hr.mono (by decide)) (by rfl) T.m7 T.F7.kp T.b7 (Za (Zs 0) Zc))) (Zh3 ZE rfl rfl ["part"] [] [] (show ZR ["part"] [] _ (Zn Zar) from ⟨rfl,by decide +kernel,by decide +kernel,by decide +kernel,by decide +kernel,by decide +kernel⟩) rfl rfl (Zah (j_q (Zp (Z9 T) (hr.mono (by decide)) (by rfl) T.m7 T.F7.kp T.b7 (E:=E0) Zw (Za (Zs 0) Zc)))) (fun _ _ _ _ _ _ _=>(ZQ (i:=0) (show ((["part"]:List Str)++([]:List Str)).Nodup by decide +kernel) rfl (Or.inl rfl))) (fun _ _ _ _ _ _ _=>(Zp (ZcM T) (hr.mono (by decide)) (by rfl) T.m4 T.F4.kp T.b4 (E:=E0) Zw (Za (Zs 0) Zc))) (fun _ _ _ _ _ _ _=>(ZY (fun _ _ z=>z) rfl (Ze9 T) (hr.mono (by decide)) (by rfl) T.m4 T.F4.kp T.b4 (Za (Zs 0) Zc))))) (Zal (Za9 ["part"] [] [] (show ZR ["part"] [] _ (Zn Zar) from ⟨rfl,by decide +kernel,by decide +kernel,by decide +kernel,by decide +kernel,by decide +kernel⟩) rfl rfl  (Zah (j_q (Zp (Z9 T) (hr.mono (by decide)) (by rfl) T.m7 T.F7.kp T.b7 (E:=E0) Zw (Za (Zs 0) Zc)))) (fun _ _ _ _ _ _ _=>(ZQ (i:=0) (show ((["part"]:List Str)++([]:List Str)).Nodup by decide +kernel) rfl (Or.inl rfl))) (fun _ _ _ _ _ _ _=>Za0) (fun _ _ _ _ _ _ _=>(Zp (ZcM T) (hr.mono (by decide)) (by rfl) T.m4 T.F4.kp T.b4 (E:=E0) Zw (Za (Zs 0) Zc))) (by decide))) ZfZ))))) ?_
 rfl
theorem ZfN:ZI ["text"] ["text"] (Zn Zaj):=⟨rfl,rfl,rfl,by decide +kernel,rfl,by decide +kernel,by decide +kernel⟩
theorem ZfS (T:Tx K mg d):FnOk P w K mg base CX0 4 d.a10 d.d10 ["text"] (spD K Zc5) :=
 by
 refine Z2 (N:=["text"]) (ps:=["text"]) T.F10 ZfN (by decide) (g:=Zgi) (fun cdv A outer s H E M H0 hr=>?_)
 refine Z1 (Ze (Zv (ZdU Zd2 ZgX (by rfl) T.n_tuple (by rfl) (Za (Zg (Zal (Za9 ["part"] [] [] (show ZR ["part"] [] _ (Zn Zaj) from ⟨rfl,by decide +kernel,by decide +kernel,by decide +kernel,by decide +kernel,by decide +kernel⟩) rfl rfl  (Zah (j_q (Zp (Z9 T) (hr.mono (by decide)) (by rfl) T.m7 T.F7.kp T.b7 (E:=E0) Zw (Za (Zs 0) Zc)))) (fun _ _ _ _ _ _ _=>(ZQ (i:=0) (show ((["part"]:List Str)++([]:List Str)).Nodup by decide +kernel) rfl (Or.inl rfl))) (fun _ _ _ _ _ _ _=>Za0) (fun _ _ _ _ _ _ _=>(Zp (ZaY T) (hr.mono (by decide)) (by rfl) T.m3 T.F3.kp T.b3 (E:=E0) Zw (Za (Zs 0) Zc))) (by decide)))) Zc)))
   Zm) ?_
 rfl
theorem Zh2 (T:Tx K mg d):FnOk P w K mg base (CXv P w) 4 d.a10 d.d10 ["text"] (spX K Zcn) :=
 by
 refine Zb6 (N:=["text"]) (ps:=["text"]) T.F10 ZfN (by decide) (h:=Zf2) (fun cdv A outer s H E M H0 hr=>?_)
 refine Zbn (Zad (XT.s (Zb0 (Zf6 (by rfl) T.n_tuple (by rfl) (Zc2 ZE (Zku (ZgQ ["part"] [] (show ZR ["part"] [] _ (Zn Zaj) from ⟨rfl,by decide +kernel,by decide +kernel,by decide +kernel,by decide +kernel,by decide +kernel⟩) (ZY ZE rfl (ZcU T) (hr.mono (by decide)) (by rfl) T.m7 T.F7.kp T.b7 (Za (Zs 0) Zc))) (Zh3 ZE rfl rfl ["part"] [] [] (show ZR ["part"] [] _ (Zn Zaj) from ⟨rfl,by decide +kernel,by decide +kernel,by decide +kernel,by decide +kernel,by decide +kernel⟩) rfl rfl (Zah (j_q (Zp (Z9 T) (hr.mono (by decide)) (by rfl) T.m7 T.F7.kp T.b7 (E:=E0) Zw (Za (Zs 0) Zc)))) (fun _ _ _ _ _ _ _=>(ZQ (i:=0) (show ((["part"]:List Str)++([]:List Str)).Nodup by decide +kernel) rfl (Or.inl rfl))) (fun _ _ _ _ _ _ _=>(Zp (ZaY T) (hr.mono (by decide)) (by rfl) T.m3 T.F3.kp T.b3 (E:=E0) Zw (Za (Zs 0) Zc))) (fun _ _ _ _ _ _ _=>(ZY (fun _ _ z=>z) rfl (ZdK T) (hr.mono (by decide)) (by rfl) T.m3 T.F3.kp T.b3 (Za (Zs 0) Zc))))) (Zal (Za9 ["part"] [] [] (show ZR ["part"] [] _ (Zn Zaj) from ⟨rfl,by decide +kernel,by decide +kernel,by decide +kernel,by decide +kernel,by decide +kernel⟩) rfl rfl  (Zah (j_q (Zp (Z9 T) (hr.mono (by decide)) (by rfl) T.m7 T.F7.kp T.b7 (E:=E0) Zw (Za (Zs 0) Zc)))) (fun _ _ _ _ _ _ _=>(ZQ (i:=0) (show ((["part"]:List Str)++([]:List Str)).Nodup by decide +kernel) rfl (Or.inl rfl))) (fun _ _ _ _ _ _ _=>Za0) (fun _ _ _ _ _ _ _=>(Zp (ZaY T) (hr.mono (by decide)) (by rfl) T.m3 T.F3.kp T.b3 (E:=E0) Zw (Za (Zs 0) Zc))) (by decide))) ZfZ))))) ?_
 rfl
theorem ZgF:ZI ["text"] ["text"] (Zn ZaI):=⟨rfl,rfl,rfl,by decide +kernel,rfl,by decide +kernel,by decide +kernel⟩
theorem ZgO (T:Tx K mg d):FnOk P w K mg base CX0 5 d.a8 d.d8 ["text"] (spD K Zeh) :=
 by
 refine Z2 (N:=["text"]) (ps:=["text"]) T.F8 ZgF (by decide) (g:=Zhz) (fun cdv A outer s H E M H0 hr=>?_)
 refine Z1 (Ze (Zv (ZdU Zd2 ZgX (by rfl) T.n_tuple (by rfl) (Za (Zg (Zal (Za9 ["part"] [] [] (show ZR ["part"] [] _ (Zn ZaI) from ⟨rfl,by decide +kernel,by decide +kernel,by decide +kernel,by decide +kernel,by decide +kernel⟩) rfl rfl  (Zah (j_q (Zp (Z9 T) (hr.mono (by decide)) (by rfl) T.m7 T.F7.kp T.b7 (E:=E0) Zw (Za (Zs 0) Zc)))) (fun _ _ _ _ _ _ _=>(ZQ (i:=0) (show ((["part"]:List Str)++([]:List Str)).Nodup by decide +kernel) rfl (Or.inl rfl))) (fun _ _ _ _ _ _ _=>Za0) (fun _ _ _ _ _ _ _=>(Zp (Z6 T) (hr.mono (by decide)) (by rfl) T.m5 T.F5.kp T.b5 (E:=E0) Zw (Za (Zs 0) Zc))) (by decide)))) Zc)))
   Zm) ?_
 rfl
theorem ZjC (T:Tx K mg d):FnOk P w K mg base (CXv P w) 5 d.a8 d.d8 ["text"] (spX K Zdd) :=
 by
 refine Zb6 (N:=["text"]) (ps:=["text"]) T.F8 ZgF (by decide) (h:=ZhK) (fun cdv A outer s H E M H0 hr=>?_)
 refine Zbn (Zad (XT.s (Zb0 (Zf6 (by rfl) T.n_tuple (by rfl) (Zc2 ZE (Zku (ZgQ ["part"] [] (show ZR ["part"] [] _ (Zn ZaI) from ⟨rfl,by decide +kernel,by decide +kernel,by decide +kernel,by decide +kernel,by decide +kernel⟩) (ZY ZE rfl (ZcU T) (hr.mono (by decide)) (by rfl) T.m7 T.F7.kp T.b7 (Za (Zs 0) Zc))) (Zh3 ZE rfl rfl ["part"] [] [] (show ZR ["part"] [] _ (Zn ZaI) from ⟨rfl,by decide +kernel,by decide +kernel,by decide +kernel,by decide +kernel,by decide +kernel⟩) rfl rfl (Zah (j_q (Zp (Z9 T) (hr.mono (by decide)) (by rfl) T.m7 T.F7.kp T.b7 (E:=E0) Zw (Za (Zs 0) Zc)))) (fun _ _ _ _ _ _ _=>(ZQ (i:=0) (show ((["part"]:List Str)++([]:List Str)).Nodup by decide +kernel) rfl (Or.inl rfl))) (fun _ _ _ _ _ _ _=>(Zp (Z6 T) (hr.mono (by decide)) (by rfl) T.m5 T.F5.kp T.b5 (E:=E0) Zw (Za (Zs 0) Zc))) (fun _ _ _ _ _ _ _=>(ZY (fun _ _ z=>z) rfl (ZcG T) (hr.mono (by decide)) (by rfl) T.m5 T.F5.kp T.b5 (Za (Zs 0) Zc))))) (Zal (Za9 ["part"] [] [] (show ZR ["part"] [] _ (Zn ZaI) from ⟨rfl,by decide +kernel,by decide +kernel,by decide +kernel,by decide +kernel,by decide +kernel⟩) rfl rfl  (Zah (j_q (Zp (Z9 T) (hr.mono (by decide)) (by rfl) T.m7 T.F7.kp T.b7 (E:=E0) Zw (Za (Zs 0) Zc)))) (fun _ _ _ _ _ _ _=>(ZQ (i:=0) (show ((["part"]:List Str)++([]:List Str)).Nodup by decide +kernel) rfl (Or.inl rfl))) (fun _ _ _ _ _ _ _=>Za0) (fun _ _ _ _ _ _ _=>(Zp (Z6 T) (hr.mono (by decide)) (by rfl) T.m5 T.F5.kp T.b5 (E:=E0) Zw (Za (Zs 0) Zc))) (by decide))) ZfZ))))) ?_
 rfl
theorem sc_read_pick:ZI ["text","sides","places","values"] ["text"] (Zn ZaK):=⟨rfl,rfl,rfl,by decide +kernel,rfl,by decide +kernel,by decide +kernel⟩
theorem Zf7 (T:Tx K mg d):FnOk P w K mg base CX0 5 d.a11 d.d11 ["text"] (spD K Ze1) :=
 by
 refine Z2 (N:=["text","sides","places","values"]) (ps:=["text"]) T.F11 sc_read_pick (by decide) (g:=ZgJ) (fun cdv A outer s H E M H0 hr=>?_)
 refine Z1 (Ze (Zt (i:=1) sc_read_pick.nd rfl (Or.inl rfl) (Zp (Zb8 T) (hr.mono (by decide)) (by rfl) T.m6 T.F6.kp T.b6 (E:=E0) Zw (Za (Zs 0) (Za (Zg Zf) Zc))))
   (Ze (Zt (i:=2) sc_read_pick.nd rfl (Or.inl rfl) (ZbQ PySem.F.plainAttrs_str PySem.F.slot_str_split PySem.F.type_str_split ZdB ZdM (j_p (Zx (Zl 1) (j_p Zk) (fun _ _=>rfl))) (Za (Zg Zf) Zc)))
   (Ze (ZO (ZfG (ZcY (ZbA hr.units (j_p (ZA Z8 ZaA (by rfl) T.n_len (by rfl) (Za (Zs 1) Zc))) (j_p Zk)) (Zcj (ZbA hr.units (j_p (ZA Z8 ZaA (by rfl) T.n_len (by rfl) (Za (Zs 2) Zc))) (j_p Zk)))))
   (Ze Zbt
   Zm)
   Zm)
   (Ze (ZfV (i:=3) ["part"] [] [] (show ZR ["part"] [] _ (Zn ZaK) from ⟨rfl,by decide +kernel,by decide +kernel,by decide +kernel,by decide +kernel,by decide +kernel⟩) rfl rfl sc_read_pick.nd rfl rfl (Zah (j_q (ZbQ PySem.F.plainAttrs_str PySem.F.slot_str_split PySem.F.type_str_split ZdB ZdM (j_p (Zx (Zl 1) (j_p Zk) (fun _ _=>rfl))) (Za (Zg Zf) Zc)))) (fun _ _ _ _ _ _ _=>(ZQ (i:=0) (show ((["part"]:List Str)++([]:List Str)).Nodup by decide +kernel) rfl (Or.inl rfl))) (fun _ _ _ _ _ _ _=>Za0) (fun _ _ _ _ _ _ _=>(Zp (Z6 T) (hr.mono (by decide)) (by rfl) T.m5 T.F5.kp T.b5 (E:=E0) Zw (Za (Zs 0) Zc))) (by decide))
   (Ze (Zv (ZfB (Za (Zg (Zp (ZaY T) (hr.mono (by decide)) (by rfl) T.m3 T.F3.kp T.b3 (E:=E0) Zw (Za (Zg (Zx (Zl 2) (j_p Zk) (fun _ _=>rfl))) Zc))) (Za (Zg (Zp (ZaY T) (hr.mono (by decide)) (by rfl) T.m3 T.F3.kp T.b3 (E:=E0) Zw (Za (Zg (Zx (Zl 2) (j_p Zk) (fun _ _=>rfl))) Zc))) (Za (Zg (Zda 3)) Zc)))))
   Zm))))) ?_
 rfl
theorem ZiF (T:Tx K mg d):FnOk P w K mg base (CXv P w) 5 d.a11 d.d11 ["text"] (spX K ZbB) :=
 by
 refine Zb6 (N:=["text","sides","places","values"]) (ps:=["text"]) T.F11 sc_read_pick (by decide) (h:=ZaJ) (fun cdv A outer s H E M H0 hr=>?_)
 refine Zbn (ZbN ZE (XT.s (Zhw (ZY ZE rfl (Zew T) (hr.mono (by decide)) (by rfl) T.m6 T.F6.kp T.b6 (Za (Zs 0) (Za (Zg Zf) Zc))))) (Zt (i:=1) sc_read_pick.nd rfl (Or.inl rfl) (Zp (Zb8 T) (hr.mono (by decide)) (by rfl) T.m6 T.F6.kp T.b6 (E:=E0) Zw (Za (Zs 0) (Za (Zg Zf) Zc))))
   (Zke ZE (Zt (i:=2) sc_read_pick.nd rfl (Or.inl rfl) (ZbQ PySem.F.plainAttrs_str PySem.F.slot_str_split PySem.F.type_str_split ZdB ZdM (j_p (Zx (Zl 1) (j_p Zk) (fun _ _=>rfl))) (Za (Zg Zf) Zc)))
   (ZbN ZE (ZdR ZE (ZfG (ZcY (ZbA hr.units (j_p (ZA Z8 ZaA (by rfl) T.n_len (by rfl) (Za (Zs 1) Zc))) (j_p Zk)) (Zcj (ZbA hr.units (j_p (ZA Z8 ZaA (by rfl) T.n_len (by rfl) (Za (Zs 2) Zc))) (j_p Zk)))))
   (Zad (XT.s (ZdG ZE rfl rfl T.k_NoText T.q_NoText (by rfl) T.m_NoText (Za (Zg Zf) Zc))))
   Zca) (ZO (ZfG (ZcY (ZbA hr.units (j_p (ZA Z8 ZaA (by rfl) T.n_len (by rfl) (Za (Zs 1) Zc))) (j_p Zk)) (Zcj (ZbA hr.units (j_p (ZA Z8 ZaA (by rfl) T.n_len (by rfl) (Za (Zs 2) Zc))) (j_p Zk)))))
   (Ze Zbt
   Zm)
   Zm)
   (ZbN ZE (XT.s (Zk1 (i:=0) ZE rfl rfl ["part"] [] [] (show ZR ["part"] [] _ (Zn ZaK) from ⟨rfl,by decide +kernel,by decide +kernel,by decide +kernel,by decide +kernel,by decide +kernel⟩) rfl rfl (Zah (j_q (ZbQ PySem.F.plainAttrs_str PySem.F.slot_str_split PySem.F.type_str_split ZdB ZdM (j_p (Zx (Zl 1) (j_p Zk) (fun _ _=>rfl))) (Za (Zg Zf) Zc)))) (fun _ _ _ _ _ _ _=>(ZQ (i:=0) (show ((["part"]:List Str)++([]:List Str)).Nodup by decide +kernel) rfl (Or.inl rfl))) (fun _ _ _ _ _ _ _=>(Zp (Z6 T) (hr.mono (by decide)) (by rfl) T.m5 T.F5.kp T.b5 (E:=E0) Zw (Za (Zs 0) Zc))) (fun _ _ _ _ _ _ _=>(ZY (fun _ _ z=>z) rfl (ZcG T) (hr.mono (by decide)) (by rfl) T.m5 T.F5.kp T.b5 (Za (Zs 0) Zc))))) (ZfV (i:=3) ["part"] [] [] (show ZR ["part"] [] _ (Zn ZaK) from ⟨rfl,by decide +kernel,by decide +kernel,by decide +kernel,by decide +kernel,by decide +kernel⟩) rfl rfl sc_read_pick.nd rfl rfl (Zah (j_q (ZbQ PySem.F.plainAttrs_str PySem.F.slot_str_split PySem.F.type_str_split ZdB ZdM (j_p (Zx (Zl 1) (j_p Zk) (fun _ _=>rfl))) (Za (Zg Zf) Zc)))) (fun _ _ _ _ _ _ _=>(ZQ (i:=0) (show ((["part"]:List Str)++([]:List Str)).Nodup by decide +kernel) rfl (Or.inl rfl))) (fun _ _ _ _ _ _ _=>Za0) (fun _ _ _ _ _ _ _=>(Zp (Z6 T) (hr.mono (by decide)) (by rfl) T.m5 T.F5.kp T.b5 (E:=E0) Zw (Za (Zs 0) Zc))) (by decide))
   (Zad (XT.s (Zb0 (Zlj (Zc2 ZE (ZY ZE rfl (ZdK T) (hr.mono (by decide)) (by rfl) T.m3 T.F3.kp T.b3 (Za (Zg (Zx (Zl 2) (j_p Zk) (fun _ _=>rfl))) Zc)) (Zp (ZaY T) (hr.mono (by decide)) (by rfl) T.m3 T.F3.kp T.b3 (E:=E0) Zw (Za (Zg (Zx (Zl 2) (j_p Zk) (fun _ _=>rfl))) Zc)) (Zc2 ZE (ZY ZE rfl (ZdK T) (hr.mono (by decide)) (by rfl) T.m3 T.F3.kp T.b3 (Za (Zg (Zx (Zl 2) (j_p Zk) (fun _ _=>rfl))) Zc)) (Zp (ZaY T) (hr.mono (by decide)) (by rfl) T.m3 T.F3.kp T.b3 (E:=E0) Zw (Za (Zg (Zx (Zl 2) (j_p Zk) (fun _ _=>rfl))) Zc)) (Zc2 ZE ZhX (Zda 3) ZfZ))))))))))) ?_
 rfl
theorem sc_read_row:ZI ["text","sides"] ["text"] (Zn Zcu):=⟨rfl,rfl,rfl,by decide +kernel,rfl,by decide +kernel,by decide +kernel⟩
theorem Zj4 (T:Tx K mg d):FnOk P w K mg base CX0 5 d.a12 d.d12 ["text"] (spD K ZhI) :=
 by
 refine Z2 (N:=["text","sides"]) (ps:=["text"]) T.F12 sc_read_row (by decide) (g:=ZhE) (fun cdv A outer s H E M H0 hr=>?_)
 refine Z1 (Ze (Zt (i:=1) sc_read_row.nd rfl (Or.inl rfl) (Zp (Zb8 T) (hr.mono (by decide)) (by rfl) T.m6 T.F6.kp T.b6 (E:=E0) Zw (Za (Zs 0) (Za (Zg Zf) Zc))))
   (Ze (ZO (ZbA hr.units (j_p (ZA Z8 ZaA (by rfl) T.n_len (by rfl) (Za (Zs 1) Zc))) (j_p Zk))
   (Ze Zbt
   Zm)
   Zm)
   (Ze (Zv (ZfB (Za (Zg (Zp (Zdu T) (hr.mono (by decide)) (by rfl) T.m9 T.F9.kp T.b9 (E:=E0) Zw (Za (Zg (Zx (Zl 1) (j_p Zk) (fun _ _=>rfl))) Zc))) (Za (Zg (Zp (Zb4 T) (hr.mono (by decide)) (by rfl) T.m2 T.F2.kp T.b2 (E:=E0) Zw (Za (Zg (Zx (Zl 1) (j_p Zk) (fun _ _=>rfl))) Zc))) Zc))))
   Zm))) ?_
 rfl
theorem Zju (T:Tx K mg d):FnOk P w K mg base (CXv P w) 5 d.a12 d.d12 ["text"] (spX K ZbT) :=
 by
 refine Zb6 (N:=["text","sides"]) (ps:=["text"]) T.F12 sc_read_row (by decide) (h:=Zbw) (fun cdv A outer s H E M H0 hr=>?_)
 refine Zbn (ZbN ZE (XT.s (Zhw (ZY ZE rfl (Zew T) (hr.mono (by decide)) (by rfl) T.m6 T.F6.kp T.b6 (Za (Zs 0) (Za (Zg Zf) Zc))))) (Zt (i:=1) sc_read_row.nd rfl (Or.inl rfl) (Zp (Zb8 T) (hr.mono (by decide)) (by rfl) T.m6 T.F6.kp T.b6 (E:=E0) Zw (Za (Zs 0) (Za (Zg Zf) Zc))))
   (ZbN ZE (ZdR ZE (ZbA hr.units (j_p (ZA Z8 ZaA (by rfl) T.n_len (by rfl) (Za (Zs 1) Zc))) (j_p Zk))
   (Zad (XT.s (ZdG ZE rfl rfl T.k_NoText T.q_NoText (by rfl) T.m_NoText (Za (Zg Zf) Zc))))
   Zca) (ZO (ZbA hr.units (j_p (ZA Z8 ZaA (by rfl) T.n_len (by rfl) (Za (Zs 1) Zc))) (j_p Zk))
   (Ze Zbt
   Zm)
   Zm)
   (Zad (XT.s (Zb0 (Zlj (Zc2 ZE (ZY ZE rfl (ZfT T) (hr.mono (by decide)) (by rfl) T.m9 T.F9.kp T.b9 (Za (Zg (Zx (Zl 1) (j_p Zk) (fun _ _=>rfl))) Zc)) (Zp (Zdu T) (hr.mono (by decide)) (by rfl) T.m9 T.F9.kp T.b9 (E:=E0) Zw (Za (Zg (Zx (Zl 1) (j_p Zk) (fun _ _=>rfl))) Zc)) (Zc2 ZE (ZY ZE rfl (ZdD T) (hr.mono (by decide)) (by rfl) T.m2 T.F2.kp T.b2 (Za (Zg (Zx (Zl 1) (j_p Zk) (fun _ _=>rfl))) Zc)) (Zp (Zb4 T) (hr.mono (by decide)) (by rfl) T.m2 T.F2.kp T.b2 (E:=E0) Zw (Za (Zg (Zx (Zl 1) (j_p Zk) (fun _ _=>rfl))) Zc)) ZfZ)))))))) ?_
 rfl
theorem ZgK:ZI ["_law_way","_law_text_here"] ["_law_way","_law_text_here"] (Zn ZcE):=⟨rfl,rfl,rfl,by decide +kernel,rfl,by decide +kernel,by decide +kernel⟩
theorem Zj6 (T:Tx K mg d):FnOk P w K mg base CX0 6 d.a17 d.d17 ["_law_way","_law_text_here"] (spD K Zhr) :=
 by
 refine Z2 (N:=["_law_way","_law_text_here"]) (ps:=["_law_way","_law_text_here"]) T.F17 ZgK (by decide) (g:=Zhj) (fun cdv A outer s H E M H0 hr=>?_)
 refine Z1 (Ze (ZO (ZW hr.units (Zl 0) (j_p Zk))
   (Ze (Zv (Zp (ZgO T) (hr.mono (by decide)) (by rfl) T.m8 T.F8.kp T.b8 (E:=E0) Zw (Za (Zs 1) Zc)))
   Zm)
   Zm)
   (Ze (ZO (ZW hr.units (Zl 0) (j_p Zk))
   (Ze (Zv (Zp (Zdu T) (hr.mono (by decide)) (by rfl) T.m9 T.F9.kp T.b9 (E:=E0) Zw (Za (Zs 1) Zc)))
   Zm)
   Zm)
   (Ze (ZO (ZW hr.units (Zl 0) (j_p Zk))
   (Ze (Zv (Zp (ZfS T) (hr.mono (by decide)) (by rfl) T.m10 T.F10.kp T.b10 (E:=E0) Zw (Za (Zs 1) Zc)))
   Zm)
   Zm)
   (Ze (ZO (ZW hr.units (Zl 0) (j_p Zk))
   (Ze (Zv (Zp (Zf7 T) (hr.mono (by decide)) (by rfl) T.m11 T.F11.kp T.b11 (E:=E0) Zw (Za (Zs 1) Zc)))
   Zm)
   Zm)
   (Ze (Zv (Zp (Zj4 T) (hr.mono (by decide)) (by rfl) T.m12 T.F12.kp T.b12 (E:=E0) Zw (Za (Zs 1) Zc)))
   Zm))))) ?_
 rfl
theorem Zjd (T:Tx K mg d):FnOk P w K mg base (CXv P w) 6 d.a17 d.d17 ["_law_way","_law_text_here"] (spX K Zel) :=
 by
 refine Zb6 (N:=["_law_way","_law_text_here"]) (ps:=["_law_way","_law_text_here"]) T.F17 ZgK (by decide) (h:=Zbq) (fun cdv A outer s H E M H0 hr=>?_)
 refine Zbn (ZbN ZE (ZdR ZE (ZW hr.units (Zl 0) (j_p Zk))
   (Zad (XT.s (Zb0 (ZY ZE rfl (ZjC T) (hr.mono (by decide)) (by rfl) T.m8 T.F8.kp T.b8 (Za (Zs 1) Zc)))))
   Zca) (ZO (ZW hr.units (Zl 0) (j_p Zk))
   (Ze (Zv (Zp (ZgO T) (hr.mono (by decide)) (by rfl) T.m8 T.F8.kp T.b8 (E:=E0) Zw (Za (Zs 1) Zc)))
   Zm)
   Zm)
   (ZbN ZE (ZdR ZE (ZW hr.units (Zl 0) (j_p Zk))
   (Zad (XT.s (Zb0 (ZY ZE rfl (ZfT T) (hr.mono (by decide)) (by rfl) T.m9 T.F9.kp T.b9 (Za (Zs 1) Zc)))))
   Zca) (ZO (ZW hr.units (Zl 0) (j_p Zk))
   (Ze (Zv (Zp (Zdu T) (hr.mono (by decide)) (by rfl) T.m9 T.F9.kp T.b9 (E:=E0) Zw (Za (Zs 1) Zc)))
   Zm)
   Zm)
   (ZbN ZE (ZdR ZE (ZW hr.units (Zl 0) (j_p Zk))
   (Zad (XT.s (Zb0 (ZY ZE rfl (Zh2 T) (hr.mono (by decide)) (by rfl) T.m10 T.F10.kp T.b10 (Za (Zs 1) Zc)))))
   Zca) (ZO (ZW hr.units (Zl 0) (j_p Zk))
   (Ze (Zv (Zp (ZfS T) (hr.mono (by decide)) (by rfl) T.m10 T.F10.kp T.b10 (E:=E0) Zw (Za (Zs 1) Zc)))
   Zm)
   Zm)
   (ZbN ZE (ZdR ZE (ZW hr.units (Zl 0) (j_p Zk))
   (Zad (XT.s (Zb0 (ZY ZE rfl (ZiF T) (hr.mono (by decide)) (by rfl) T.m11 T.F11.kp T.b11 (Za (Zs 1) Zc)))))
   Zca) (ZO (ZW hr.units (Zl 0) (j_p Zk))
   (Ze (Zv (Zp (Zf7 T) (hr.mono (by decide)) (by rfl) T.m11 T.F11.kp T.b11 (E:=E0) Zw (Za (Zs 1) Zc)))
   Zm)
   Zm)
   (Zad (XT.s (Zb0 (ZY ZE rfl (Zju T) (hr.mono (by decide)) (by rfl) T.m12 T.F12.kp T.b12 (Za (Zs 1) Zc))))))))) ?_
 rfl
theorem sc_law_refused:ZI ["_law_way","_law_text_here","e","_law_others"] ["_law_way","_law_text_here"] (Zn Zbl):=⟨rfl,rfl,rfl,by decide +kernel,rfl,by decide +kernel,by decide +kernel⟩
theorem Zh6 (T:Tx K mg d):FnOk P w K mg base CX0 7 d.a18 d.d18 ["_law_way","_law_text_here"] (spD K Zd6) :=
 by
 refine Z2 (N:=["_law_way","_law_text_here","e","_law_others"]) (ps:=["_law_way","_law_text_here"]) T.F18 sc_law_refused (by decide) (g:=ZcO) (fun cdv A outer s H E M H0 hr=>?_)
 refine Z1 (Ze (Zpj 2 CS ZE rfl rfl rfl (ZnZ (ZY ZE rfl (Zjd T) (hr.mono (by decide)) (by rfl) T.m17 T.F17.kp T.b17 (Za (Zs 0) (Za (Zs 1) Zc)))) (Zmb (Zp (Zj6 T) (hr.mono (by decide)) (by rfl) T.m17 T.F17.kp T.b17 (E:=E0) Zw (Za (Zs 0) (Za (Zs 1) Zc)))) T.m_CubeError (by rfl) (Zix T) sc_law_refused.nd rfl rfl (fun x H1 hx1=>(Ze (Zt (i:=3) sc_law_refused.nd rfl (Or.inl rfl) (Zal (ZT (Za (Zg (Zdx 2 CS (ZU "NoGrain") rfl rfl (Or.inl rfl) (ZcF (v:=.ref d.a_NoGrain) (by rfl) T.m_NoGrain rfl) (fun u z=>z) (ZjT T) (by rfl) T.n_isinstance (by rfl))) (Za (Zg (Zdx 2 CS (ZU "NoLadder") rfl rfl (Or.inl rfl) (ZcF (v:=.ref d.a_NoLadder) (by rfl) T.m_NoLadder rfl) (fun u z=>z) (ZjQ T) (by rfl) T.n_isinstance (by rfl))) (Za (Zg (Zdx 2 CS (ZU "NoPick") rfl rfl (Or.inl rfl) (ZcF (v:=.ref d.a_NoPick) (by rfl) T.m_NoPick rfl) (fun u z=>z) (ZkK T) (by rfl) T.n_isinstance (by rfl))) (Za (Zg (Zdx 2 CS (ZU "NoRow") rfl rfl (Or.inl rfl) (ZcF (v:=.ref d.a_NoRow) (by rfl) T.m_NoRow rfl) (fun u z=>z) (Zl1 T) (by rfl) T.n_isinstance (by rfl))) Zc)))))))
   (Ze (Zt (i:=3) sc_law_refused.nd rfl (Or.inl rfl) (Zh (Zl 3) (j_p (Zal (ZT (Za (Zg (Zdx 2 CS (ZU "NoSuch") rfl rfl (Or.inl rfl) (ZcF (v:=.ref d.a_NoSuch) (by rfl) T.m_NoSuch rfl) (fun u z=>z) (Zk9 T) (by rfl) T.n_isinstance (by rfl))) (Za (Zg (Zdx 2 CS (ZU "NoValue") rfl rfl (Or.inl rfl) (ZcF (v:=.ref d.a_NoValue) (by rfl) T.m_NoValue rfl) (fun u z=>z) (ZjX T) (by rfl) T.n_isinstance (by rfl))) (Za (Zg (Zdx 2 CS (ZU "TooMuch") rfl rfl (Or.inl rfl) (ZcF (v:=.ref d.a_TooMuch) (by rfl) T.m_TooMuch rfl) (fun u z=>z) (ZjZ T) (by rfl) T.n_isinstance (by rfl))) Zc))))))))
   (Ze (Zv (Zhc (Zdx 2 CS (ZU "NoText") rfl rfl (Or.inl rfl) (ZcF (v:=.ref d.a_NoText) (by rfl) T.m_NoText rfl) (fun u z=>z) (ZkW T) (by rfl) T.n_isinstance (by rfl)) (Zhc (Zdx 2 CS (ZU "ValueError") rfl rfl (Or.inl rfl) (Zkc (v:=.ty "ValueError") (by rfl) T.n_ValueError (by rfl) rfl) (fun u z=>z) (ZhZ T) (by rfl) T.n_isinstance (by rfl)) (ZgU (ZmP (Zm3 rfl rfl hx1 (by rfl) T.n_any (by rfl) (Za (Zs 3) Zc)))))))
   Zm)))))
   (Ze (Zv Zcv)
   Zm)) ?_
 rfl
theorem sc_law:ZI ["_law_script","_law_k","_law_cell","_law_s","_law_word_here","_law_number","_law_way","_law_text_here"] ["_law_script"] (Zn Zgz):=⟨rfl,rfl,rfl,by decide +kernel,rfl,by decide +kernel,by decide +kernel⟩
theorem Zo7 (T:Tx K mg d):FnOk P w K mg base CX0 8 d.a25 d.d25 ["_law_script"] (spD K Znh) :=
 by
 refine Z2 (N:=["_law_script","_law_k","_law_cell","_law_s","_law_word_here","_law_number","_law_way","_law_text_here"]) (ps:=["_law_script"]) T.F25 sc_law (by decide) (g:=ZiT) (fun cdv A outer s H E M H0 hr=>?_)
 refine Z1 (Ze (Zg1 PassesOwn.never rfl (Zln (by rfl) T.n_enumerate (j_q (Zh (j_p (Zal (ZT (Za (Zg (Zp (ZdL T) (hr.mono (by decide)) (by rfl) T.m13 T.F13.kp T.b13 (E:=E0) Zw (Za (Zs 0) (Za (Zg Zk) Zc)))) Zc)))) (j_p (Zct (Zl 0) (Zcl (j_p Zk)) (Zcl (j_p Zk))))))) (Zmm (n:=2) rfl (Zhu (ZQ (i:=1) sc_law.nd rfl (Or.inl rfl)) (Zhu (ZQ (i:=2) sc_law.nd rfl (Or.inl rfl)) Zld)))
   (Ze (Zt (i:=3) sc_law.nd rfl (Or.inl rfl) (Zp (ZiG T) (hr.mono (by decide)) (by rfl) T.m14 T.F14.kp T.b14 (E:=E0) Zw (Za (Zs 2) (Za (Zs 1) Zc))))
   (Ze (Zt (i:=4) sc_law.nd rfl (Or.inl rfl) (Zp (Zj1 T) (hr.mono (by decide)) (by rfl) T.m15 T.F15.kp T.b15 (E:=E0) Zw (Za (Zg (Zh (j_p (Zp (ZdL T) (hr.mono (by decide)) (by rfl) T.m13 T.F13.kp T.b13 (E:=E0) Zw (Za (Zs 0) (Za (Zg Zk) Zc)))) (Zl 1))) (Za (Zg (Zao (j_p (Zp (ZdL T) (hr.mono (by decide)) (by rfl) T.m13 T.F13.kp T.b13 (E:=E0) Zw (Za (Zs 0) (Za (Zg Zk) Zc)))) (j_p Zk))) Zc))))
   (Ze (Zt (i:=5) sc_law.nd rfl (Or.inl rfl) (Zp (Zic T) (hr.mono (by decide)) (by rfl) T.m16 T.F16.kp T.b16 (E:=E0) Zw (Za (Zg (Zez (j_p (Zao (j_p (ZeN (Zl 2) (j_p Zk))) (j_p (Zm6 (j_p Zk) (j_p Zk))))) (j_p (Zm2 (j_p Zk) (j_p (Zez (j_p Zk) (j_p (Zao (Zl 2) (j_p Zk))))))))) Zc)))
   (Ze (Zt (i:=6) sc_law.nd rfl (Or.inl rfl) (Zao (j_p (Zx (Zl 3) (j_p Zk) (fun _ _=>rfl))) (j_p Zk)))
   (Ze (Zt (i:=7) sc_law.nd rfl (Or.inl rfl) (Zp (ZjY T) (hr.mono (by decide)) (by rfl) T.m23 T.F23.kp T.b23 (E:=E0) Zw (Za (Zs 6) (Za (Zs 3) (Za (Zs 4) (Za (Zs 5) Zc))))))
   (Ze (ZO (ZW hr.units (j_p (Zao (j_p (Zx (Zl 3) (j_p Zk) (fun _ _=>rfl))) (j_p Zk))) (j_p Zk))
   (Ze (Zt (i:=7) sc_law.nd rfl (Or.inl rfl) (Zp (Zh5 T) (hr.mono (by decide)) (by rfl) T.m24 T.F24.kp T.b24 (E:=E0) Zw (Za (Zs 6) (Za (Zs 3) (Za (Zs 4) (Za (Zs 5) Zc))))))
   Zm)
   Zm)
   (Ze (ZO (ZW hr.units (j_p (Zao (j_p (Zx (Zl 3) (j_p Zk) (fun _ _=>rfl))) (j_p Zk))) (j_p Zk))
   (Ze (Zt (i:=7) sc_law.nd rfl (Or.inl rfl) (Zx (j_p (Zal (ZT (Za (Zg Zi6) (Za (Zg Zk) (Za (Zg Zcv) (Za (Zg (ZfB (Za (Zg (Zda 4)) Zc))) (Za (Zg (Zal (ZT (Za (Zg (Zda 4)) Zc)))) (Za (Zg Zk) (Za (Zg (ZfB Zc)) (Za (Zg Zcv) Zc))))))))))) (j_p (Zao (j_p (Zx (Zl 3) (j_p Zk) (fun _ _=>rfl))) (j_p Zk))) (fun _ _=>rfl)))
   Zm)
   Zm)
   (Ze (ZO (ZbU (ZaE (j_p (Zp (Zh6 T) (hr.mono (by decide)) (by rfl) T.m18 T.F18.kp T.b18 (E:=E0) Zw (Za (Zs 6) (Za (Zs 7) Zc))))))
   (Ze (Zv Zcv)
   Zm)
   Zm)
   Zm)))))))))
   (Ze (Zv Zcv)
   Zm)) ?_
 rfl
end
theorem us1 {P:List Value→Prop} (h:∀ a0:Value,P [a0]) (us:List Value) (hl:us.length=1):P us:=by
 obtain ⟨a0,e⟩:∃ a0,us=[a0]:=by
  match us,hl with
  | [a0],_=>exact ⟨a0,rfl⟩
 subst e
 exact h a0
theorem us2 {P:List Value→Prop} (h:∀ a0 a1:Value,P [a0,a1]) (us:List Value) (hl:us.length=2):P us:=by
 obtain ⟨a0,a1,e⟩:∃ a0 a1,us=[a0,a1]:=by
  match us,hl with
  | [a0,a1],_=>exact ⟨a0,a1,rfl⟩
 subst e
 exact h a0 a1
theorem us4 {P:List Value→Prop} (h:∀ a0 a1 a2 a3:Value,P [a0,a1,a2,a3]) (us:List Value) (hl:us.length=4):P us:=by
 obtain ⟨a0,a1,a2,a3,e⟩:∃ a0 a1 a2 a3,us=[a0,a1,a2,a3]:=by
  match us,hl with
  | [a0,a1,a2,a3],_=>exact ⟨a0,a1,a2,a3,rfl⟩
 subst e
 exact h a0 a1 a2 a3
theorem all_mk {l:PySem.W.OpenLaw} {w:World} {K:PySem.W.Frag} {h:Heap} {mg:Str→Option Value} {fa:Addr} (X:K.In h) (G:h.Ns mainGlobals mg) (hfa:mg "law"=some (.ref fa))
  {a0 a1 a2 a3 a4 a5 a6 a7 a8 a9 a10 a11 a12 a13 a14 a15 a16 a17 a18 a19 a20 a21 a22 a23 a24 a25:Addr}
  {o0 n0 o1 n1 o2 n2 o3 n3 o4 n4 o5 n5 o6 n6 o7 n7 o8 n8 o9 n9 o10 n10 o11 n11 o12 n12 o13 n13 o14 n14 o15 n15 o16 n16 o17 n17 o18 n18 o19 n19 o20 n20 o21 n21 o22 n22 o23 n23 o24 n24 o25 n25:Option Addr}
  {l0 l1 l2 l3 l4 l5 l6 l7 l8 l9 l10 l11 l12 l13 l14 l15 l16 l17 l18 l19 l20 l21 l22 l23 l24 l25:Array (Option Value)}
  {r0 v0 e0 p0 c0 t0 r1 v1 e1 p1 c1 t1 r2 v2 e2 p2 c2 t2 r3 v3 e3 p3 c3 t3 r4 v4 e4 p4 c4 t4 r5 v5 e5 p5 c5 t5 r6 v6 e6 p6 c6 t6 r7 v7 e7 p7 c7 t7 r8 v8 e8 p8 c8 t8 r9 v9 e9 p9 c9 t9 r10 v10 e10 p10 c10 t10 r11 v11 e11 p11 c11 t11 r12 v12 e12 p12 c12 t12 r13 v13 e13 p13 c13 t13 r14 v14 e14 p14 c14 t14 r15 v15 e15 p15 c15 t15 r16 v16 e16 p16 c16 t16 r17 v17 e17 p17 c17 t17 r18 v18 e18 p18 c18 t18 r19 v19 e19 p19 c19 t19 r20 v20 e20 p20 c20 t20 r21 v21 e21 p21 c21 t21 r22 v22 e22 p22 c22 t22 r23 v23 e23 p23 c23 t23 r24 v24 e24 p24 c24 t24 r25 v25 e25 p25 c25 t25:Value}
  {t_FIGURES:Tok}
  {t_LETTERS:Tok}
  {t_LONGEST_WORD:Tok}
  {t_MOST_FIGURES:Tok}
  {t_MOST_PARTS:Tok}
  {a_CubeError:Addr}
  {a_NoGrain:Addr}
  {a_NoLadder:Addr}
  {a_NoPick:Addr}
  {a_NoRow:Addr}
  {a_NoSuch:Addr}
  {a_NoText:Addr}
  {a_NoValue:Addr}
  {a_TooMuch:Addr}
  {cd_CubeError:ClassData}
  {cd_NoGrain:ClassData}
  {cd_NoLadder:ClassData}
  {cd_NoPick:ClassData}
  {cd_NoRow:ClassData}
  {cd_NoSuch:ClassData}
  {cd_NoText:ClassData}
  {cd_NoValue:ClassData}
  {cd_TooMuch:ClassData}
  {nm_NoText qn_NoText:Str} {N_NoText:Addr} {bs_NoText bm_NoText sb_NoText:List Value} {hd_NoText ab_NoText:Bool} {sn_NoText:List Str} {co_NoText:Option Bool} {dd_NoText:Option Addr} {k0_NoText k1_NoText k2_NoText k3_NoText k5_NoText:Option Value} {cd2_NoText:ClassData}
  (A0:PySem.W.nsIn K mainGlobals "is_word"=some (some (.ref a0)))
  (L0:K.lookup a0=some ⟨r0,o0,.func (PySem.W.fnOf "is_word" "is_word" (ZN Zci) (ZG Zci) (Zn Zci) .none v0 e0 p0 n0 c0 t0),l0⟩)
  (C0:PySem.W.codeIn K c0 "is_word"=true) (k0:PySem.W.keepIn K (.ref a0)=true)
  (A1:PySem.W.nsIn K mainGlobals "is_written_whole"=some (some (.ref a1)))
  (L1:K.lookup a1=some ⟨r1,o1,.func (PySem.W.fnOf "is_written_whole" "is_written_whole" (ZN Zaf) (ZG Zaf) (Zn Zaf) .none v1 e1 p1 n1 c1 t1),l1⟩)
  (C1:PySem.W.codeIn K c1 "is_written_whole"=true) (k1:PySem.W.keepIn K (.ref a1)=true)
  (A2:PySem.W.nsIn K mainGlobals "read_whole"=some (some (.ref a2)))
  (L2:K.lookup a2=some ⟨r2,o2,.func (PySem.W.fnOf "read_whole" "read_whole" (ZN ZbK) (ZG ZbK) (Zn ZbK) .none v2 e2 p2 n2 c2 t2),l2⟩)
  (C2:PySem.W.codeIn K c2 "read_whole"=true) (k2:PySem.W.keepIn K (.ref a2)=true)
  (A3:PySem.W.nsIn K mainGlobals "read_place"=some (some (.ref a3)))
  (L3:K.lookup a3=some ⟨r3,o3,.func (PySem.W.fnOf "read_place" "read_place" (ZN ZbH) (ZG ZbH) (Zn ZbH) .none v3 e3 p3 n3 c3 t3),l3⟩)
  (C3:PySem.W.codeIn K c3 "read_place"=true) (k3:PySem.W.keepIn K (.ref a3)=true)
  (A4:PySem.W.nsIn K mainGlobals "read_value"=some (some (.ref a4)))
  (L4:K.lookup a4=some ⟨r4,o4,.func (PySem.W.fnOf "read_value" "read_value" (ZN ZbD) (ZG ZbD) (Zn ZbD) .none v4 e4 p4 n4 c4 t4),l4⟩)
  (C4:PySem.W.codeIn K c4 "read_value"=true) (k4:PySem.W.keepIn K (.ref a4)=true)
  (A5:PySem.W.nsIn K mainGlobals "read_value_or_whole"=some (some (.ref a5)))
  (L5:K.lookup a5=some ⟨r5,o5,.func (PySem.W.fnOf "read_value_or_whole" "read_value_or_whole" (ZN Zab) (ZG Zab) (Zn Zab) .none v5 e5 p5 n5 c5 t5),l5⟩)
  (C5:PySem.W.codeIn K c5 "read_value_or_whole"=true) (k5:PySem.W.keepIn K (.ref a5)=true)
  (A6:PySem.W.nsIn K mainGlobals "parts_of"=some (some (.ref a6)))
  (L6:K.lookup a6=some ⟨r6,o6,.func (PySem.W.fnOf "parts_of" "parts_of" (ZN Zcx) (ZG Zcx) (Zn Zcx) .none v6 e6 p6 n6 c6 t6),l6⟩)
  (C6:PySem.W.codeIn K c6 "parts_of"=true) (k6:PySem.W.keepIn K (.ref a6)=true)
  (A7:PySem.W.nsIn K mainGlobals "few_parts_of"=some (some (.ref a7)))
  (L7:K.lookup a7=some ⟨r7,o7,.func (PySem.W.fnOf "few_parts_of" "few_parts_of" (ZN Zbd) (ZG Zbd) (Zn Zbd) .none v7 e7 p7 n7 c7 t7),l7⟩)
  (C7:PySem.W.codeIn K c7 "few_parts_of"=true) (k7:PySem.W.keepIn K (.ref a7)=true)
  (A8:PySem.W.nsIn K mainGlobals "read_key"=some (some (.ref a8)))
  (L8:K.lookup a8=some ⟨r8,o8,.func (PySem.W.fnOf "read_key" "read_key" (ZN ZaI) (ZG ZaI) (Zn ZaI) .none v8 e8 p8 n8 c8 t8),l8⟩)
  (C8:PySem.W.codeIn K c8 "read_key"=true) (k8:PySem.W.keepIn K (.ref a8)=true)
  (A9:PySem.W.nsIn K mainGlobals "read_line"=some (some (.ref a9)))
  (L9:K.lookup a9=some ⟨r9,o9,.func (PySem.W.fnOf "read_line" "read_line" (ZN Zar) (ZG Zar) (Zn Zar) .none v9 e9 p9 n9 c9 t9),l9⟩)
  (C9:PySem.W.codeIn K c9 "read_line"=true) (k9:PySem.W.keepIn K (.ref a9)=true)
  (A10:PySem.W.nsIn K mainGlobals "read_grain"=some (some (.ref a10)))
  (L10:K.lookup a10=some ⟨r10,o10,.func (PySem.W.fnOf "read_grain" "read_grain" (ZN Zaj) (ZG Zaj) (Zn Zaj) .none v10 e10 p10 n10 c10 t10),l10⟩)
  (C10:PySem.W.codeIn K c10 "read_grain"=true) (k10:PySem.W.keepIn K (.ref a10)=true)
  (A11:PySem.W.nsIn K mainGlobals "read_pick"=some (some (.ref a11)))
  (L11:K.lookup a11=some ⟨r11,o11,.func (PySem.W.fnOf "read_pick" "read_pick" (ZN ZaK) (ZG ZaK) (Zn ZaK) .none v11 e11 p11 n11 c11 t11),l11⟩)
  (C11:PySem.W.codeIn K c11 "read_pick"=true) (k11:PySem.W.keepIn K (.ref a11)=true)
  (A12:PySem.W.nsIn K mainGlobals "read_row"=some (some (.ref a12)))
  (L12:K.lookup a12=some ⟨r12,o12,.func (PySem.W.fnOf "read_row" "read_row" (ZN Zcu) (ZG Zcu) (Zn Zcu) .none v12 e12 p12 n12 c12 t12),l12⟩)
  (C12:PySem.W.codeIn K c12 "read_row"=true) (k12:PySem.W.keepIn K (.ref a12)=true)
  (A13:PySem.W.nsIn K mainGlobals "_law_cell_at"=some (some (.ref a13)))
  (L13:K.lookup a13=some ⟨r13,o13,.func (PySem.W.fnOf "_law_cell_at" "_law_cell_at" (ZN Zbm) (ZG Zbm) (Zn Zbm) .none v13 e13 p13 n13 c13 t13),l13⟩)
  (C13:PySem.W.codeIn K c13 "_law_cell_at"=true) (k13:PySem.W.keepIn K (.ref a13)=true)
  (A14:PySem.W.nsIn K mainGlobals "_law_stream"=some (some (.ref a14)))
  (L14:K.lookup a14=some ⟨r14,o14,.func (PySem.W.fnOf "_law_stream" "_law_stream" (ZN ZbO) (ZG ZbO) (Zn ZbO) .none v14 e14 p14 n14 c14 t14),l14⟩)
  (C14:PySem.W.codeIn K c14 "_law_stream"=true) (k14:PySem.W.keepIn K (.ref a14)=true)
  (A15:PySem.W.nsIn K mainGlobals "_law_word"=some (some (.ref a15)))
  (L15:K.lookup a15=some ⟨r15,o15,.func (PySem.W.fnOf "_law_word" "_law_word" (ZN ZcC) (ZG ZcC) (Zn ZcC) .none v15 e15 p15 n15 c15 t15),l15⟩)
  (C15:PySem.W.codeIn K c15 "_law_word"=true) (k15:PySem.W.keepIn K (.ref a15)=true)
  (A16:PySem.W.nsIn K mainGlobals "_law_written"=some (some (.ref a16)))
  (L16:K.lookup a16=some ⟨r16,o16,.func (PySem.W.fnOf "_law_written" "_law_written" (ZN Zbj) (ZG Zbj) (Zn Zbj) .none v16 e16 p16 n16 c16 t16),l16⟩)
  (C16:PySem.W.codeIn K c16 "_law_written"=true) (k16:PySem.W.keepIn K (.ref a16)=true)
  (A17:PySem.W.nsIn K mainGlobals "_law_read"=some (some (.ref a17)))
  (L17:K.lookup a17=some ⟨r17,o17,.func (PySem.W.fnOf "_law_read" "_law_read" (ZN ZcE) (ZG ZcE) (Zn ZcE) .none v17 e17 p17 n17 c17 t17),l17⟩)
  (C17:PySem.W.codeIn K c17 "_law_read"=true) (k17:PySem.W.keepIn K (.ref a17)=true)
  (A18:PySem.W.nsIn K mainGlobals "_law_refused"=some (some (.ref a18)))
  (L18:K.lookup a18=some ⟨r18,o18,.func (PySem.W.fnOf "_law_refused" "_law_refused" (ZN Zbl) (ZG Zbl) (Zn Zbl) .none v18 e18 p18 n18 c18 t18),l18⟩)
  (C18:PySem.W.codeIn K c18 "_law_refused"=true) (k18:PySem.W.keepIn K (.ref a18)=true)
  (A19:PySem.W.nsIn K mainGlobals "_law_odd_things"=some (some (.ref a19)))
  (L19:K.lookup a19=some ⟨r19,o19,.func (PySem.W.fnOf "_law_odd_things" "_law_odd_things" (ZN ZaG) (ZG ZaG) (Zn ZaG) .none v19 e19 p19 n19 c19 t19),l19⟩)
  (C19:PySem.W.codeIn K c19 "_law_odd_things"=true) (k19:PySem.W.keepIn K (.ref a19)=true)
  (A20:PySem.W.nsIn K mainGlobals "_law_odd_places"=some (some (.ref a20)))
  (L20:K.lookup a20=some ⟨r20,o20,.func (PySem.W.fnOf "_law_odd_places" "_law_odd_places" (ZN ZaH) (ZG ZaH) (Zn ZaH) .none v20 e20 p20 n20 c20 t20),l20⟩)
  (C20:PySem.W.codeIn K c20 "_law_odd_places"=true) (k20:PySem.W.keepIn K (.ref a20)=true)
  (A21:PySem.W.nsIn K mainGlobals "_law_odd_picks"=some (some (.ref a21)))
  (L21:K.lookup a21=some ⟨r21,o21,.func (PySem.W.fnOf "_law_odd_picks" "_law_odd_picks" (ZN ZaT) (ZG ZaT) (Zn ZaT) .none v21 e21 p21 n21 c21 t21),l21⟩)
  (C21:PySem.W.codeIn K c21 "_law_odd_picks"=true) (k21:PySem.W.keepIn K (.ref a21)=true)
  (A22:PySem.W.nsIn K mainGlobals "_law_odd_rows"=some (some (.ref a22)))
  (L22:K.lookup a22=some ⟨r22,o22,.func (PySem.W.fnOf "_law_odd_rows" "_law_odd_rows" (ZN Zbb) (ZG Zbb) (Zn Zbb) .none v22 e22 p22 n22 c22 t22),l22⟩)
  (C22:PySem.W.codeIn K c22 "_law_odd_rows"=true) (k22:PySem.W.keepIn K (.ref a22)=true)
  (A23:PySem.W.nsIn K mainGlobals "_law_text"=some (some (.ref a23)))
  (L23:K.lookup a23=some ⟨r23,o23,.func (PySem.W.fnOf "_law_text" "_law_text" (ZN Zbv) (ZG Zbv) (Zn Zbv) .none v23 e23 p23 n23 c23 t23),l23⟩)
  (C23:PySem.W.codeIn K c23 "_law_text"=true) (k23:PySem.W.keepIn K (.ref a23)=true)
  (A24:PySem.W.nsIn K mainGlobals "_law_spoiled"=some (some (.ref a24)))
  (L24:K.lookup a24=some ⟨r24,o24,.func (PySem.W.fnOf "_law_spoiled" "_law_spoiled" (ZN Zbi) (ZG Zbi) (Zn Zbi) .none v24 e24 p24 n24 c24 t24),l24⟩)
  (C24:PySem.W.codeIn K c24 "_law_spoiled"=true) (k24:PySem.W.keepIn K (.ref a24)=true)
  (A25:PySem.W.nsIn K mainGlobals "law"=some (some (.ref a25)))
  (L25:K.lookup a25=some ⟨r25,o25,.func (PySem.W.fnOf "law" "law" (ZN Zgz) (ZG Zgz) (Zn Zgz) .none v25 e25 p25 n25 c25 t25),l25⟩)
  (C25:PySem.W.codeIn K c25 "law"=true) (k25:PySem.W.keepIn K (.ref a25)=true)
  (N_ValueError:PySem.W.nsIn K mainGlobals "ValueError"=some none)
  (N_abs:PySem.W.nsIn K mainGlobals "abs"=some none)
  (N_all:PySem.W.nsIn K mainGlobals "all"=some none)
  (N_any:PySem.W.nsIn K mainGlobals "any"=some none)
  (N_enumerate:PySem.W.nsIn K mainGlobals "enumerate"=some none)
  (N_int:PySem.W.nsIn K mainGlobals "int"=some none)
  (N_isinstance:PySem.W.nsIn K mainGlobals "isinstance"=some none)
  (N_len:PySem.W.nsIn K mainGlobals "len"=some none)
  (N_range:PySem.W.nsIn K mainGlobals "range"=some none)
  (N_str:PySem.W.nsIn K mainGlobals "str"=some none)
  (N_tuple:PySem.W.nsIn K mainGlobals "tuple"=some none)
  (G_FIGURES:PySem.W.nsIn K mainGlobals "FIGURES"=some (some (.str "0123456789" t_FIGURES)))
  (G_LETTERS:PySem.W.nsIn K mainGlobals "LETTERS"=some (some (.str "abcdefghijklmnopqrstuvwxyz" t_LETTERS)))
  (G_LONGEST_WORD:PySem.W.nsIn K mainGlobals "LONGEST_WORD"=some (some (.int (12) t_LONGEST_WORD)))
  (G_MOST_FIGURES:PySem.W.nsIn K mainGlobals "MOST_FIGURES"=some (some (.int (60) t_MOST_FIGURES)))
  (G_MOST_PARTS:PySem.W.nsIn K mainGlobals "MOST_PARTS"=some (some (.int (4) t_MOST_PARTS)))
  (A_CubeError:PySem.W.nsIn K mainGlobals "CubeError"=some (some (.ref a_CubeError)))
  (A_NoGrain:PySem.W.nsIn K mainGlobals "NoGrain"=some (some (.ref a_NoGrain)))
  (A_NoLadder:PySem.W.nsIn K mainGlobals "NoLadder"=some (some (.ref a_NoLadder)))
  (A_NoPick:PySem.W.nsIn K mainGlobals "NoPick"=some (some (.ref a_NoPick)))
  (A_NoRow:PySem.W.nsIn K mainGlobals "NoRow"=some (some (.ref a_NoRow)))
  (A_NoSuch:PySem.W.nsIn K mainGlobals "NoSuch"=some (some (.ref a_NoSuch)))
  (A_NoText:PySem.W.nsIn K mainGlobals "NoText"=some (some (.ref a_NoText)))
  (A_NoValue:PySem.W.nsIn K mainGlobals "NoValue"=some (some (.ref a_NoValue)))
  (A_TooMuch:PySem.W.nsIn K mainGlobals "TooMuch"=some (some (.ref a_TooMuch)))
  (Y_CubeError:PySem.W.typeIn K (.ref a_CubeError)=some (.type "type")) (Z_CubeError:PySem.W.clsIn K a_CubeError=some cd_CubeError)
  (Y_NoGrain:PySem.W.typeIn K (.ref a_NoGrain)=some (.type "type")) (Z_NoGrain:PySem.W.clsIn K a_NoGrain=some cd_NoGrain)
  (Y_NoLadder:PySem.W.typeIn K (.ref a_NoLadder)=some (.type "type")) (Z_NoLadder:PySem.W.clsIn K a_NoLadder=some cd_NoLadder)
  (Y_NoPick:PySem.W.typeIn K (.ref a_NoPick)=some (.type "type")) (Z_NoPick:PySem.W.clsIn K a_NoPick=some cd_NoPick)
  (Y_NoRow:PySem.W.typeIn K (.ref a_NoRow)=some (.type "type")) (Z_NoRow:PySem.W.clsIn K a_NoRow=some cd_NoRow)
  (Y_NoSuch:PySem.W.typeIn K (.ref a_NoSuch)=some (.type "type")) (Z_NoSuch:PySem.W.clsIn K a_NoSuch=some cd_NoSuch)
  (Y_NoText:PySem.W.typeIn K (.ref a_NoText)=some (.type "type")) (Z_NoText:PySem.W.clsIn K a_NoText=some cd_NoText)
  (Y_NoValue:PySem.W.typeIn K (.ref a_NoValue)=some (.type "type")) (Z_NoValue:PySem.W.clsIn K a_NoValue=some cd_NoValue)
  (Y_TooMuch:PySem.W.typeIn K (.ref a_TooMuch)=some (.type "type")) (Z_TooMuch:PySem.W.clsIn K a_TooMuch=some cd_TooMuch)
  (B_CubeError:PySem.W.subIn K (.ref a_CubeError) (.type "BaseException")=some true)
  (L_NoText:K.lookup a_NoText=some (excClassObj nm_NoText qn_NoText a_NoText N_NoText bs_NoText bm_NoText hd_NoText sn_NoText sb_NoText ab_NoText co_NoText dd_NoText k0_NoText k1_NoText k2_NoText k3_NoText k5_NoText "ValueError.__new__"))
  (E_NoText:PySem.W.excIn K a_NoText bmV "ValueError.__new__"=true)
  (f0_NoText:PySem.W.findIn K (.ref a_NoText) "__getattribute__"=some (some (.builtin "BaseException.__getattribute__")))
  (f1_NoText:PySem.W.findIn K (.ref a_NoText) "__class__"=some (some (.builtin "object.__class__")))
  (f2_NoText:PySem.W.findIn K (.ref a_NoText) "__getattr__"=some none)
  (f3_NoText:PySem.W.subIn K (.ref a_NoText) (.type "BaseException")=some true)
  (f4_NoText:PySem.W.subIn K (.ref a_NoText) (.type "object")=some true)
  (f5_NoText:PySem.W.typeIn K (.ref a_NoText)=some (.type "type")) (f6_NoText:PySem.W.clsIn K a_NoText=some cd2_NoText)
  (S_NoText_CubeError:PySem.W.subIn K (.ref a_NoText) (.ref a_CubeError)=some true)
  (S_NoText_NoGrain:PySem.W.subIn K (.ref a_NoText) (.ref a_NoGrain)=some false)
  (D_NoText_NoGrain:(Value.ref a_NoText==Value.ref a_NoGrain)=false)
  (S_NoText_NoLadder:PySem.W.subIn K (.ref a_NoText) (.ref a_NoLadder)=some false)
  (D_NoText_NoLadder:(Value.ref a_NoText==Value.ref a_NoLadder)=false)
  (S_NoText_NoPick:PySem.W.subIn K (.ref a_NoText) (.ref a_NoPick)=some false)
  (D_NoText_NoPick:(Value.ref a_NoText==Value.ref a_NoPick)=false)
  (S_NoText_NoRow:PySem.W.subIn K (.ref a_NoText) (.ref a_NoRow)=some false)
  (D_NoText_NoRow:(Value.ref a_NoText==Value.ref a_NoRow)=false)
  (S_NoText_NoSuch:PySem.W.subIn K (.ref a_NoText) (.ref a_NoSuch)=some false)
  (D_NoText_NoSuch:(Value.ref a_NoText==Value.ref a_NoSuch)=false)
  (S_NoText_NoText:PySem.W.subIn K (.ref a_NoText) (.ref a_NoText)=some true)
  (S_NoText_NoValue:PySem.W.subIn K (.ref a_NoText) (.ref a_NoValue)=some false)
  (D_NoText_NoValue:(Value.ref a_NoText==Value.ref a_NoValue)=false)
  (S_NoText_TooMuch:PySem.W.subIn K (.ref a_NoText) (.ref a_TooMuch)=some false)
  (D_NoText_TooMuch:(Value.ref a_NoText==Value.ref a_TooMuch)=false)
  (V_NoText:PySem.W.subIn K (.ref a_NoText) (.type "ValueError")=some true) :
  ∃ fd:FuncData,(∀ (s:Shared) (v:Value),BindsTo s fd ⟨[v],[]⟩ [("_law_script",v)])∧∀ base:Heap,K.In base→base.Ns mainGlobals mg→FnOk l.prog w K mg base CX0 8 fa fd ["_law_script"] (ZiU K):=by
 have e:=hfa.symm.trans (PySem.W.mg_of X G A25)
 cases e
 have F0:=Z3 (st:=Zci) L0 C0 k0
 have F1:=Z3 (st:=Zaf) L1 C1 k1
 have F2:=Z3 (st:=ZbK) L2 C2 k2
 have F3:=Z3 (st:=ZbH) L3 C3 k3
 have F4:=Z3 (st:=ZbD) L4 C4 k4
 have F5:=Z3 (st:=Zab) L5 C5 k5
 have F6:=Z3 (st:=Zcx) L6 C6 k6
 have F7:=Z3 (st:=Zbd) L7 C7 k7
 have F8:=Z3 (st:=ZaI) L8 C8 k8
 have F9:=Z3 (st:=Zar) L9 C9 k9
 have F10:=Z3 (st:=Zaj) L10 C10 k10
 have F11:=Z3 (st:=ZaK) L11 C11 k11
 have F12:=Z3 (st:=Zcu) L12 C12 k12
 have F13:=Z3 (st:=Zbm) L13 C13 k13
 have F14:=Z3 (st:=ZbO) L14 C14 k14
 have F15:=Z3 (st:=ZcC) L15 C15 k15
 have F16:=Z3 (st:=Zbj) L16 C16 k16
 have F17:=Z3 (st:=ZcE) L17 C17 k17
 have F18:=Z3 (st:=Zbl) L18 C18 k18
 have F19:=Z3 (st:=ZaG) L19 C19 k19
 have F20:=Z3 (st:=ZaH) L20 C20 k20
 have F21:=Z3 (st:=ZaT) L21 C21 k21
 have F22:=Z3 (st:=Zbb) L22 C22 k22
 have F23:=Z3 (st:=Zbv) L23 C23 k23
 have F24:=Z3 (st:=Zbi) L24 C24 k24
 have F25:=Z3 (st:=Zgz) L25 C25 k25
 have T:Tx K mg ⟨a0,_,a1,_,a2,_,a3,_,a4,_,a5,_,a6,_,a7,_,a8,_,a9,_,a10,_,a11,_,a12,_,a13,_,a14,_,a15,_,a16,_,a17,_,a18,_,a19,_,a20,_,a21,_,a22,_,a23,_,a24,_,fa,_,a_CubeError,a_NoGrain,a_NoLadder,a_NoPick,a_NoRow,a_NoSuch,a_NoText,a_NoValue,a_TooMuch⟩:={
  m0:=PySem.W.mg_of X G A0
  F0:=F0
  b0:=F0.binds fun _ _ _ _ _ _=>us1 fun _ =>rfl
  m1:=PySem.W.mg_of X G A1
  F1:=F1
  b1:=F1.binds fun _ _ _ _ _ _=>us1 fun _ =>rfl
  m2:=PySem.W.mg_of X G A2
  F2:=F2
  b2:=F2.binds fun _ _ _ _ _ _=>us1 fun _ =>rfl
  m3:=PySem.W.mg_of X G A3
  F3:=F3
  b3:=F3.binds fun _ _ _ _ _ _=>us1 fun _ =>rfl
  m4:=PySem.W.mg_of X G A4
  F4:=F4
  b4:=F4.binds fun _ _ _ _ _ _=>us1 fun _ =>rfl
  m5:=PySem.W.mg_of X G A5
  F5:=F5
  b5:=F5.binds fun _ _ _ _ _ _=>us1 fun _ =>rfl
  m6:=PySem.W.mg_of X G A6
  F6:=F6
  b6:=F6.binds fun _ _ _ _ _ _=>us2 fun _ _ =>rfl
  m7:=PySem.W.mg_of X G A7
  F7:=F7
  b7:=F7.binds fun _ _ _ _ _ _=>us1 fun _ =>rfl
  m8:=PySem.W.mg_of X G A8
  F8:=F8
  b8:=F8.binds fun _ _ _ _ _ _=>us1 fun _ =>rfl
  m9:=PySem.W.mg_of X G A9
  F9:=F9
  b9:=F9.binds fun _ _ _ _ _ _=>us1 fun _ =>rfl
  m10:=PySem.W.mg_of X G A10
  F10:=F10
  b10:=F10.binds fun _ _ _ _ _ _=>us1 fun _ =>rfl
  m11:=PySem.W.mg_of X G A11
  F11:=F11
  b11:=F11.binds fun _ _ _ _ _ _=>us1 fun _ =>rfl
  m12:=PySem.W.mg_of X G A12
  F12:=F12
  b12:=F12.binds fun _ _ _ _ _ _=>us1 fun _ =>rfl
  m13:=PySem.W.mg_of X G A13
  F13:=F13
  b13:=F13.binds fun _ _ _ _ _ _=>us2 fun _ _ =>rfl
  m14:=PySem.W.mg_of X G A14
  F14:=F14
  b14:=F14.binds fun _ _ _ _ _ _=>us2 fun _ _ =>rfl
  m15:=PySem.W.mg_of X G A15
  F15:=F15
  b15:=F15.binds fun _ _ _ _ _ _=>us2 fun _ _ =>rfl
  m16:=PySem.W.mg_of X G A16
  F16:=F16
  b16:=F16.binds fun _ _ _ _ _ _=>us1 fun _ =>rfl
  m17:=PySem.W.mg_of X G A17
  F17:=F17
  b17:=F17.binds fun _ _ _ _ _ _=>us2 fun _ _ =>rfl
  m18:=PySem.W.mg_of X G A18
  F18:=F18
  b18:=F18.binds fun _ _ _ _ _ _=>us2 fun _ _ =>rfl
  m19:=PySem.W.mg_of X G A19
  F19:=F19
  b19:=F19.binds fun _ _ _ _ _ _=>us2 fun _ _ =>rfl
  m20:=PySem.W.mg_of X G A20
  F20:=F20
  b20:=F20.binds fun _ _ _ _ _ _=>us2 fun _ _ =>rfl
  m21:=PySem.W.mg_of X G A21
  F21:=F21
  b21:=F21.binds fun _ _ _ _ _ _=>us2 fun _ _ =>rfl
  m22:=PySem.W.mg_of X G A22
  F22:=F22
  b22:=F22.binds fun _ _ _ _ _ _=>us2 fun _ _ =>rfl
  m23:=PySem.W.mg_of X G A23
  F23:=F23
  b23:=F23.binds fun _ _ _ _ _ _=>us4 fun _ _ _ _ =>rfl
  m24:=PySem.W.mg_of X G A24
  F24:=F24
  b24:=F24.binds fun _ _ _ _ _ _=>us4 fun _ _ _ _ =>rfl
  m25:=PySem.W.mg_of X G A25
  F25:=F25
  b25:=F25.binds fun _ _ _ _ _ _=>us1 fun _ =>rfl
  m_CubeError:=PySem.W.mg_of X G A_CubeError
  q_CubeError:=A_CubeError
  m_NoGrain:=PySem.W.mg_of X G A_NoGrain
  q_NoGrain:=A_NoGrain
  m_NoLadder:=PySem.W.mg_of X G A_NoLadder
  q_NoLadder:=A_NoLadder
  m_NoPick:=PySem.W.mg_of X G A_NoPick
  q_NoPick:=A_NoPick
  m_NoRow:=PySem.W.mg_of X G A_NoRow
  q_NoRow:=A_NoRow
  m_NoSuch:=PySem.W.mg_of X G A_NoSuch
  q_NoSuch:=A_NoSuch
  m_NoText:=PySem.W.mg_of X G A_NoText
  q_NoText:=A_NoText
  m_NoValue:=PySem.W.mg_of X G A_NoValue
  q_NoValue:=A_NoValue
  m_TooMuch:=PySem.W.mg_of X G A_TooMuch
  q_TooMuch:=A_TooMuch
  k_NoText:=Zqu L_NoText E_NoText
  f_NoText:=⟨f0_NoText,f1_NoText,f2_NoText,f3_NoText,f4_NoText,f5_NoText,⟨_,f6_NoText⟩⟩
  p_NoText_NoGrain:=ZeB D_NoText_NoGrain Z_NoGrain Y_NoGrain S_NoText_NoGrain
  p_NoText_NoLadder:=ZeB D_NoText_NoLadder Z_NoLadder Y_NoLadder S_NoText_NoLadder
  p_NoText_NoPick:=ZeB D_NoText_NoPick Z_NoPick Y_NoPick S_NoText_NoPick
  p_NoText_NoRow:=ZeB D_NoText_NoRow Z_NoRow Y_NoRow S_NoText_NoRow
  p_NoText_NoSuch:=ZeB D_NoText_NoSuch Z_NoSuch Y_NoSuch S_NoText_NoSuch
  p_NoText_NoText:=Zm0
  p_NoText_NoValue:=ZeB D_NoText_NoValue Z_NoValue Y_NoValue S_NoText_NoValue
  p_NoText_TooMuch:=ZeB D_NoText_TooMuch Z_TooMuch Y_TooMuch S_NoText_TooMuch
  p_NoText_ValueError:=Zqa V_NoText
  x_NoText_CubeError:=Zp1 B_CubeError Z_CubeError Y_CubeError S_NoText_CubeError
  n_ValueError:=PySem.W.mg_none_of X G N_ValueError
  n_abs:=PySem.W.mg_none_of X G N_abs
  n_all:=PySem.W.mg_none_of X G N_all
  n_any:=PySem.W.mg_none_of X G N_any
  n_enumerate:=PySem.W.mg_none_of X G N_enumerate
  n_int:=PySem.W.mg_none_of X G N_int
  n_isinstance:=PySem.W.mg_none_of X G N_isinstance
  n_len:=PySem.W.mg_none_of X G N_len
  n_range:=PySem.W.mg_none_of X G N_range
  n_str:=PySem.W.mg_none_of X G N_str
  n_tuple:=PySem.W.mg_none_of X G N_tuple
  g_FIGURES:=⟨_,PySem.W.mg_of X G G_FIGURES,⟨_,rfl⟩⟩
  g_LETTERS:=⟨_,PySem.W.mg_of X G G_LETTERS,⟨_,rfl⟩⟩
  g_LONGEST_WORD:=⟨_,PySem.W.mg_of X G G_LONGEST_WORD,⟨_,rfl⟩⟩
  g_MOST_FIGURES:=⟨_,PySem.W.mg_of X G G_MOST_FIGURES,⟨_,rfl⟩⟩
  g_MOST_PARTS:=⟨_,PySem.W.mg_of X G G_MOST_PARTS,⟨_,rfl⟩⟩
 }
 exact ⟨_,fun s v=>.of_eq rfl,fun base _ _=>Zow (Zo7 T) ZmN⟩
theorem walk {l:PySem.W.OpenLaw} {q:Program} {loose:List Str} {XP:(Str→Option Value)→Heap→Prop} {YP:World→Heap→Prop} {d:DefRec} {K:Params→PySem.W.Frag} (hn:l.most=some 63) (hdf:d.params.defaults=[])
  (hY:∀ (w:World) (h:Heap),YP w h→(K w.params).In h)
  (F:∀ (w:World) (mg:Str→Option Value) (fa:Addr) (h:Heap),(K w.params).In h→h.Ns mainGlobals mg→mg d.name=some (.ref fa) →
   ∃ fd:FuncData,(∀ (s:Shared) (u:Value),BindsTo s fd ⟨[u],[]⟩ [("_law_script",u)])∧∀ base:Heap,(K w.params).In base→base.Ns mainGlobals mg→FnOk l.prog w (K w.params) mg base CX0 8 fa fd ["_law_script"] (ZiU (K w.params))) :
  PySem.W.WalkO q loose XP YP l.row.toRowW d [] (fun f vs=>PySem.call f vs) :=
 L2.walk_of (n:=63) (k:=8) (x:="_law_script") (CX:=fun _=>CX0) (sp:=fun w=>ZiU (K w.params)) hn (by decide) hdf ⟨rfl,by decide,by decide⟩ hY F (fun _ _ a ns hl _ hS=>⟨a,ns,rfl,hS,hl,fun _=>rfl⟩) fun _ _ _ _ _ z=>z
end K82
namespace PySem.W.Fast
def tw16343348375542788925:=()
def tw13591817506567303948:=()
def tw15605765186487015812:=()
def tw8482362660496494714:=()
def tw3265401182639789382:=()
def tw11027790717101772276:=()
def tw5850886220222293020:=()
def tw14910328869373766982:=()
def tw12557609549434530912:=()
def tw12030510988145968553:=()
def tw6159256681658411520:=()
def tw2412213166594886525:=()
def tw10718593479379535101:=()
def tw5283371208786248725:=()
def tw11870672831404639814:=()
def tw12587616686758777431:=()
def tw5108174844161923456:=()
def tw4670615237068186954:=()
def tw6697073727353127624:=()
def tw16633004283339698409:=()
def tw16782596650717316119:=()
def tw16011528842249010168:=()
def tw351542475281632204:=()
def tw15315186205548953949:=()
def tw10579572288449260563:=()
def tw10896569120245011218:=()
def tw13269572687203633635:=()
def tw9797615589988209221:=()
def tw5704709207195376509:=()
def tw4603327932827077311:=()
def tw16114518588847990152:=()
def tw17327734002785326590:=()
def tw11124793173701669:=()
def tw14361345108073439699:=()
def tw10162223276633588929:=()
def tw9943729621852177767:=()
def tw8362570510581896434:=()
def tw17703799997003674539:=()
def tw12444665130535349273:=()
def tw5333607769918245731:=()
def tw12332516709183571241:=()
def tw1970463313079446845:=()
def tw1891685380926934014:=()
def tw7045760931780551740:=()
def tw10934688753781769051:=()
def tw9368657736624693720:=()
def tw4229401205639509736:=()
def tw16440402996541093591:=()
def tw16035663279113262621:=()
def tw812397308045575701:=()
def tw7395788200502730976:=()
def tw11072380827872343524:=()
def tw9864380975022004034:=()
def tw3102111560991918336:=()
def tw16317096822209155764:=()
def tw8818564255620063606:=()
def tw3963656913258707959:=()
def tw9570438650042885737:=()
def tw9764469576450864803:=()
def tw15893249553000354002:=()
def tw14983279382420245401:=()
def tw13730311976591030485:=()
def tw17203464362349118234:=()
def tw3518252076125569649:=()
def tw4466824704887293642:=()
def tw13442407773245363121:=()
def tw11007438169070394936:=()
end PySem.W.Fast
open PySem PySem.W PyProof.Rows
set_option maxRecDepth 100000 in
set_option maxHeartbeats 0 in
theorem PySem.Challenge.cw_cubebook_k82_no_text_holds : PySem.Challenge.rw_cubebook_k82_no_text.Holds := by
 w_on;o_law;k_head;(case hw=>w_witness2)
 k_fill
 refine K82.walk (l:=PySem.Challenge.rw_cubebook_k82_no_text) rfl rfl (fun w h Y=>PySem.W.kIn_of Y) ?F
 case F =>
  intro w mg fa h KX G hmg
  refine' K82.all_mk KX G hmg ?A0 ?L0 ?C0 ?k0 ?A1 ?L1 ?C1 ?k1 ?A2 ?L2 ?C2 ?k2 ?A3 ?L3 ?C3 ?k3 ?A4 ?L4 ?C4 ?k4 ?A5 ?L5 ?C5 ?k5 ?A6 ?L6 ?C6 ?k6 ?A7 ?L7 ?C7 ?k7 ?A8 ?L8 ?C8 ?k8 ?A9 ?L9 ?C9 ?k9 ?A10 ?L10 ?C10 ?k10 ?A11 ?L11 ?C11 ?k11 ?A12 ?L12 ?C12 ?k12 ?A13 ?L13 ?C13 ?k13 ?A14 ?L14 ?C14 ?k14 ?A15 ?L15 ?C15 ?k15 ?A16 ?L16 ?C16 ?k16 ?A17 ?L17 ?C17 ?k17 ?A18 ?L18 ?C18 ?k18 ?A19 ?L19 ?C19 ?k19 ?A20 ?L20 ?C20 ?k20 ?A21 ?L21 ?C21 ?k21 ?A22 ?L22 ?C22 ?k22 ?A23 ?L23 ?C23 ?k23 ?A24 ?L24 ?C24 ?k24 ?A25 ?L25 ?C25 ?k25 ?N_ValueError ?N_abs ?N_all ?N_any ?N_enumerate ?N_int ?N_isinstance ?N_len ?N_range ?N_str ?N_tuple ?G_FIGURES ?G_LETTERS ?G_LONGEST_WORD ?G_MOST_FIGURES ?G_MOST_PARTS ?A_CubeError ?A_NoGrain ?A_NoLadder ?A_NoPick ?A_NoRow ?A_NoSuch ?A_NoText ?A_NoValue ?A_TooMuch ?Y_CubeError ?Z_CubeError ?Y_NoGrain ?Z_NoGrain ?Y_NoLadder ?Z_NoLadder ?Y_NoPick ?Z_NoPick ?Y_NoRow ?Z_NoRow ?Y_NoSuch ?Z_NoSuch ?Y_NoText ?Z_NoText ?Y_NoValue ?Z_NoValue ?Y_TooMuch ?Z_TooMuch ?B_CubeError ?L_NoText ?E_NoText ?f0_NoText ?f1_NoText ?f2_NoText ?f3_NoText ?f4_NoText ?f5_NoText ?f6_NoText ?S_NoText_CubeError ?S_NoText_NoGrain ?D_NoText_NoGrain ?S_NoText_NoLadder ?D_NoText_NoLadder ?S_NoText_NoPick ?D_NoText_NoPick ?S_NoText_NoRow ?D_NoText_NoRow ?S_NoText_NoSuch ?D_NoText_NoSuch ?S_NoText_NoText ?S_NoText_NoValue ?D_NoText_NoValue ?S_NoText_TooMuch ?D_NoText_TooMuch ?V_NoText
  (case A0=>k_is)
  (case L0=>k_is)
  (case C0=>k_is)
  (case k0=>k_is)
  (case A1=>k_is)
  (case L1=>k_is)
  (case C1=>k_is)
  (case k1=>k_is)
  (case A2=>k_is)
  (case L2=>k_is)
  (case C2=>k_is)
  (case k2=>k_is)
  (case A3=>k_is)
  (case L3=>k_is)
  (case C3=>k_is)
  (case k3=>k_is)
  (case A4=>k_is)
  (case L4=>k_is)
  (case C4=>k_is)
  (case k4=>k_is)
  (case A5=>k_is)
  (case L5=>k_is)
  (case C5=>k_is)
  (case k5=>k_is)
  (case A6=>k_is)
  (case L6=>k_is)
  (case C6=>k_is)
  (case k6=>k_is)
  (case A7=>k_is)
  (case L7=>k_is)
  (case C7=>k_is)
  (case k7=>k_is)
  (case A8=>k_is)
  (case L8=>k_is)
  (case C8=>k_is)
  (case k8=>k_is)
  (case A9=>k_is)
  (case L9=>k_is)
  (case C9=>k_is)
  (case k9=>k_is)
  (case A10=>k_is)
  (case L10=>k_is)
  (case C10=>k_is)
  (case k10=>k_is)
  (case A11=>k_is)
  (case L11=>k_is)
  (case C11=>k_is)
  (case k11=>k_is)
  (case A12=>k_is)
  (case L12=>k_is)
  (case C12=>k_is)
  (case k12=>k_is)
  (case A13=>k_is)
  (case L13=>k_is)
  (case C13=>k_is)
  (case k13=>k_is)
  (case A14=>k_is)
  (case L14=>k_is)
  (case C14=>k_is)
  (case k14=>k_is)
  (case A15=>k_is)
  (case L15=>k_is)
  (case C15=>k_is)
  (case k15=>k_is)
  (case A16=>k_is)
  (case L16=>k_is)
  (case C16=>k_is)
  (case k16=>k_is)
  (case A17=>k_is)
  (case L17=>k_is)
  (case C17=>k_is)
  (case k17=>k_is)
  (case A18=>k_is)
  (case L18=>k_is)
  (case C18=>k_is)
  (case k18=>k_is)
  (case A19=>k_is)
  (case L19=>k_is)
  (case C19=>k_is)
  (case k19=>k_is)
  (case A20=>k_is)
  (case L20=>k_is)
  (case C20=>k_is)
  (case k20=>k_is)
  (case A21=>k_is)
  (case L21=>k_is)
  (case C21=>k_is)
  (case k21=>k_is)
  (case A22=>k_is)
  (case L22=>k_is)
  (case C22=>k_is)
  (case k22=>k_is)
  (case A23=>k_is)
  (case L23=>k_is)
  (case C23=>k_is)
  (case k23=>k_is)
  (case A24=>k_is)
  (case L24=>k_is)
  (case C24=>k_is)
  (case k24=>k_is)
  (case A25=>k_is)
  (case L25=>k_is)
  (case C25=>k_is)
  (case k25=>k_is)
  (case N_ValueError=>k_is)
  (case N_abs=>k_is)
  (case N_all=>k_is)
  (case N_any=>k_is)
  (case N_enumerate=>k_is)
  (case N_int=>k_is)
  (case N_isinstance=>k_is)
  (case N_len=>k_is)
  (case N_range=>k_is)
  (case N_str=>k_is)
  (case N_tuple=>k_is)
  (case G_FIGURES=>k_is)
  (case G_LETTERS=>k_is)
  (case G_LONGEST_WORD=>k_is)
  (case G_MOST_FIGURES=>k_is)
  (case G_MOST_PARTS=>k_is)
  (case A_CubeError=>k_is)
  (case A_NoGrain=>k_is)
  (case A_NoLadder=>k_is)
  (case A_NoPick=>k_is)
  (case A_NoRow=>k_is)
  (case A_NoSuch=>k_is)
  (case A_NoText=>k_is)
  (case A_NoValue=>k_is)
  (case A_TooMuch=>k_is)
  (case Y_CubeError=>k_is)
  (case Z_CubeError=>k_is)
  (case Y_NoGrain=>k_is)
  (case Z_NoGrain=>k_is)
  (case Y_NoLadder=>k_is)
  (case Z_NoLadder=>k_is)
  (case Y_NoPick=>k_is)
  (case Z_NoPick=>k_is)
  (case Y_NoRow=>k_is)
  (case Z_NoRow=>k_is)
  (case Y_NoSuch=>k_is)
  (case Z_NoSuch=>k_is)
  (case Y_NoText=>k_is)
  (case Z_NoText=>k_is)
  (case Y_NoValue=>k_is)
  (case Z_NoValue=>k_is)
  (case Y_TooMuch=>k_is)
  (case Z_TooMuch=>k_is)
  (case B_CubeError=>k_is)
  (case L_NoText=>k_is)
  (case E_NoText=>k_exc)
  (case f0_NoText=>k_is)
  (case f1_NoText=>k_is)
  (case f2_NoText=>k_is)
  (case f3_NoText=>k_is)
  (case f4_NoText=>k_is)
  (case f5_NoText=>k_is)
  (case f6_NoText=>k_is)
  (case S_NoText_CubeError=>k_is)
  (case S_NoText_NoGrain=>k_is)
  (case D_NoText_NoGrain=>rfl)
  (case S_NoText_NoLadder=>k_is)
  (case D_NoText_NoLadder=>rfl)
  (case S_NoText_NoPick=>k_is)
  (case D_NoText_NoPick=>rfl)
  (case S_NoText_NoRow=>k_is)
  (case D_NoText_NoRow=>rfl)
  (case S_NoText_NoSuch=>k_is)
  (case D_NoText_NoSuch=>rfl)
  (case S_NoText_NoText=>k_is)
  (case S_NoText_NoValue=>k_is)
  (case D_NoText_NoValue=>rfl)
  (case S_NoText_TooMuch=>k_is)
  (case D_NoText_TooMuch=>rfl)
  (case V_NoText=>k_is)
#print axioms PySem.Challenge.cw_cubebook_k82_no_text_holds
