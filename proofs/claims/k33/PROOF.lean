import PyProof.Rows.All
import Wide.All
import OpenK.AllK
import Wide.FinOn
import Lean
import PyProof.EqAt
import PyProof.EqKinds
import PyProof.TupleCall
import PyProof.TupleKey
import PyProof.DictRoadsH
import Wide.Seal
import PyProof.NeKinds
import PyProof.ZipIter
import PyProof.EnumMake
import PyProof.Rows.TupTab
import KE.KDictLaws
import PyProof.AutoListH
import PyProof.AttrMissHeap
import KE.KDictOf
import KE.KIntText
import PyProof.StrBlockL
import PyProof.StrLawsChain
import PyProof.FString
import PyProof.Rows.FStr
import OpenK.KOwn
import KE.KIsAll
import KE.KDictList
import PySem.Challenge.RW_cubebook_k33_rolled
open PySem renaming wpAny_bind→Qaa,wpAny_pure→Qae,sizeLine→Qaj,mainGlobals→Qak,starEach→Qas,Spec→Qat,Program→Qav,FuncData→QaH,wpAny_field→QaM,wpAny_setField_rec→QaN,wpAny_callSpecial?_slot→QaU,wpAny_loadPart'→Qa0,wpAny_call_entry→Qa4,wpAny_seqItems→Qa5,wpAny_holding→Qa6,bootBuiltins→Qbe,wpAny_newObj_type→Qbf,wpAny_mono→Qbp,wpAny_truthy_bool→QbD,compareOp→QbG,mem_of_lookup→QbJ,wpAny_onRaise→QbM,NameKind→QbN,assignEach→QbS,intItems→QbU,codeAny_call_builtin→QbX,behindInMarks→QbZ,wpAny_attempt→Qb1,wpAny_typeNameOfWhole_keyiter→Qb2,sysModules→Qb5,wpAny_rule→Qb6,wpAny_letGo→Qb7,wpAny_Call_Name_kw→Qb8,letOwnedTupleGo→Qcc,codeAny_builtin→Qce,binaryOp→Qco,wpAny_typeOf→Qcp,wpAny_typeNameOf_keyiter→Qcu,wpAny_getItem_str_slice→Qcw,tupleKind_room_in1→QcB,wpAny_pyIter_list→QcF,foldedSetIterable→QcG,wpAny_loadPart_at→QcH,wpAny_setField→QcL,checkBuiltinCall→QcW,attributeBase→QcZ,wpAny_passesOwn→Qc1
open PySem.W renaming Frag→Qab,nsIn→Qar,keepIn→QaC,codeIn→QaE,mg_of→QaG,fnOf→QaI,mg_none_of→QaQ,kitOne→Qcn,subIn→Qcz
open PySem.Heap renaming get?_push_of_some→Qac,get?_push_size→Qao,lt_size→Qaq,SameBut→QaX,size_push→Qba,get?_update_other→QbL,get?_update_self→Qcf
open List renaming getElem?_cons_zero→Qad,getElem?_cons_succ→Qaf,mem_cons_of_mem→Qag,map_cons→Qai,size_toArray→Qal,mem_cons_self→Qam,set_cons_zero→Qan,set_cons_succ→Qap,range→Qaw,mem_append_right→Qax,length_map→Qaz,getElem?_eq_getElem→QaF,length_cons→QaK,replicate→QaT,zipWith→QaV,getElem?_map→Qa1,map_nil→Qa3,getElem?_set_ne→Qa7,append_nil→Qa9,length_nil→Qbb,getElem_mem→Qbd,length_append→Qbg,getD→Qbh,getElem?_replicate→Qbj,mem_cons→Qbk,map_append→Qbs,not_mem_nil→Qbt,map_map→Qbw,take_of_length_le→Qbx,zipWith_cons_cons→Qby,getElem?_append_left→QbA,length_replicate→QbB,append_assoc→QbE,filterMap_cons→QbI,getElem?_set_self→QbK,mem_append_left→QbR,foldl_cons→QbV,nodup_cons→QbW,ext_getElem?→QbY,length_drop→Qb4,zip_cons_cons→Qca,forIn_cons→Qcd,getElem?_append_right→Qch,drop_eq_getElem_cons→Qcl,range'→Qcm,all_eq_true→Qct,nil_append→QcC,drop_eq_nil_of_le→QcD,getElem?_eq_none→QcK,forIn_nil→QcO,mem_of_getElem?→QcR,lookup_cons→QcU,getElem?_append→QcV,range'_succ→QcX,range_eq_range'→QcY,all_cons→Qc0,getElem?_drop→Qc6
open Option renaming bind→Qah,map→QaA,map_some→QbH,getD_some→QcT
open Nat renaming le_refl→Qau,lt_of_lt_of_le→Qay,ne_of_lt→QaL,le_trans→QaP,lt_irrefl→Qbu,ne_of_gt→Qbv,lt_trans→Qb9,le_of_lt→QcI,lt_or_ge→QcN,le_of_not_lt→QcS,lt_of_le_of_lt→Qc5
open PySem.Builtin.SmallTypes renaming nextOf→QaB,ownedTupleIsFree→QaO,ownedTupleHandOut→Qa8
open Ne renaming symm→QaD
open False renaming elim→QaJ
open PySem.Value renaming ref→QaR,none→Qbl
open Bool renaming false_eq_true→QaS,and_eq_true→QaW,false_ne_true→QbC,and_self→Qci,not_eq_true→Qcr,not_true→Qcy
open PySem.Str renaming ofString→QaY
open PySem.W.KasT renaming kasWp→QaZ,kasWp_bind→Qc3
open PySem.Txt renaming slice→Qa2
open PySem.NameKind renaming free→Qbc,cell→Qb0
open PyProof.Rows renaming callWith_type1→Qbi,slot_tuple_getitem→QbQ
open PySem.PassesOwn renaming never→Qbm
open Array renaming getElem?_eq_getElem→Qbn,length_toList→Qbo,getElem?_toList→QcJ,getD_eq_getD_getElem?→QcP
open PySem.F renaming slot_zip_next→Qbq,slot_dict_keyiterator_next→QbF,slot_tuple_iterator_next→QbO,slot_enumerate_next→Qcb,args_zip_next_1→Qcx,entry_zip_next→QcE,typeOf_object_class→QcQ,args_tuple_add_2→Qc7,args_dict_keyiterator_next_1→Qc9,entry_dict_keyiterator_next→Qdb,entry_tuple_add→Qdd,args_tuple_iterator_next_1→Qde,entry_tuple_iterator_next→Qdf
open Option.some renaming inj→Qbr
open Int renaming toNat_natCast→Qbz,emod_nonneg→Qc4,emod_lt_of_pos→Qda
open PySem.Obj renaming data_mapFields→QbP,mapSeq→Qck,isFreed_of_fields→QcM
open PySem.Around renaming under_plainId→QbT
open ToString renaming toString→Qb3
open PySem.Paired renaming length→Qcg
open PySem.Builtin.Slice renaming slicePlaces→Qcj,sliceAdjust→Qc2
open PySem.Builtin.Tuple renaming tupleExact→Qcq
open PySem.AutoSeq1 renaming wpAny_loadPart'→Qcs
open PySem.Heap.SameBut renaming update→Qcv
open PySem.Data renaming cell→QcA
open List.Perm renaming eq_of_pairwise→Qc8
open Classical renaming propDecidable→Qdc
set_option Elab.async false
set_option linter.all false
set_option maxHeartbeats 4000000
set_option maxRecDepth 100000
namespace L2
open PySem PySem.Spec PyProof.Rows
abbrev Key:=Sum Int Str
def ZqC:Key->Value->Bool
 | .inl k,v=>Value.isInt k v
 | .inr x,v=>Value.isStrOf x v
def Zu5 (w:World):Key->Int
 | .inl k=>hashInt k
 | .inr x=>hashStr w x
theorem ZaE:∀ {k:Key} {v:Value},ZqC k v=true->(∃ i t,k=Sum.inl i/\v=Value.int i t)\/(∃ x t,k=Sum.inr x/\v=Value.str x t)
 | .inl i,v,h=>by
  obtain ⟨t,e⟩:=Value.isInt_shape (k:=i) (v:=v) h
  exact .inl ⟨i,t,rfl,e⟩
 | .inr x,v,h=>by
  obtain ⟨t,e⟩:=Value.isStrOf_shape (x:=x) (v:=v) h
  exact .inr ⟨x,t,rfl,e⟩
theorem ZsY (a b:Int):decide ((Sum.inl a:Key)=Sum.inl b)=(a==b):=by
 by_cases e:a=b
 ·subst e;simp
 ·have h:¬ (Sum.inl a:Key)=Sum.inl b:=fun q=>e (Sum.inl.inj q)
  rw [decide_eq_false h]
  exact (beq_eq_false_iff_ne.mpr e).symm
theorem ZsF (a b:Str):decide ((Sum.inr a:Key)=Sum.inr b)=decide (a=b):=by
 by_cases e:a=b
 ·subst e;simp
 ·have h:¬ (Sum.inr a:Key)=Sum.inr b:=fun q=>e (Sum.inr.inj q)
  rw [decide_eq_false h,decide_eq_false e]
theorem Zss (a:Int) (b:Str):decide ((Sum.inl a:Key)=Sum.inr b)=false:=decide_eq_false (fun q=>nomatch q)
theorem ZtG (a:Str) (b:Int):decide ((Sum.inr a:Key)=Sum.inl b)=false:=decide_eq_false (fun q=>nomatch q)
def Zid (prog:Qav) (w:World):PySem.KeyKind prog w Key where
 is:=ZqC
 hash:=Zu5 w
 inj:=fun v a b ha hb=>by
  rcases ZaE ha with ⟨i,t,rfl,rfl⟩ | ⟨x,t,rfl,rfl⟩
  ·rcases ZaE hb with ⟨j,u,rfl,e⟩ | ⟨y,u,rfl,e⟩
   ·injection e with e1 _;rw [e1]
   ·exact nomatch e
  ·rcases ZaE hb with ⟨j,u,rfl,e⟩ | ⟨y,u,rfl,e⟩
   ·exact nomatch e
   ·injection e with e1 _;rw [e1]
 byValue:=fun k v h=>by
  rcases ZaE h with ⟨i,t,rfl,rfl⟩ | ⟨x,t,rfl,rfl⟩<;>rfl
 pyHash:=fun hv h=>by
  rcases ZaE hv with ⟨i,t,rfl,rfl⟩ | ⟨x,t,rfl,rfl⟩
  ·exact wpAny_pyHash_int h
  ·exact wpAny_pyHash_str h
 eqBool:=fun hu hv h=>by
  rcases ZaE hu with ⟨i,t,rfl,rfl⟩ | ⟨x,t,rfl,rfl⟩
  ·rcases ZaE hv with ⟨j,u,rfl,rfl⟩ | ⟨y,u,rfl,rfl⟩
   ·rw [ZsY] at h;exact wpAny_eqBool_int h
   ·rw [Zss] at h;exact SeqAt.EqAt.int_str i t y u _ _ _ _ h
  ·rcases ZaE hv with ⟨j,u,rfl,rfl⟩ | ⟨y,u,rfl,rfl⟩
   ·rw [ZtG] at h;exact SeqAt.EqAt.str_int x t j u _ _ _ _ h
   ·rw [ZsF] at h;exact wpAny_eqBool_str h
 «strs»:=fun k x t v h=>by
  rcases ZaE h with ⟨i,u,rfl,e⟩ | ⟨y,u,rfl,e⟩
  ·exact nomatch e
  ·injection e with e1 _
   subst e1
   cases v<;>rfl
end L2
namespace L2
open PySem PySem.Spec PyProof.Rows
inductive V where
 | non | bl (b:Bool) | int (i:Int) | str (x:Str) | byt (b:Array UInt8) | flt (b:UInt64) | ref (a:Addr) | ty (n:String)
 deriving DecidableEq
def RelV:V->Value->Prop
 | .non,u=>u=Qbl
 | .bl b,u=>u=Value.bool b
 | .int i,u=>∃ t,u=Value.int i t
 | .str x,u=>∃ t,u=Value.str x t
 | .byt b,u=>∃ t,u=Value.bytes b t
 | .flt b,u=>∃ t,u=Value.float b t
 | .ref a,u=>u=QaR a
 | .ty n,u=>u=Value.type n
abbrev Vals:List V->List Value->Prop:=Paired RelV
theorem Vals.length {xs:List V} {us:List Value} (r:Vals xs us):xs.length=us.length:=Qcg r
theorem Vals.get:∀ {xs:List V} {us:List Value} {i:Nat} {x:V},Vals xs us->xs[i]?=some x->∃ u,us[i]?=some u/\RelV x u
 | _,_,_,_,.nil,e=>by simp at e
 | _,_,0,_,.cons r _,e=>by simp at e;subst e;exact ⟨_,rfl,r⟩
 | _,_,i+1,x,.cons _ t,e=>by
  obtain ⟨u,h1,h2⟩:=Vals.get (i:=i) (x:=x) t (by simpa using e)
  exact ⟨u,by simpa using h1,h2⟩
theorem Vals.set {x:V} {u:Value} (r:RelV x u):∀ {xs:List V} {us:List Value} (i:Nat),Vals xs us->Vals (xs.set i x) (us.set i u)
 | _,_,_,.nil=>.nil
 | _,_,0,.cons _ t=>.cons r t
 | _,_,i+1,.cons q t=>.cons q (Vals.set r i t)
theorem Vals.append:∀ {xs ys:List V} {us ws:List Value},Vals xs us->Vals ys ws->Vals (xs++ys) (us++ws)
 | _,_,_,_,.nil,s=>s
 | _,_,_,_,.cons r t,s=>.cons r (Vals.append t s)
theorem Vals.take:∀ {xs:List V} {us:List Value} (n:Nat),Vals xs us->Vals (xs.take n) (us.take n)
 | _,_,0,_=>.nil
 | _,_,_+1,.nil=>.nil
 | _,_,n+1,.cons r t=>.cons r (Vals.take n t)
theorem Vals.drop:∀ {xs:List V} {us:List Value} (n:Nat),Vals xs us->Vals (xs.drop n) (us.drop n)
 | _,_,0,r=>r
 | _,_,_+1,.nil=>.nil
 | _,_,n+1,.cons _ t=>Vals.drop n t
def RelO:Option V->Option Value->Prop
 | some v,some u=>RelV v u
 | none,none=>True
 | _,_=>False
def KV {κ:Type}:List (κ×V)->List (κ×Value)->Prop:=Paired fun (p:κ×V) (q:κ×Value)=>p.1=q.1/\RelV p.2 q.2
def kV:Key->V
 | .inl i=>.int i
 | .inr x=>.str x
inductive At where
 | non | int (i:Int) | str (x:Str)
 deriving DecidableEq
def Zgn:At->Value->Bool
 | .non,.none=>true
 | .int k,v=>Value.isInt k v
 | .str x,v=>Value.isStrOf x v
 | _,_=>false
def atH (w:World):At->Int
 | .non=>reduceHash 4238894112
 | .int k=>hashInt k
 | .str x=>hashStr w x
theorem Zbg:∀ {k:At} {v:Value},Zgn k v=true->(k=.non/\v=.none)\/(∃ i t,k=.int i/\v=Value.int i t)\/(∃ x t,k=.str x/\v=Value.str x t)
 | .non,v,h=>by cases v<;>first | exact .inl ⟨rfl,rfl⟩ | exact absurd h QbC
 | .int i,v,h=>by obtain ⟨t,e⟩:=Value.isInt_shape (k:=i) (v:=v) h;exact .inr (.inl ⟨i,t,rfl,e⟩)
 | .str x,v,h=>by obtain ⟨t,e⟩:=Value.isStrOf_shape (x:=x) (v:=v) h;exact .inr (.inr ⟨x,t,rfl,e⟩)
theorem ZpN (i:Int) (t:Tok):Zgn (.int i) (.int i t)=true:=by simp [Zgn,Value.isInt]
theorem ZpC (x:Str) (t:Tok):Zgn (.str x) (.str x t)=true:=by simp [Zgn,Value.isStrOf]
theorem Zod {prog:Qav} {w:World} {A:Around} {E:Value->Shared->Prop} {s:Shared} {Q:Int->Shared->Prop} (h:Q (reduceHash 4238894112) { s with toks:=s.toks+1 }) :
  wpAny (model prog w) A (PySem.pyHash .none) Q E s :=
 PySem.W.pyHash_slot (T:="NoneType") rfl F.slot_NoneType_hash F.entry_NoneType_hash (F.args_NoneType_hash_1 _) (beq_builtin_none _) (.inl rfl) (Qaa (Qae (Qaa (wpAny_mkInt (Qae ⟨_,_,rfl,h⟩)))))
theorem ZnM (a b:Int):decide ((At.int a)=.int b)=(a==b):=by
 by_cases e:a=b
 ·subst e;simp
 ·rw [decide_eq_false (fun q=>e (by injection q))];exact (beq_eq_false_iff_ne.mpr e).symm
theorem Zob (a b:Str):decide ((At.str a)=.str b)=decide (a=b):=by
 by_cases e:a=b
 ·subst e;simp
 ·rw [decide_eq_false (fun q=>e (by injection q)),decide_eq_false e]
def ZY (prog:Qav) (w:World):PySem.KeyKind prog w At where
 is:=Zgn
 hash:=atH w
 inj:=fun v a b ha hb=>by
  rcases Zbg ha with ⟨rfl,rfl⟩ | ⟨i,t,rfl,rfl⟩ | ⟨x,t,rfl,rfl⟩<;>rcases Zbg hb with ⟨rfl,e⟩ | ⟨j,u,rfl,e⟩ | ⟨y,u,rfl,e⟩ <;>
   first | rfl | (cases e;done) | (cases e;rfl)
 byValue:=fun k v h=>by
  rcases Zbg h with ⟨rfl,rfl⟩ | ⟨i,t,rfl,rfl⟩ | ⟨x,t,rfl,rfl⟩<;>rfl
 pyHash:=fun hv h=>by
  rcases Zbg hv with ⟨rfl,rfl⟩ | ⟨i,t,rfl,rfl⟩ | ⟨x,t,rfl,rfl⟩
  ·exact Zod h
  ·exact wpAny_pyHash_int h
  ·exact wpAny_pyHash_str h
 eqBool:=fun hu hv h=>by
  rcases Zbg hu with ⟨rfl,rfl⟩ | ⟨i,t,rfl,rfl⟩ | ⟨x,t,rfl,rfl⟩<;>rcases Zbg hv with ⟨rfl,rfl⟩ | ⟨j,u,rfl,rfl⟩ | ⟨y,u,rfl,rfl⟩
  ·exact SeqAt.EqAt.same Qbl _ _ _ _ h
  ·exact SeqAt.EqAt.none_int j u _ _ _ _ h
  ·exact SeqAt.EqAt.none_str y u _ _ _ _ h
  ·exact SeqAt.EqAt.int_none i t _ _ _ _ h
  ·rw [ZnM] at h;exact wpAny_eqBool_int h
  ·exact SeqAt.EqAt.int_str i t y u _ _ _ _ h
  ·exact SeqAt.EqAt.str_none x t _ _ _ _ h
  ·exact SeqAt.EqAt.str_int x t j u _ _ _ _ h
  ·rw [Zob] at h;exact wpAny_eqBool_str h
 «strs»:=fun k x t v h=>by
  rcases Zbg h with ⟨rfl,e⟩ | ⟨i,u,rfl,e⟩ | ⟨y,u,rfl,e⟩
  ·exact nomatch e
  ·exact nomatch e
  ·injection e with e1 _
   subst e1
   cases v<;>rfl
inductive KT where
 | at (a:At) | tup (l:List At)
 deriving DecidableEq
def KT.hash (w:World):KT->Int
 | .at a=>atH w a
 | .tup l=>reduceHash (Builtin.Tuple.tupleHashOf (l.map (atH w)))
def atV:At->V
 | .non=>.non
 | .int i=>.int i
 | .str x=>.str x
def ktV:KT->V->Prop
 | .at a,v=>v=atV a
 | .tup _,v=>∃ p,v=.ref p
def ZfL (w:World):List KT->List V->List DictEntry->Prop
 | [],vs,es=>vs=[]/\es=[]
 | k::ks,vs,es=>∃ kv v r e t,vs=kv::v::r/\es=e::t/\RelV kv e.key/\RelV v e.val/\e.hash=k.hash w/\ktV k kv/\ZfL w ks r t
inductive HO where
 | lst (xs:List V)
 | tup (xs:List V)
 | dK (kvs:List (Key×V)) | dT (kvs:List (List Key×V))
 | dct (ks:List KT) (vs:List V)
 | set (S:Int->Bool) (n:Nat)
 | ins (C dx:Addr) (fs:List (Str×V))
 | own (x:Addr)
 | xd (fs:List (Str×V))
 | met (f x:Addr)
 | rng (lo hi:Int)
 | frz (o:Obj) (u:HO)
 | tbl (ps:Array Value)
 | ext (φ:Heap->Prop)
abbrev Hp:=Addr->Option HO
def upd (H:Hp) (a:Addr) (o:HO):Hp:=fun b=>if b=a then some o else H b
theorem Zad {H:Hp} {a:Addr} {o:HO}:upd H a o a=some o:=by unfold upd;rw [if_pos rfl]
theorem Zt {H:Hp} {a b:Addr} {o:HO} (h:b≠a):upd H a o b=H b:=by unfold upd;rw [if_neg h]
theorem ZqX {H:Hp} {a:Addr} {o u:HO}:upd (upd H a o) a u=upd H a u:=by
 funext b;unfold upd;split<;>rfl
theorem Z1 {H:Hp} {a b:Addr} {o:HO} (h:H a=some o) (h':H b=none):a≠b:=by
 intro e;subst e;rw [h] at h';cases h'
section
variable (P:Qav) (w:World)
def ObjOk (H:Hp) (h:Heap) (a:Addr):HO->Prop
 | .lst xs=>xs.length<=Qaj/\∃ (its:List Value) (n:Nat),Vals xs its/\h.get? a=some { cls:=.type "list",data:=.seq its.toArray n }
 | .tup xs=>xs.length<=Qaj/\∃ its:List Value,Vals xs its/\IsTup h a its.toArray
 | .dK kvs=>kvs.length<=Qaj/\(a==Qb5)=false/\∃ vs,KV kvs vs/\h.DictOf (Zid P w) a vs
 | .dT kvs=>kvs.length<=Qaj/\(a==Qb5)=false/\∃ xs:List (List Key×Addr×Value),
   Paired (fun (p:List Key×V) (q:List Key×Addr×Value)=>p.1=q.1/\H q.2.1=some (.tup (p.1.map kV))/\RelV p.2 q.2.2) kvs xs /\
   ∃ o es ep,h.get? a=some o/\o.ExactDict/\o.data=.dict es ep/\es.toList=xs.map (entryOfKey (tupleKind (Zid P w)))/\(xs.map (·.1)).Nodup
 | .dct ks vs=>ks.length<=Qaj/\(a==Qb5)=false/\ks.Nodup/\∃ o es ep,h.get? a=some o/\o.ExactDict/\o.data=.dict es ep/\ZfL w ks vs es.toList
 | .set S n=>h.SetOf (intKind P w) a S n
 | .ins C dx fs=>H dx=some (.own a)/\fs.length<=1000/\dx≠a/\h.get? a=some (PySem.W.instObj C dx) /\
   ∃ mA,h.Ns1 dx mA/\(∀ f,RelO (fs.lookup f) (mA f))/\PySem.Within mA (fs.map (·.1))
 | .own _=>∃ o,h.get? a=some o
 | .xd fs=>∃ mA,h.Ns1 a mA/\∀ f,RelO (fs.lookup f) (mA f)
 | .rng lo hi=>∃ t u v,h.get? a=some { cls:=.type "range",data:=.fields #[.int lo t,.int hi u,.int 1 v] }
 | .frz o u=>h.get? a=some o/\ObjOk H h a u
 | .tbl ps=>h.get? a=some { cls:=.none,data:=.fields ps }
 | .met f x=>h.get? a=some (PySem.W.methodObj (.ref f) (.ref x))
 | .ext φ=>φ h/\(∃ o,h.get? a=some o)/\∀ h1 h2:Heap,φ h1->(∀ o,h1.get? a=some o->h2.get? a=some o)->φ h2
def HOk (H:Hp) (h:Heap):Prop:=∀ a o,H a=some o->ObjOk P w H h a o
end
section
variable {P:Qav} {w:World} {H H':Hp} {h h':Heap} {a:Addr} {o:HO}
theorem ObjOk.lt (x:ObjOk P w H h a o):a<h.objs.size:=by
 cases o with
 | lst xs=>obtain ⟨_,_,_,_,e⟩:=x;exact Qaq e
 | tup xs=>obtain ⟨_,_,_,p⟩:=x;exact p.lt
 | dK kvs=>obtain ⟨_,_,_,_,o,_,_,e,_⟩:=x;exact Qaq e
 | dT kvs=>obtain ⟨_,_,_,_,o,_,_,e,_⟩:=x;exact Qaq e
 | dct ks vs=>obtain ⟨_,_,_,o,_,_,e,_⟩:=x;exact Qaq e
 | set S n=>obtain ⟨o,_,_,_,e,_⟩:=x;exact Qaq e
 | ins C dx fs=>obtain ⟨_,_,_,e,_⟩:=x;exact Qaq e
 | own y=>obtain ⟨_,e⟩:=x;exact Qaq e
 | xd fs=>obtain ⟨_,⟨_,_,_,e,_⟩,_⟩:=x;exact Qaq e
 | rng lo hi=>obtain ⟨_,_,_,e⟩:=x;exact Qaq e
 | frz ob u=>obtain ⟨e,_⟩:=x;exact Qaq e
 | tbl ps=>exact Qaq (show h.get? a=some _ from x)
 | met f y=>exact Qaq (show h.get? a=some _ from x)
 | ext φ=>obtain ⟨_,⟨_,e⟩,_⟩:=x;exact Qaq e
theorem Paired.mapP {α β:Type} {F G:α->β->Prop}:∀ {l₁:List α} {l₂:List β},Paired F l₁ l₂->(∀ a b,F a b->G a b)->Paired G l₁ l₂
 | _,_,.nil,_=>.nil
 | _,_,.cons r t,f=>.cons (f _ _ r) (Paired.mapP t f)
theorem ObjOk.stay (x:ObjOk P w H h a o) (k:∀ b u,(b=a\/H b=some (.own a))->h.get? b=some u->h'.get? b=some u)
  (ho:∀ b,H b=some (.own a)->H' b=some (.own a)) (ht:∀ b xs,H b=some (.tup xs)->H' b=some (.tup xs)):ObjOk P w H' h' a o:=by
 induction o with
 | lst xs=>obtain ⟨z,its,n,r,e⟩:=x;exact ⟨z,its,n,r,k _ _ (.inl rfl) e⟩
 | tup xs=>obtain ⟨z,its,r,ob,e,c⟩:=x;exact ⟨z,its,r,ob,k _ _ (.inl rfl) e,c⟩
 | dK kvs=>obtain ⟨z,y,vs,r,ob,es,ep,e,c⟩:=x;exact ⟨z,y,vs,r,ob,es,ep,k _ _ (.inl rfl) e,c⟩
 | dT kvs =>
  obtain ⟨z,y,xs,r,ob,es,ep,e,c⟩:=x
  exact ⟨z,y,xs,Paired.mapP r fun p q z=>⟨z.1,ht _ _ z.2.1,z.2.2⟩,ob,es,ep,k _ _ (.inl rfl) e,c⟩
 | dct ks vs=>obtain ⟨z,y,n,ob,es,ep,e,c⟩:=x;exact ⟨z,y,n,ob,es,ep,k _ _ (.inl rfl) e,c⟩
 | set S n=>obtain ⟨ob,es,ep,t,e,c⟩:=x;exact ⟨ob,es,ep,t,k _ _ (.inl rfl) e,c⟩
 | ins C dx fs =>
  obtain ⟨d,z,ne,e,mA,⟨od,es,ep,e2,c⟩,r⟩:=x
  exact ⟨ho _ d,z,ne,k _ _ (.inl rfl) e,mA,⟨od,es,ep,k _ _ (.inr d) e2,c⟩,r⟩
 | own y=>obtain ⟨ob,e⟩:=x;exact ⟨ob,k _ _ (.inl rfl) e⟩
 | xd fs=>obtain ⟨mA,⟨od,es,ep,e,c⟩,r⟩:=x;exact ⟨mA,⟨od,es,ep,k _ _ (.inl rfl) e,c⟩,r⟩
 | rng lo hi=>obtain ⟨t,u,v,e⟩:=x;exact ⟨t,u,v,k _ _ (.inl rfl) e⟩
 | frz ob u ih=>obtain ⟨e,q⟩:=x;exact ⟨k _ _ (.inl rfl) e,ih q⟩
 | tbl ps =>
  have e:h.get? a=some { cls:=.none,data:=.fields ps }:=x
  show h'.get? a=some { cls:=.none,data:=.fields ps }
  exact k a _ (.inl rfl) e
 | met f y =>
  have e:h.get? a=some (PySem.W.methodObj (.ref f) (.ref y)):=x
  show h'.get? a=some (PySem.W.methodObj (.ref f) (.ref y))
  exact k a _ (.inl rfl) e
 | ext φ=>obtain ⟨p,⟨o,e⟩,st⟩:=x;exact ⟨st _ _ p fun o q=>k _ _ (.inl rfl) q,⟨o,k _ _ (.inl rfl) e⟩,st⟩
theorem HOk.lt (x:HOk P w H h) (e:H a=some o):a<h.objs.size:=(x a o e).lt
theorem HOk.fresh (x:HOk P w H h) (e:h.objs.size<=a):H a=none:=by
 cases q:H a with
 | none=>rfl
 | some u=>exact absurd (Qay (x.lt q) e) (Qbu _)
theorem HOk.kept (x:HOk P w H h) (k:∀ b u,h.get? b=some u->h'.get? b=some u):HOk P w H h':=fun a o e =>
 (x a o e).stay (fun b u _ q=>k b u q) (fun _ q=>q) fun _ _ q=>q
theorem HOk.laid (x:HOk P w H h) (k:∀ b u,h.get? b=some u->h'.get? b=some u) (hp:h.objs.size<=a) (new:ObjOk P w (upd H a o) h' a o):HOk P w (upd H a o) h':=fun b u e=>by
 have hn:=x.fresh hp
 by_cases hb:b=a
 ·subst hb;rw [Zad] at e;cases e;exact new
 ·rw [Zt hb] at e
  exact (x b u e).stay (fun c v _ q=>k c v q) (fun c q=>by rw [Zt (Z1 q hn)];exact q) fun c xs q=>by rw [Zt (Z1 q hn)];exact q
end
def Rd (H:Hp) (a:Addr) (u:HO):Prop:=H a=some u\/∃ o,H a=some (.frz o u)
theorem Rd.of {H:Hp} {a:Addr} {u:HO} (h:H a=some u):Rd H a u:=.inl h
theorem Rd.ok {P:Qav} {w:World} {H:Hp} {h:Heap} {a:Addr} {u:HO} (r:Rd H a u) (x:HOk P w H h):ObjOk P w H h a u:=by
 rcases r with r | ⟨o,r⟩
 ·exact x a u r
 ·obtain ⟨_,q⟩:=x a _ r
  exact q
def Mut:Option HO->Prop
 | some (.lst _)=>True
 | some (.dK _)=>True
 | some (.dT _)=>True
 | some (.dct _ _)=>True
 | some (.set _ _)=>True
 | some (.ins _ _ _)=>True
 | some (.ext _)=>True
 | _=>False
section
variable {P:Qav} {w:World} {H:Hp} {h h':Heap} {x e:Addr} {o':HO}
theorem HOk.write (ok:HOk P w H h) (mu:Mut (H x)) (he:e=x\/H e=some (.own x)) (k:∀ b u,b≠e->h.get? b=some u->h'.get? b=some u) (heo:∃ u,h'.get? e=some u)
  (new:ObjOk P w (upd H x o') h' x o'):HOk P w (upd H x o') h':=fun b u q=>by
 have nown:∀ c y,H c=some (.own y)->c≠x:=fun c y r z=>by subst z;rw [r] at mu;exact mu
 have ntup:∀ c xs,H c=some (.tup xs)->c≠x:=fun c xs r z=>by subst z;rw [r] at mu;exact mu
 by_cases hb:b=x
 ·subst hb;rw [Zad] at q;cases q;exact new
 ·rw [Zt hb] at q
  by_cases hbe:b=e
  ·have q':H b=some (.own x):=by
    rcases he with z | z
    ·exact absurd (hbe.trans z) hb
    ·rw [hbe];exact z
   rw [q] at q';cases q'
   obtain ⟨v,hv⟩:=heo
   exact ⟨v,by rw [hbe];exact hv⟩
  ·refine (ok b u q).stay (fun c v hc r=>k c v ?_ r) (fun c r=>by rw [Zt (nown c b r)];exact r) fun c xs r=>by rw [Zt (ntup c xs r)];exact r
   rcases hc with rfl | hc
   ·exact hbe
   ·rintro rfl
    rcases he with z | z
    ·exact nown c b hc z
    ·rw [hc] at z;cases z;exact hb rfl
end
structure Un (fs ex:List Addr) (H H':Hp) (h h':Heap):Prop where
 keep:∀ b o,h.get? b=some o->H b=none->b∉fs->b∉ex->h'.get? b=some o
 slot:∀ b o,h.get? b=some o->H b=none->b∈fs->b∉ex->∃ sl,h'.get? b=some { o with slots:=sl }
 free:∀ b o,h.get? b=some o->H b=none->b∉ex->H' b=none
 there:∀ b o,h.get? b=some o->b∉ex->∃ o',h'.get? b=some o'
 tups:∀ b xs,H b=some (.tup xs)->H' b=some (.tup xs)
 frzs:∀ b o u,H b=some (.frz o u)->H' b=some (.frz o u)
 tbls:∀ b ps,H b=some (.tbl ps)->∃ more,H' b=some (.tbl (ps++more))
section
variable {fs fs' ex ex':List Addr} {H H1 H2:Hp} {h h1 h2 h':Heap} {a x e:Addr} {o:HO}
theorem Un.any (u:Un fs ex H H1 h h1) {b:Addr} {ob:Obj} (q:h.get? b=some ob) (n:H b=none) (hx:b∉ex):∃ sl,h1.get? b=some { ob with slots:=sl }:=by
 by_cases hb:b∈fs
 ·exact u.slot b ob q n hb hx
 ·exact ⟨ob.slots,u.keep b ob q n hb hx⟩
theorem Un.trans (a:Un fs ex H H1 h h1) (b:Un fs ex H1 H2 h1 h2):Un fs ex H H2 h h2 where
 keep:=fun c ob q n hc hx=>b.keep c ob (a.keep c ob q n hc hx) (a.free c ob q n hx) hc hx
 slot:=fun c ob q n hc hx=>by
  obtain ⟨sl,e1⟩:=a.slot c ob q n hc hx
  obtain ⟨sl',e2⟩:=b.slot c _ e1 (a.free c ob q n hx) hc hx
  exact ⟨sl',e2⟩
 free:=fun c ob q n hx=>by
  obtain ⟨o',e1⟩:=a.there c ob q hx
  exact b.free c o' e1 (a.free c ob q n hx) hx
 there:=fun c ob q hx=>by
  obtain ⟨o',e1⟩:=a.there c ob q hx
  exact b.there c o' e1 hx
 tups:=fun c xs q=>b.tups c xs (a.tups c xs q)
 frzs:=fun c ob xs q=>b.frzs c ob xs (a.frzs c ob xs q)
 tbls:=fun c ps q=>by
  obtain ⟨m1,e1⟩:=a.tbls c ps q
  obtain ⟨m2,e2⟩:=b.tbls c _ e1
  exact ⟨m1++m2,by rw [e2,Array.append_assoc]⟩
theorem Un.kept (k:∀ b u,h.get? b=some u->h'.get? b=some u):Un fs ex H H h h' :=
 ⟨fun b ob q _ _ _=>k b ob q,fun b ob q _ _ _=>⟨ob.slots,k b ob q⟩,fun _ _ _ n _=>n,fun b ob q _=>⟨ob,k b ob q⟩,fun _ _ q=>q,fun _ _ _ q=>q,fun _ ps q=>⟨#[],by rw [q];simp⟩⟩
theorem Un.refl:Un fs ex H H h h:=Un.kept fun _ _ q=>q
theorem Un.laid (k:∀ b u,h.get? b=some u->h'.get? b=some u) (hp:h.objs.size<=a) (hn:H a=none):Un fs ex H (upd H a o) h h' where
 keep:=fun b u q _ _ _=>k b u q
 slot:=fun b u q _ _ _=>⟨u.slots,k b u q⟩
 free:=fun b u q n _=>by rw [Zt (QaL (Qay (Qaq q) hp))];exact n
 there:=fun b u q _=>⟨u,k b u q⟩
 tups:=fun b xs q=>by rw [Zt (Z1 q hn)];exact q
 frzs:=fun b u xs q=>by rw [Zt (Z1 q hn)];exact q
 tbls:=fun b ps q=>⟨#[],by rw [Zt (Z1 q hn),q];simp⟩
theorem Un.write (mu:Mut (H x)) (he:e=x\/H e=some (.own x)) (k:∀ b u,b≠e->h.get? b=some u->h'.get? b=some u) (heo:∃ u,h'.get? e=some u):Un fs ex H (upd H x o) h h':=by
 have hx:∀ b,H b=none->b≠x:=fun b n z=>by subst z;rw [n] at mu;exact mu
 have hb:∀ b,H b=none->b≠e:=fun b n z=>by
  subst z
  rcases he with r | r
  ·exact hx b n r
  ·rw [n] at r;cases r
 have hm:∀ b u,H b=some u->¬ Mut (some u)->b≠x:=fun b u q nm z=>by subst z;rw [q] at mu;exact nm mu
 refine ⟨fun b u q n _ _=>k b u (hb b n) q,fun b u q n _ _=>⟨u.slots,k b u (hb b n) q⟩,fun b u q n _=>by rw [Zt (hx b n)];exact n,fun b u q _=>?_,
  fun b xs q=>by rw [Zt (hm b _ q fun z=>z)];exact q,fun b u xs q=>by rw [Zt (hm b _ q fun z=>z)];exact q,fun b ps q=>⟨#[],by rw [Zt (hm b _ q fun z=>z),q];simp⟩⟩
 by_cases hbe:b=e
 ·subst hbe;exact heo
 ·exact ⟨u,k b u hbe q⟩
theorem Un.mono (u:Un fs ex H H1 h h1) (hs:∀ b∈fs,b∈fs') (hx:∀ b∈ex,b∈ex'):Un fs' ex' H H1 h h1 :=
 ⟨fun b ob q n hb he=>u.keep b ob q n (fun z=>hb (hs b z)) fun z=>he (hx b z),fun _ _ q n _ he=>u.any q n fun z=>he (hx _ z),fun b ob q n he=>u.free b ob q n fun z=>he (hx b z),fun b ob q he=>u.there b ob q fun z=>he (hx b z),u.tups,u.frzs,u.tbls⟩
end
def trk (h:Heap) (H:Hp):List Addr:=(Qaw h.objs.size).filter fun a=>(H a).isSome
def ZfQ (h:Heap) (H:Hp):Heap:=PySem.W.hideAll h (trk h H)
theorem Zoh (h:Heap) (H:Hp):(ZfQ h H).objs.size=h.objs.size:=PySem.W.hideAll_size _ _
theorem Zpe {h:Heap} {H:Hp} {b:Addr} {o:Obj} (e:h.get? b=some o) (n:H b=none):(ZfQ h H).get? b=some o :=
 PySem.W.hideAll_get _ e fun hm=>by
  have q:(H b).isSome=true:=(List.mem_filter.mp hm).2
  rw [n] at q;simp at q
theorem Zrb {h:Heap} {H:Hp} {b:Addr} {o:Obj} (e:(ZfQ h H).get? b=some o):h.get? b=some o/\H b=none:=by
 have e':h.get? b=some o:=PySem.W.of_hideAll (trk h H) e
 refine ⟨e',?_⟩
 cases q:H b with
 | none=>rfl
 | some x =>
  have hm:b∈trk h H:=List.mem_filter.mpr ⟨List.mem_range.mpr (Qaq e'),by simp [q]⟩
  have z:(ZfQ h H).get? b=none:=PySem.W.hideAll_none (trk h H) hm
  rw [z] at e;cases e
def ZrK (g h:Heap) (L:Addr):List (Addr×Obj):=(Qaw h.objs.size).filterMap fun a=>if a=L\/(g.get? a).isSome=true then none else (h.get? a).map fun o=>(a,o)
def Zaa (g h:Heap) (L d:Addr):List (Addr×Obj):=(ZrK g h L).filter fun p=>decide (p.1≠d)
end L2
namespace L2
open PySem PySem.Spec PyProof.Rows
structure Mod (K:Qab) (mg:Str->Option Value) (base:Heap):Prop where
 kin:K.In base
 glob:base.Ns Qak mg
 blt:∃ mb,base.Ns builtinsNs mb/\∀ x:Str,x≠"__name__"->mb x=Qbe x
 nolimit:base.NoLimit
structure Cx where
 prog:Qav
 w:World
 K:Qab
 mg:Str->Option Value
 base:Heap
 A:Around
 N:List Str
 s₀:Shared
 H₀:Hp
 env:Env
 outer:List Env
 stack:List Env
 ex:List Addr
 fn:Str->Bool
 calm:Bool
 pn:List (Addr×Obj)
 xe:Value->Shared->Prop
def frs (l:List Env):List Addr:=l.filterMap (·.frame)
abbrev Cx.fs (X:Cx):List Addr:=frs X.outer
def Vis (sc:Scope) (x:Str):Prop:=sc.names.lookup x=some .local\/sc.names.lookup x=some .cell\/sc.names.lookup x=some .free
def Loc (sc:Scope) (x:Str):Prop:=sc.names.lookup x=some .local\/sc.names.lookup x=some .cell
def ZuE (env:Env) (h:Heap) (m:Str->Option Value) (x:Str) (u:Value):Prop :=
 (env.kindOf x=some .local/\m x=some u)\/((env.kindOf x=some .cell\/env.kindOf x=some .free)/\∃ c,env.cells.lookup x=some c/\h.IsCell c (some u))
structure Cx.Ok (X:Cx):Prop where
 mod:Mod X.K X.mg X.base
 kind:X.env.scope.kind=.function
 glob:X.env.globals=Qak
 blt:X.env.builtins=builtinsNs
 above:X.s₀.heap.objs.size<=X.env.locals
 inj:∀ x y c,X.env.cells.lookup x=some c->X.env.cells.lookup y=some c->x=y
 has:∀ x,(X.env.kindOf x=some .cell\/X.env.kindOf x=some .free)->∃ c,X.env.cells.lookup x=some c
 cab:∀ x c,X.fn x=true->X.env.cells.lookup x=some c->X.s₀.heap.objs.size<=c
 hd:X.calm=true->X.A.handled=none
 frames:X.A.frames=some X.stack
 stk:X.stack=X.outer\/(X.stack=X.env::X.outer/\X.env.frame=some X.env.locals)
 exf:∀ b∈X.ex,b≠X.env.locals/\∀ x c,X.env.cells.lookup x=some c->c≠b
 bs:∀ b o,X.base.get? b=some o->X.s₀.heap.get? b=some o/\X.H₀ b=none
 bsz:X.base.objs.size<=X.s₀.heap.objs.size
 noex:∀ b o,X.base.get? b=some o->b∉X.ex
 exfs:∀ b∈X.ex,b∉X.fs
 funs:X.s₀.heap.FunFrames X.base X.outer
 frf:∀ b∈X.fs,X.H₀ b=none
structure Inv (X:Cx) (pins:List (Addr×Obj)) (σ:List (Option V)) (H:Hp) (s:Shared):Prop where
 ok:X.Ok
 os:s.os=X.s₀.os
 bare:AllBare s.gens
 base:Un X.fs X.ex X.H₀ H X.s₀.heap s.heap
 loc:∃ m,s.heap.Ns X.env.locals m/\∀ (i:Nat) (x:Str) (v:V),X.N[i]?=some x->σ[i]?=some (some v)->Vis X.env.scope x->∃ u,RelV v u/\ZuE X.env s.heap m x u
 cell:∀ x c,X.env.cells.lookup x=some c->∃ v,s.heap.IsCell c v
 free:H X.env.locals=none
 freeC:∀ x c,X.env.cells.lookup x=some c->H c=none
 pin:∀ p∈X.pn++pins,s.heap.get? p.1=some p.2/\H p.1=none/\p.1≠X.env.locals/\p.1∉X.fs/\∀ v,p.2.data≠.cell v
 hok:HOk X.prog X.w H s.heap
 len:σ.length=X.N.length
section
variable {X:Cx} {pins:List (Addr×Obj)} {σ:List (Option V)} {H H':Hp} {s:Shared} {h':Heap}
theorem Cx.Ok.nofr (ok:X.Ok) {b:Addr} {o:Obj} (e:X.base.get? b=some o):b∉X.fs:=fun hb=>by
 have:=(ok.funs.mem hb).1
 rw [e] at this;cases this
theorem Inv.bs (I:Inv X pins σ H s):∀ b o,X.base.get? b=some o->s.heap.get? b=some o/\H b=none:=fun b o e =>
 ⟨I.base.keep b o (I.ok.bs b o e).1 (I.ok.bs b o e).2 (I.ok.nofr e) (I.ok.noex b o e),I.base.free b o (I.ok.bs b o e).1 (I.ok.bs b o e).2 (I.ok.noex b o e)⟩
theorem Inv.bk (I:Inv X pins σ H s):∀ b o,X.base.get? b=some o->s.heap.get? b=some o:=fun b o e=>(I.bs b o e).1
theorem Inv.mod (I:Inv X pins σ H s):Mod X.K X.mg X.base:=I.ok.mod
theorem Inv.kIn (I:Inv X pins σ H s):X.K.In s.heap:=I.ok.mod.kin.keeps I.bk
theorem Inv.nolimit (I:Inv X pins σ H s):s.heap.NoLimit:=I.ok.mod.nolimit.keeps I.bk
theorem Inv.fr (I:Inv X pins σ H s):∃ m,Fr X.base X.env.locals s.heap m :=
 let ⟨m,hn,_⟩:=I.loc
 ⟨m,hn,I.bk,QaP I.ok.bsz I.ok.above⟩
theorem Inv.lt (I:Inv X pins σ H s):X.env.locals<s.heap.objs.size:=let ⟨_,hn,_⟩:=I.loc;hn.lt
theorem Inv.sz (I:Inv X pins σ H s):X.s₀.heap.objs.size<=s.heap.objs.size:=QaP I.ok.above (QcI I.lt)
theorem Inv.nofs (I:Inv X pins σ H s) {a:Addr} (h:s.heap.objs.size<=a):a∉X.fs:=fun hb=>by
 obtain ⟨_,o,ho,_⟩:=I.ok.funs.mem hb
 exact absurd (Qay (Qaq ho) (QaP I.sz h)) (Qbu _)
theorem Inv.cne (I:Inv X pins σ H s):∀ x c,X.env.cells.lookup x=some c->c≠X.env.locals:=fun x c e z=>by
 obtain ⟨v,o,ho,hd⟩:=I.cell x c e
 obtain ⟨m,⟨o',es,ep,ho',hd',_⟩,_⟩:=I.loc
 rw [z,ho'] at ho;cases ho;rw [hd'] at hd;cases hd
theorem Inv.funs (I:Inv X pins σ H s):s.heap.FunFrames X.base X.outer:=by
 have all:∀ (l:List Env),(∀ b∈frs l,b∈X.fs)->X.s₀.heap.FunFrames X.base l->s.heap.FunFrames X.base l:=by
  intro l
  induction l with
  | nil=>intro _ _;trivial
  | cons env r ih =>
   intro hs hl
   obtain ⟨hk,⟨L,o,hf,hn,ho,hd⟩,hr⟩:=hl
   have hL:L∈X.fs:=hs L (by unfold frs;rw [QbI,hf];exact Qam)
   obtain ⟨sl,e⟩:=I.base.slot L o ho (I.ok.frf L hL) hL fun z=>I.ok.exfs L z hL
   exact ⟨hk,⟨L,_,hf,hn,e,hd⟩,ih (fun b hb=>hs b (by unfold frs;rw [QbI,hf];exact Qag _ hb)) hr⟩
 exact all X.outer (fun _ hb=>hb) I.ok.funs
theorem Inv.stack (I:Inv X pins σ H s):s.heap.FunFrames X.base X.stack:=by
 rcases I.ok.stk with e | ⟨e,hf⟩
 ·rw [e];exact I.funs
 ·rw [e]
  obtain ⟨m,hn,_⟩:=I.loc
  refine .cons (by rw [I.ok.kind];decide) hf hn ?_ I.funs
  exact Heap.get?_none_of_le (QaP I.ok.bsz I.ok.above)
theorem Inv.stkSub (I:Inv X pins σ H s):∀ b∈frs X.stack,b∈X.env.locals::X.fs:=fun b hb=>by
 rcases I.ok.stk with e | ⟨e,hf⟩
 ·rw [e] at hb;exact Qag _ hb
 ·rw [e] at hb
  unfold frs at hb
  rw [QbI,hf] at hb
  exact hb
theorem Inv.stkFree (I:Inv X pins σ H s):∀ b∈frs X.stack,H b=none:=fun b hb=>by
 rcases Qbk.mp (I.stkSub b hb) with e | hb
 ·rw [e];exact I.free
 ·obtain ⟨_,o,ho,_⟩:=I.ok.funs.mem hb
  exact I.base.free b o ho (I.ok.frf b hb) fun z=>I.ok.exfs b z hb
theorem Inv.step {g':Array GenState} {t':Nat} {d':Drawn} {ch:List Addr} (I:Inv X pins σ H s)
  (hch:∀ b∈ch,(b∈X.ex\/X.s₀.heap.objs.size<=b)/\b≠X.env.locals/\(∀ x c,X.env.cells.lookup x=some c->c≠b)/\∀ p∈X.pn++pins,p.1≠b)
  (keep:∀ b o,b≠X.env.locals->b∉X.fs->b∉ch->s.heap.get? b=some o->H b=none->h'.get? b=some o)
  (slot:∀ b o,b≠X.env.locals->b∈X.fs->b∉ch->s.heap.get? b=some o->H b=none->∃ sl,h'.get? b=some { o with slots:=sl }) (free:∀ b o,b∉ch->s.heap.get? b=some o->H b=none->H' b=none)
  (there:∀ b o,b∉ch->s.heap.get? b=some o->∃ o',h'.get? b=some o')
  (tups:∀ b xs,H b=some (.tup xs)->H' b=some (.tup xs)) (frzs:∀ b o u,H b=some (.frz o u)->H' b=some (.frz o u)) (tbls:∀ b ps,H b=some (.tbl ps)->∃ more,H' b=some (.tbl (ps++more)))
  (ns:∀ m,s.heap.Ns X.env.locals m->h'.Ns X.env.locals m) (hok:HOk X.prog X.w H' h') (hg:AllBare g') :
  Inv X pins σ H' { s with heap:=h',gens:=g',drawn:=d',toks:=t' }:=by
 have neL:∀ b o,X.s₀.heap.get? b=some o->b≠X.env.locals:=fun b o e=>QaL (Qay (Qaq e) I.ok.above)
 have neC:∀ b o,X.s₀.heap.get? b=some o->b∉X.ex->b∉ch:=fun b o e hx hb=>by
  rcases (hch b hb).1 with z | z
  ·exact hx z
  ·exact absurd (Qay (Qaq e) z) (Qbu _)
 have cellK:∀ x c,X.env.cells.lookup x=some c->∀ v,s.heap.IsCell c v->h'.IsCell c v:=fun x c e v ⟨o,ho,hd⟩=>by
  have nch:c∉ch:=fun z=>(hch c z).2.2.1 x c e rfl
  by_cases hc:c∈X.fs
  ·obtain ⟨sl,q⟩:=slot c o (I.cne x c e) hc nch ho (I.freeC x c e)
   exact ⟨_,q,hd⟩
  ·exact ⟨o,keep c o (I.cne x c e) hc nch ho (I.freeC x c e),hd⟩
 refine ⟨I.ok,I.os,hg,⟨fun b o e n hb hx=>?_,fun b o e n hb hx=>?_,fun b o e n hx=>?_,fun b o e hx=>?_,fun b xs e=>tups b xs (I.base.tups b xs e),fun b o xs e=>frzs b o xs (I.base.frzs b o xs e),fun b ps e=>?_⟩,?_,fun x c e=>?_,?_,fun x c e=>?_,fun p hp=>?_,hok,I.len⟩
 ·exact keep b o (neL b o e) hb (neC b o e hx) (I.base.keep b o e n hb hx) (I.base.free b o e n hx)
 ·obtain ⟨sl,e1⟩:=I.base.slot b o e n hb hx
  obtain ⟨sl',e2⟩:=slot b _ (neL b o e) hb (neC b o e hx) e1 (I.base.free b o e n hx)
  exact ⟨sl',e2⟩
 ·obtain ⟨o',e1⟩:=I.base.there b o e hx
  exact free b o' (neC b o e hx) e1 (I.base.free b o e n hx)
 ·obtain ⟨o',e1⟩:=I.base.there b o e hx
  exact there b o' (neC b o e hx) e1
 ·obtain ⟨m1,e1⟩:=I.base.tbls b ps e
  obtain ⟨m2,e2⟩:=tbls b _ e1
  exact ⟨m1++m2,by rw [e2,Array.append_assoc]⟩
 ·obtain ⟨m,hn,hl⟩:=I.loc
  refine ⟨m,ns m hn,fun i x v e1 e2 e3=>?_⟩
  obtain ⟨u,r,l⟩:=hl i x v e1 e2 e3
  refine ⟨u,r,?_⟩
  rcases l with l | ⟨k,c,e,z⟩
  ·exact .inl l
  ·exact .inr ⟨k,c,e,cellK x c e _ z⟩
 ·obtain ⟨v,z⟩:=I.cell x c e
  exact ⟨v,cellK x c e v z⟩
 ·obtain ⟨m,⟨o,_,_,ho,_⟩,_⟩:=I.loc
  exact free _ o (fun z=>(hch _ z).2.1 rfl) ho I.free
 ·obtain ⟨v,o,ho,hd⟩:=I.cell x c e
  exact free c o (fun z=>(hch c z).2.2.1 x c e rfl) ho (I.freeC x c e)
 ·obtain ⟨e,n,ne,nf,d⟩:=I.pin p hp
  have nch:p.1∉ch:=fun z=>(hch p.1 z).2.2.2 p hp rfl
  exact ⟨keep p.1 p.2 ne nf nch e n,free p.1 p.2 nch e n,ne,nf,d⟩
theorem Inv.un {t':Nat} (I:Inv X pins σ H s) (u:Un X.fs [] H H' s.heap h') (hok:HOk X.prog X.w H' h'):Inv X pins σ H' { s with heap:=h',toks:=t' }:=by
 obtain ⟨m,⟨o,es,ep,ho,r⟩,_⟩:=id I.loc
 obtain ⟨sl,hL⟩:=u.any ho I.free (by simp)
 exact I.step (g':=s.gens) (d':=s.drawn) (ch:=[]) (fun _ z=>nomatch z) (fun b o _ hb _ e n=>u.keep b o e n hb (by simp)) (fun b o _ hb _ e n=>u.slot b o e n hb (by simp)) (fun b o _ e n=>u.free b o e n (by simp)) (fun b o _ e=>u.there b o e (by simp)) u.tups u.frzs u.tbls (fun m' hm=>by
  obtain ⟨o',es',ep',ho',r'⟩:=hm
  rw [ho] at ho';cases ho'
  exact ⟨_,es',ep',hL,r'⟩) hok I.bare
theorem Inv.call {g':Array GenState} {t':Nat} {d':Drawn} {ch:List Addr} (I:Inv X pins σ H s) (u:Un (frs X.stack) ch H H' s.heap h') (hok:HOk X.prog X.w H' h') (hg:AllBare g')
  (hch:∀ b∈ch,(b∈X.ex\/X.s₀.heap.objs.size<=b)/\b≠X.env.locals/\(∀ x c,X.env.cells.lookup x=some c->c≠b)/\∀ p∈X.pn++pins,p.1≠b) :
  Inv X pins σ H' { s with heap:=h',gens:=g',drawn:=d',toks:=t' }:=by
 obtain ⟨m,⟨o,es,ep,ho,r⟩,_⟩:=id I.loc
 obtain ⟨sl,hL⟩:=u.any ho I.free fun z=>(hch _ z).2.1 rfl
 exact I.step (ch:=ch) hch (fun b o hL hb hc e n=>u.keep b o e n (fun z=>(Qbk.mp (I.stkSub b z)).elim hL hb) hc) (fun b o _ _ hc e n=>u.any e n hc) (fun b o hc e n=>u.free b o e n hc) (fun b o hc e=>u.there b o e hc) u.tups u.frzs u.tbls (fun m' hm=>by
  obtain ⟨o',es',ep',ho',r'⟩:=hm
  rw [ho] at ho';cases ho'
  exact ⟨_,es',ep',hL,r'⟩) hok hg
theorem Inv.turned {t':Nat} {it:Addr} (I:Inv X pins σ H s) (k:∀ b o,b≠it->s.heap.get? b=some o->h'.get? b=some o) (hn:H it=none) (hL:it≠X.env.locals)
  (h1:it∈X.ex\/X.s₀.heap.objs.size<=it) (h2:∀ x c,X.env.cells.lookup x=some c->c≠it) (h3:∀ p∈X.pn++pins,p.1≠it):Inv X pins σ H { s with heap:=h',toks:=t' }:=by
 have nit:∀ b u,H b=some u->b≠it:=fun b u e z=>by rw [z,hn] at e;cases e
 refine I.step (g':=s.gens) (d':=s.drawn) (ch:=[it]) (fun b hb=>?_) (fun b o _ _ hc e _=>k b o (fun z=>hc (by simp [z])) e) (fun b o _ _ hc e _=>⟨o.slots,k b o (fun z=>hc (by simp [z])) e⟩) (fun _ _ _ _ n=>n)
  (fun b o hc e=>⟨o,k b o (fun z=>hc (by simp [z])) e⟩) (fun _ _ e=>e) (fun _ _ _ e=>e) (fun b ps e=>⟨#[],by rw [e];simp⟩) (fun m hm=>?_) (fun b u e=>?_) I.bare
 ·have e:b=it:=by simpa using hb
  subst e
  exact ⟨h1,hL,h2,h3⟩
 ·obtain ⟨o,es,ep,ho,r⟩:=hm
  exact ⟨o,es,ep,k _ o (QaD hL) ho,r⟩
 ·refine (I.hok b u e).stay (fun c v hc q=>k c v ?_ q) (fun _ q=>q) fun _ _ q=>q
  rcases hc with z | z
  ·rw [z];exact nit b u e
  ·exact nit c _ z
theorem Inv.tok (I:Inv X pins σ H s) (t:Nat):Inv X pins σ H { s with toks:=t }:=I.un (h':=s.heap) (t':=t) Un.refl I.hok
theorem Inv.kept {t':Nat} (I:Inv X pins σ H s) (k:∀ b u,s.heap.get? b=some u->h'.get? b=some u):Inv X pins σ H { s with heap:=h',toks:=t' }:=I.un (Un.kept k) (I.hok.kept k)
theorem Inv.laid {a:Addr} {o:HO} {t':Nat} (I:Inv X pins σ H s) (k:∀ b u,s.heap.get? b=some u->h'.get? b=some u) (hp:s.heap.objs.size<=a) (new:ObjOk X.prog X.w (upd H a o) h' a o) :
  Inv X pins σ (upd H a o) { s with heap:=h',toks:=t' }:=I.un (Un.laid k hp (I.hok.fresh hp)) (I.hok.laid k hp new)
theorem Inv.write {x e:Addr} {o:HO} {t':Nat} (I:Inv X pins σ H s) (mu:Mut (H x)) (he:e=x\/H e=some (.own x)) (k:∀ b u,b≠e->s.heap.get? b=some u->h'.get? b=some u) (heo:∃ u,h'.get? e=some u)
  (new:ObjOk X.prog X.w (upd H x o) h' x o):Inv X pins σ (upd H x o) { s with heap:=h',toks:=t' }:=I.un (Un.write mu he k heo) (I.hok.write mu he k heo new)
theorem Inv.weak {σ':List (Option V)} (I:Inv X pins σ H s) (hl:σ'.length=σ.length) (w:∀ (i:Nat) v,σ'[i]?=some (some v)->σ[i]?=some (some v)):Inv X pins σ' H s :=
 ⟨I.ok,I.os,I.bare,I.base,let ⟨m,hn,hl'⟩:=I.loc;⟨m,hn,fun i x v e1 e2 e3=>hl' i x v e1 (w i v e2) e3⟩,I.cell,I.free,I.freeC,I.pin,I.hok,hl.trans I.len⟩
theorem Inv.pins_of {pins':List (Addr×Obj)} (I:Inv X pins σ H s) (h:∀ p∈pins',s.heap.get? p.1=some p.2/\H p.1=none/\p.1≠X.env.locals/\p.1∉X.fs/\∀ v,p.2.data≠.cell v):Inv X pins' σ H s :=
 ⟨I.ok,I.os,I.bare,I.base,I.loc,I.cell,I.free,I.freeC,fun p hp=>(List.mem_append.mp hp).elim (fun z=>I.pin p (QbR _ z)) (h p),I.hok,I.len⟩
theorem Zj2 {N:List Str} (hN:N.Nodup) {i j:Nat} {x:Str} (a:N[i]?=some x) (b:N[j]?=some x):i=j:=by
 obtain ⟨h1,e1⟩:=List.getElem?_eq_some_iff.mp a
 obtain ⟨h2,e2⟩:=List.getElem?_eq_some_iff.mp b
 exact (List.getElem_inj hN).mp (e1.trans e2.symm)
theorem ZnX {M:Model} {A:Around} {E:Value->Shared->Prop} {i:Nat} {x:Str} {v:V} {u:Value} {Q:Unit->Shared->Prop} (I:Inv X pins σ H s) (hN:X.N.Nodup) (hi:X.N[i]?=some x) (hx:Loc X.env.scope x) (r:RelV v u)
  (h:∀ s',Inv X pins (σ.set i (some v)) H s'->(∃ a,QaX a s.heap s'.heap/\(a=X.env.locals\/X.env.cells.lookup x=some a))->Q () s') (hf:X.fn x=true\/X.env.scope.names.lookup x=some .local:=by first | exact .inl rfl | exact .inr rfl | assumption):wpAny M A (storeName X.env x u) Q E s:=by
 obtain ⟨m,hn,hl⟩:=id I.loc
 have hcls:(X.env.scope.kind==.class||(X.env.scope.kind==.module&&X.env.locals != X.env.globals))=false:=by rw [I.ok.kind];rfl
 have hiσ:i<σ.length:=by rw [I.len];exact (List.getElem?_eq_some_iff.mp hi).1
 have cne:=I.cne
 have tracked:∀ {a:Addr} {h':Heap},(∃ o,s.heap.get? a=some o/\H a=none)->QaX a s.heap h'->HOk X.prog X.w H h':=fun {a h'} ha hs b ob e=>by
  obtain ⟨_,_,hfree⟩:=ha
  refine (I.hok b ob e).stay (fun c w' hc q=>(hs.2 c ?_).trans q) (fun _ q=>q) fun _ _ q=>q
  rintro rfl
  rcases hc with rfl | hc
  ·rw [hfree] at e;cases e
  ·rw [hfree] at hc;cases hc
 rcases hx with hk | hk
 ·refine wpAny_storeName_local hk hn (fun h' hn' hs=>?_) hcls
  obtain ⟨oL,_,_,hoL,_⟩:=id hn
  refine h _ ⟨I.ok,I.os,I.bare,⟨fun b o e n hb hx=>?_,fun b o e n hb hx=>?_,I.base.free,fun b o e hx=>?_,I.base.tups,I.base.frzs,I.base.tbls⟩,⟨_,hn',fun j y v' e1 e2 e3=>?_⟩,fun y c e=>?_,I.free,I.freeC,fun p hp=>?_,tracked ⟨oL,hoL,I.free⟩ hs,by simpa using I.len⟩ ⟨_,hs,.inl rfl⟩
  ·exact (hs.2 b (QaL (Qay (Qaq e) I.ok.above))).trans (I.base.keep b o e n hb hx)
  ·obtain ⟨sl,e1⟩:=I.base.slot b o e n hb hx
   exact ⟨sl,(hs.2 b (QaL (Qay (Qaq e) I.ok.above))).trans e1⟩
  ·obtain ⟨o',e1⟩:=I.base.there b o e hx
   exact ⟨o',(hs.2 b (QaL (Qay (Qaq e) I.ok.above))).trans e1⟩
  ·by_cases hj:j=i
   ·subst hj
    rw [hi] at e1;cases e1
    rw [QbK hiσ] at e2
    cases e2
    exact ⟨u,r,.inl ⟨hk,by simp⟩⟩
   ·rw [Qa7 (QaD hj)] at e2
    obtain ⟨u',r',q⟩:=hl j y v' e1 e2 e3
    refine ⟨u',r',?_⟩
    rcases q with ⟨k,e⟩ | ⟨k,c,e,z⟩
    ·refine .inl ⟨k,?_⟩
     have:y≠x:=fun e=>hj (Zj2 hN e1 (e ▸ hi))
     simp [this,e]
    ·exact .inr ⟨k,c,e,z.sameBut hs (cne y c e)⟩
  ·obtain ⟨w',z⟩:=I.cell y c e
   exact ⟨w',z.sameBut hs (cne y c e)⟩
  ·obtain ⟨e,n,ne,nf,d⟩:=I.pin p hp
   exact ⟨(hs.2 p.1 ne).trans e,n,ne,nf,d⟩
 ·have hfn:X.fn x=true:=by
   rcases hf with z | z
   ·exact z
   ·rw [z] at hk;cases hk
  obtain ⟨c,hc⟩:=I.ok.has x (.inl hk)
  obtain ⟨w',z⟩:=I.cell x c hc
  refine wpAny_storeName_cell I.ok.kind hk hc z (fun h' hc' hs=>?_)
  obtain ⟨oc,hoc,hocd⟩:=id z
  refine h { s with heap:=h' } ⟨I.ok,I.os,I.bare,⟨fun b o e n hb hx=>?_,fun b o e n hb hx=>?_,I.base.free,fun b o e hx=>?_,I.base.tups,I.base.frzs,I.base.tbls⟩,⟨m,hn.sameBut hs (QaD (cne x c hc)),fun j y v' e1 e2 e3=>?_⟩,fun y c' e=>?_,I.free,I.freeC,fun p hp=>?_,tracked ⟨oc,hoc,I.freeC x c hc⟩ hs,by simpa using I.len⟩ ⟨c,hs,.inr hc⟩
  ·exact (hs.2 b (QaL (Qay (Qaq e) (I.ok.cab x c hfn hc)))).trans (I.base.keep b o e n hb hx)
  ·obtain ⟨sl,e1⟩:=I.base.slot b o e n hb hx
   exact ⟨sl,(hs.2 b (QaL (Qay (Qaq e) (I.ok.cab x c hfn hc)))).trans e1⟩
  ·obtain ⟨o',e1⟩:=I.base.there b o e hx
   exact ⟨o',(hs.2 b (QaL (Qay (Qaq e) (I.ok.cab x c hfn hc)))).trans e1⟩
  ·by_cases hj:j=i
   ·subst hj
    rw [hi] at e1;cases e1
    rw [QbK hiσ] at e2
    cases e2
    exact ⟨u,r,.inr ⟨.inl hk,c,hc,hc'⟩⟩
   ·rw [Qa7 (QaD hj)] at e2
    obtain ⟨u',r',q⟩:=hl j y v' e1 e2 e3
    refine ⟨u',r',?_⟩
    rcases q with q | ⟨k,c',e,z'⟩
    ·exact .inl q
    ·refine .inr ⟨k,c',e,z'.sameBut hs ?_⟩
     rintro rfl
     exact hj (Zj2 hN e1 (I.ok.inj _ _ _ e hc ▸ hi))
  ·by_cases hcc:c'=c
   ·subst hcc;exact ⟨_,hc'⟩
   ·obtain ⟨w2,z2⟩:=I.cell y c' e
    exact ⟨w2,z2.sameBut hs hcc⟩
  ·obtain ⟨e,n,ne,nf,d⟩:=I.pin p hp
   refine ⟨(hs.2 p.1 ?_).trans e,n,ne,nf,d⟩
   intro q
   rw [q,hoc] at e
   have q':oc=p.2:=Qbr e
   exact d w' (by rw [<- q'];exact hocd)
theorem Zho {M:Model} {A:Around} {E:Value->Shared->Prop} {i:Nat} {x:Str} {v:V} {u:Value} {Q:Unit->Shared->Prop} (I:Inv X pins σ H s) (hN:X.N.Nodup) (hi:X.N[i]?=some x) (hx:Loc X.env.scope x) (r:RelV v u)
  (h:∀ s',Inv X pins (σ.set i (some v)) H s'->Q () s') (hf:X.fn x=true\/X.env.scope.names.lookup x=some .local:=by first | exact .inl rfl | exact .inr rfl | assumption):wpAny M A (storeName X.env x u) Q E s :=
 ZnX I hN hi hx r (fun s' I' _=>h s' I') hf
theorem Inv.call' {s':Shared} {ch:List Addr} (I:Inv X pins σ H s) (ho:s'.os=s.os) (u:Un (frs X.stack) ch H H' s.heap s'.heap) (hok:HOk X.prog X.w H' s'.heap) (hg:AllBare s'.gens)
  (hch:∀ b∈ch,(b∈X.ex\/X.s₀.heap.objs.size<=b)/\b≠X.env.locals/\(∀ x c,X.env.cells.lookup x=some c->c≠b)/\∀ p∈X.pn++pins,p.1≠b):Inv X pins σ H' s':=by
 obtain ⟨h',g',d',t',o'⟩:=s'
 have e:o'=s.os:=ho
 subst e
 exact I.call (g':=g') (t':=t') (d':=d') u hok hg hch
end
abbrev XK:=Value->Option Addr->Hp->Prop
abbrev St:=List (Option V)
abbrev VK:=V->Hp->Prop
abbrev TE:=St->Hp->VK->Prop
abbrev TT:=St->Hp->(Bool->Hp->Prop)->Prop
abbrev TA:=St->Hp->(List V->Hp->Prop)->Prop
structure Ends where
 nx:St->Hp->Prop
 rt:VK
 bk:St->Hp->Prop:=fun _ _=>False
 ct:St->Hp->Prop:=fun _ _=>False
abbrev TS:=Ends->St->Hp->Prop
def EP (X:Cx) (pins:List (Addr×Obj)) (σ:St) (Q:VK) (u:Value) (s':Shared):Prop:=∃ v H',Inv X pins σ H' s'/\RelV v u/\Q v H'
def TP (X:Cx) (pins:List (Addr×Obj)) (σ:St) (Q:Bool->Hp->Prop) (b:Bool) (s':Shared):Prop:=∃ H',Inv X pins σ H' s'/\Q b H'
def AP (X:Cx) (pins:List (Addr×Obj)) (σ:St) (Q:List V->Hp->Prop) (us:List Value) (s':Shared):Prop:=∃ vs H',Inv X pins σ H' s'/\Vals vs us/\Q vs H'
def SP (X:Cx) (pins:List (Addr×Obj)) (D:Ends) (f:Flow) (s':Shared):Prop :=
 match f with
 | .next=>∃ σ' H',Inv X pins σ' H' s'/\D.nx σ' H'
 | .brk=>∃ σ' H',Inv X pins σ' H' s'/\D.bk σ' H'
 | .cont=>∃ σ' H',Inv X pins σ' H' s'/\D.ct σ' H'
 | .ret u=>∃ v σ' H',Inv X pins σ' H' s'/\RelV v u/\D.rt v H'
def PE (X:Cx) (e:Expr) (t:TE):Prop :=
 ∀ (pins:List (Addr×Obj)) (s:Shared) (σ:St) (H:Hp) (Q:VK),Inv X pins σ H s->t σ H Q->wpAny (model X.prog X.w) X.A (eval e X.env) (EP X pins σ Q) X.xe s
def PT (X:Cx) (e:Expr) (t:TT):Prop :=
 ∀ (pins:List (Addr×Obj)) (s:Shared) (σ:St) (H:Hp) (Q:Bool->Hp->Prop),Inv X pins σ H s->t σ H Q->wpAny (model X.prog X.w) X.A (isTrue e X.env (eval e X.env)) (TP X pins σ Q) X.xe s
def PW (X:Cx) (e:Expr) (t:TT):Prop :=
 ∀ (whole:Sem Value) (pins:List (Addr×Obj)) (s:Shared) (σ:St) (H:Hp) (Q:Bool->Hp->Prop),Inv X pins σ H s->t σ H Q->wpAny (model X.prog X.w) X.A (isTrue e X.env whole) (TP X pins σ Q) X.xe s
theorem PW.pt {X:Cx} {e:Expr} {t:TT} (h:PW X e t):PT X e t:=h _
def PA (X:Cx) (es:List Expr) (t:TA):Prop :=
 ∀ (pos:Pos) (pins:List (Addr×Obj)) (s:Shared) (σ:St) (H:Hp) (Q:List V->Hp->Prop),Inv X pins σ H s->t σ H Q->wpAny (model X.prog X.w) X.A (spliced (backTo pos (Qas es X.env))) (AP X pins σ Q) X.xe s
def PS (X:Cx) (st:Stmt) (t:TS):Prop :=
 ∀ (pins:List (Addr×Obj)) (s:Shared) (σ:St) (H:Hp) (D:Ends),Inv X pins σ H s->t D σ H->wpAny (model X.prog X.w) X.A (exec st X.env) (SP X pins D) X.xe s
def PSs (X:Cx) (st:List Stmt) (t:TS):Prop :=
 ∀ (pins:List (Addr×Obj)) (s:Shared) (σ:St) (H:Hp) (D:Ends),Inv X pins σ H s->t D σ H->wpAny (model X.prog X.w) X.A (execs st X.env) (SP X pins D) X.xe s
theorem thn {α:Type} {t:Sem α} {Q Q':α->Shared->Prop} {M:Model} {A:Around} {E:Value->Shared->Prop} {s:Shared} (h:wpAny M A t Q E s) (hQ:∀ a s,Q a s->Q' a s):wpAny M A t Q' E s:=Qbp h hQ fun _ _ x=>x
end L2
namespace L2
open PySem PySem.Spec PyProof.Rows
section
variable {X:Cx}
theorem bin {a b:Expr} {ta tb:TE} (ha:PE X a ta) (hb:PE X b tb) {pins:List (Addr×Obj)} {s:Shared} {σ:St} {H:Hp} {R:V->V->Hp->Prop} (I:Inv X pins σ H s) (h:ta σ H fun x H1=>tb σ H1 fun y H2=>R x y H2)
  {α:Type} {Q:α->Shared->Prop} {f:Value->Value->Sem α}
  (hf:∀ v u s2 x y H2,Inv X pins σ H2 s2->RelV x v->RelV y u->R x y H2->wpAny (model X.prog X.w) X.A (f v u) Q X.xe s2) :
  wpAny (model X.prog X.w) X.A (eval a X.env) (fun v s₁=>wpAny (model X.prog X.w) X.A (eval b X.env) (fun u s₂=>wpAny (model X.prog X.w) X.A (f v u) Q X.xe s₂) X.xe s₁) X.xe s:=by
 refine thn (ha pins s σ H _ I h) fun v s1 ⟨x,H1,I1,r1,q1⟩=>?_
 refine thn (hb pins s1 σ H1 _ I1 q1) fun u s2 ⟨y,H2,I2,r2,q2⟩=>?_
 exact hf v u s2 x y H2 I2 r1 r2 q2
def ZuM (i:Nat):TE:=fun σ H Q=>∃ v,σ[i]?=some (some v)/\Q v H
def tC (v:V):TE:=fun _ H Q=>Q v H
theorem Zcn {i:Nat} {x:Str} {pos:Pos} (hN:X.N[i]?=some x) (hv:Vis X.env.scope x) (hd:(x==("__debug__":Str))=false:=by decide) (hcd:(x==("__classdict__":Str))=false:=by decide):PE X (.Name x pos) (ZuM i):=by
 intro pins s σ H Q I h
 obtain ⟨v,e,h⟩:=h
 obtain ⟨m,hn,hl⟩:=I.loc
 obtain ⟨u,r,l⟩:=hl i x v hN e hv
 have fin:EP X pins σ Q u s:=⟨v,H,I,r,h⟩
 rcases l with ⟨hk,hm⟩ | ⟨hk,c,hc,hcell⟩
 ·exact wpAny_Name (wpAny_loadName_local I.ok.kind hk hn hm fin) hd
 ·rcases hk with hk | hk
  ·exact wpAny_Name (wpAny_loadName_cell I.ok.kind hk hc hcell fin) hd
  ·exact wpAny_Name (wpAny_loadName_free I.ok.kind hk hc hcell fin hcd) hd
theorem Ztx {i j pos}:PE X (.Constant (.int i) j pos) (tC (.int i)):=fun _ _ _ H _ I h=>wpAny_Constant_int ⟨.int i,H,I.tok _,⟨_,rfl⟩,h⟩
theorem Zt6 {b j pos}:PE X (.Constant (.bool b) j pos) (tC (.bl b)):=fun _ _ _ H _ I h=>Constant_bool ⟨.bl b,H,I,rfl,h⟩
theorem Zs2 {j pos}:PE X (.Constant .none j pos) (tC .non):=fun _ _ _ H _ I h=>Constant_none ⟨.non,H,I,rfl,h⟩
theorem Ztj {x j pos}:PE X (.Constant (.str x) j pos) (tC (.str x)):=fun _ _ _ H _ I h=>Calls.Constant_str ⟨.str x,H,I.tok _,⟨_,rfl⟩,h⟩
def Gl (X:Cx) (x:Str):Prop:=X.env.kindOf x=some .globalImplicit
theorem ZeW {E:Value->Shared->Prop} {pins:List (Addr×Obj)} {s:Shared} {σ:St} {H:Hp} {x:Str} {u:Value} {pos:Pos} {Q:Value->Shared->Prop} (I:Inv X pins σ H s) (hg:Gl X x) (hm:X.mg x=some u) (h:Q u s)
  (hd:(x==("__debug__":Str))=false:=by decide):wpAny (model X.prog X.w) X.A (eval (.Name x pos) X.env) Q E s :=
 Calls.Name_function_global I.ok.kind hg (Calls.loadGlobal_global (by rw [I.ok.glob];exact I.mod.glob.keeps I.bk) hm h) hd
theorem Zb1 {E:Value->Shared->Prop} {pins:List (Addr×Obj)} {s:Shared} {σ:St} {H:Hp} {x:Str} {u:Value} {pos:Pos} {Q:Value->Shared->Prop} (I:Inv X pins σ H s) (hg:Gl X x) (hm:X.mg x=none) (hv:Qbe x=some u) (h:Q u s)
  (hn:x≠"__name__":=by decide) (hd:(x==("__debug__":Str))=false:=by decide):wpAny (model X.prog X.w) X.A (eval (.Name x pos) X.env) Q E s:=by
 obtain ⟨mb,h1,h2⟩:=I.mod.blt
 exact Calls.Name_function_global I.ok.kind hg (Calls.loadGlobal_builtin (by rw [I.ok.glob];exact I.mod.glob.keeps I.bk) hm (by rw [I.ok.blt];exact h1.keeps I.bk) ((h2 x hn).trans hv) h) hd
theorem ZgN {x:Str} {v:V} {u:Value} {pos:Pos} (hg:Gl X x) (hm:X.mg x=some u) (r:RelV v u) (hd:(x==("__debug__":Str))=false:=by decide):PE X (.Name x pos) (tC v) :=
 fun _ _ _ H _ I h=>ZeW I hg hm ⟨v,H,I,r,h⟩ hd
theorem Zmf {x:Str} {v:V} {u:Value} {pos:Pos} (hg:Gl X x) (hm:X.mg x=none) (hv:Qbe x=some u) (r:RelV v u) (hn:x≠"__name__":=by decide) (hd:(x==("__debug__":Str))=false:=by decide):PE X (.Name x pos) (tC v) :=
 fun _ _ _ H _ I h=>Zb1 I hg hm hv ⟨v,H,I,r,h⟩ hn hd
variable {a b:Expr} {ta tb:TE} {pos:Pos}
def PC (X:Cx) (op:CmpOp) (a b:Expr) (t:TE):Prop :=
 ∀ (pins:List (Addr×Obj)) (s:Shared) (σ:St) (H:Hp) (Q:VK),Inv X pins σ H s->t σ H Q ->
  wpAny (model X.prog X.w) X.A (eval a X.env) (fun v s₁=>wpAny (model X.prog X.w) X.A (eval b X.env) (fun u s₂=>wpAny (model X.prog X.w) X.A (QbG op v u) (EP X pins σ Q) X.xe s₂) X.xe s₁) X.xe s
theorem ZbQ (b:Expr) {op:CmpOp} (h:op≠.In) (h2:op≠.NotIn):QbZ op b=false:=by
 have e1:(op==CmpOp.In)=false:=by cases op<;>first | rfl | exact absurd rfl h
 have e2:(op==CmpOp.NotIn)=false:=by cases op<;>first | rfl | exact absurd rfl h2
 cases b<;>simp [QbZ,e1,e2]
def Zuy (ta:TE):TE:=fun σ H Q=>ta σ H fun x H1=>Q (.bl (decide (x=.non))) H1
theorem RelV.none_iff {x:V} {v:Value} (r:RelV x v):(v==Qbl)=decide (x=.non):=by
 cases x with
 | non=>cases r;rfl
 | bl _=>cases r;rfl
 | int _=>obtain ⟨t,rfl⟩:=r;rfl
 | str _=>obtain ⟨t,rfl⟩:=r;rfl
 | byt _=>obtain ⟨t,rfl⟩:=r;rfl
 | flt _=>obtain ⟨t,rfl⟩:=r;rfl
 | ref _=>cases r;rfl
 | ty _=>cases r;rfl
theorem Zse {j pos'} (ha:PE X a ta):PC X .Is a (.Constant .none j pos') (Zuy ta):=by
 intro pins s σ H Q I h
 refine thn (ha pins s σ H _ I h) fun v s1 ⟨x,H1,I1,r1,q1⟩=>?_
 exact Constant_none (is_none_gen ⟨.bl _,H1,I1,by rw [r1.none_iff];rfl,q1⟩)
def tB (t:TE):TT:=fun σ H Q=>t σ H fun x H1=>∃ c,x=.bl c/\Q c H1
theorem Ztt {op:CmpOp} {t:TE} (h:PC X op a b t) (h1:QbZ op b=false:=by first | exact ZbQ _ (by decide) (by decide) | rfl):PT X (.Compare a [op] [b] pos) (tB t):=by
 intro pins s σ H Q I hw
 refine wpAny_isTrue_Compare1 (thn (h pins s σ H _ I hw) fun v s1 h1=>thn h1 fun u s2 h2=>thn h2 fun c s3 ⟨x,H1,I1,r1,q1⟩=>?_) h1
 obtain ⟨d,rfl,q⟩:=q1
 cases r1
 exact QbD ⟨H1,I1,q⟩
variable {tA tB':TT} {Zaa:List Expr}
def tOr (t u:TT):TT:=fun σ H Q=>t σ H fun c H1=>if c=true then Q true H1 else u σ H1 Q
def ZuC (t:TT):TT:=fun σ H Q=>t σ H fun c H1=>Q (!c) H1
theorem ZsV (ha:PT X a tA):PW X (.BoolOp .Or [a] pos) tA:=by
 intro wh pins s σ H Q I h
 refine isTrue_or (thn (ha pins s σ H Q I h) fun c s1 e=>?_)
 cases c with
 | false=>exact isTrue_or_nil e
 | true=>exact e
theorem Zt8 (ha:PT X a tA) (hb:PW X (.BoolOp .Or (b::Zaa) pos) tB'):PW X (.BoolOp .Or (a::b::Zaa) pos) (tOr tA tB'):=by
 intro wh pins s σ H Q I h
 refine isTrue_or (thn (ha pins s σ H _ I h) fun c s1 ⟨H1,I1,q1⟩=>?_)
 cases c with
 | true=>exact ⟨H1,I1,q1⟩
 | false=>exact hb wh pins s1 σ H1 Q I1 q1
theorem ZtH (ha:PT X a tA):PT X (.UnaryOp .Not a pos) (ZuC tA):=by
 intro pins s σ H Q I h
 exact isTrue_not (ha pins s σ H (fun c H1=>Q (!c) H1) I h)
def Zt1 (ta tb:TE):TE:=fun σ H Q=>ta σ H fun x H1=>∃ c,x=.bl c/\if c=true then tb σ H1 Q else Q (.bl false) H1
def Zur (ta:TE):TE:=fun σ H Q=>ta σ H fun x H1=>∃ c,x=.bl c/\Q (.bl (!c)) H1
theorem Zs4 {op} {t:TE} (h:PE X a t):PE X (.BoolOp op [a] pos) t:=fun pins s σ H Q I hw=>BoolOp_one (h pins s σ H Q I hw)
theorem ZrX (ha:PE X a ta) (hb:PE X (.BoolOp .And (b::Zaa) pos) tb):PE X (.BoolOp .And (a::b::Zaa) pos) (Zt1 ta tb):=by
 intro pins s σ H Q I h
 refine BoolOp_and (thn (ha pins s σ H _ I h) fun v s1 ⟨x,H1,I1,r1,q1⟩=>?_)
 obtain ⟨c,rfl,q1⟩:=q1
 cases r1
 refine QbD ?_
 cases c with
 | true=>exact hb pins s1 σ H1 Q I1 q1
 | false=>exact ⟨.bl false,H1,I1,rfl,q1⟩
theorem Zto (ha:PE X a ta):PE X (.UnaryOp .Not a pos) (Zur ta):=by
 intro pins s σ H Q I h
 refine UnaryOp_ (thn (ha pins s σ H _ I h) fun v s1 ⟨x,H1,I1,r1,q1⟩=>?_)
 obtain ⟨c,rfl,q1⟩:=q1
 cases r1
 exact not_of (QbD ⟨.bl (!c),H1,I1,rfl,q1⟩)
def tIf (t:TT) (ta tb:TE):TE:=fun σ H Q=>t σ H fun c H1=>if c=true then ta σ H1 Q else tb σ H1 Q
theorem Zo3 {c:Expr} (hc:PT X c tA) (ha:PE X a ta) (hb:PE X b tb):PE X (.IfExp c a b pos) (tIf tA ta tb):=by
 intro pins s σ H Q I h
 refine wpAny_IfExp (thn (hc pins s σ H _ I h) fun d s1 ⟨H1,I1,q1⟩=>?_)
 cases d with
 | true=>exact ha pins s1 σ H1 Q I1 q1
 | false=>exact hb pins s1 σ H1 Q I1 q1
end
end L2
namespace L2
open PySem PySem.Spec PyProof.Rows
def SqL (K:Qab) (H:Hp) (a:Addr) (xs:List V):Prop :=
 Rd H a (.lst xs) \/
  ∃ (o:Obj) (its:Array Value) (n:Nat),K.lookup a=some o/\o.cls=.type "list"/\o.dict=none/\o.data=.seq its n/\its.size<=Qaj/\Vals xs its.toList
def SqT (K:Qab) (H:Hp) (a:Addr) (xs:List V):Prop :=
 Rd H a (.tup xs) \/
  ∃ (o:Obj) (its:Array Value) (n:Nat),K.lookup a=some o/\o.cls=.type "tuple"/\o.data=.seq its n/\its.size<=Qaj/\Vals xs its.toList
def ZuX:Value->Option V
 | .none=>some .non
 | .bool b=>some (.bl b)
 | .int i _=>some (.int i)
 | .str x _=>some (.str x)
 | .bytes b _=>some (.byt b)
 | .float b _=>some (.flt b)
 | .ref a=>some (.ref a)
 | .type n=>some (.ty n)
 | _=>none
theorem RelV.abs {x:V} {u:Value} (r:RelV x u):ZuX u=some x:=by
 cases x with
 | non=>cases r;rfl
 | bl _=>cases r;rfl
 | int _=>obtain ⟨t,rfl⟩:=r;rfl
 | str _=>obtain ⟨t,rfl⟩:=r;rfl
 | byt _=>obtain ⟨t,rfl⟩:=r;rfl
 | flt _=>obtain ⟨t,rfl⟩:=r;rfl
 | ref _=>cases r;rfl
 | ty _=>cases r;rfl
theorem RelV.inj {x y:V} {u:Value} (r:RelV x u) (q:RelV y u):x=y:=Qbr (r.abs.symm.trans q.abs)
theorem Vals.inj:∀ {xs ys:List V} {us:List Value},Vals xs us->Vals ys us->xs=ys
 | _,_,_,.nil,.nil=>rfl
 | _,_,_,.cons r t,.cons r' t'=>by rw [r.inj r',Vals.inj t t']
section
variable {X:Cx} {pins:List (Addr×Obj)} {σ:St} {H:Hp} {s:Shared} {a:Addr} {xs ys:List V}
theorem SqL.of {K:Qab} (h:H a=some (.lst xs)):SqL K H a xs:=.inl (.inl h)
theorem SqT.of {K:Qab} (h:H a=some (.tup xs)):SqT K H a xs:=.inl (.inl h)
theorem Inv.list (I:Inv X pins σ H s) (h:SqL X.K H a xs):∃ its:List Value,Vals xs its/\PlainL s.heap a its.toArray/\xs.length<=Qaj:=by
 rcases h with h | ⟨o,its,n,hk,hc,hd,hs,hz,r⟩
 ·obtain ⟨z,its,n,r,e⟩:=h.ok I.hok
  exact ⟨its,r,⟨_,n,e,rfl,rfl,rfl⟩,z⟩
 ·refine ⟨its.toList,r,⟨o,n,I.kIn a o hk,hc,hd,by simpa using hs⟩,?_⟩
  have e:=r.length
  simp only [Qbo] at e
  omega
theorem Inv.tuple (I:Inv X pins σ H s) (h:SqT X.K H a xs):∃ its:List Value,Vals xs its/\IsTup s.heap a its.toArray/\xs.length<=Qaj:=by
 rcases h with h | ⟨o,its,n,hk,hc,hs,hz,r⟩
 ·obtain ⟨z,its,r,p⟩:=h.ok I.hok
  exact ⟨its,r,p,z⟩
 ·refine ⟨its.toList,r,⟨o,I.kIn a o hk,hc,n,by simpa using hs⟩,?_⟩
  have e:=r.length
  simp only [Qbo] at e
  omega
theorem Inv.list_inj (I:Inv X pins σ H s) (h:SqL X.K H a xs) (h':SqL X.K H a ys):xs=ys:=by
 obtain ⟨its,r,⟨o,n,e,_,_,d⟩,_⟩:=I.list h
 obtain ⟨its',r',⟨o',n',e',_,_,d'⟩,_⟩:=I.list h'
 rw [e] at e';cases e'
 rw [d] at d'
 injection d' with d1 _
 have:its=its':=by simpa using congrArg Array.toList d1
 subst this
 exact r.inj r'
theorem Inv.tuple_inj (I:Inv X pins σ H s) (h:SqT X.K H a xs) (h':SqT X.K H a ys):xs=ys:=by
 obtain ⟨its,r,⟨o,e,_,n,d⟩,_⟩:=I.tuple h
 obtain ⟨its',r',⟨o',e',_,n',d'⟩,_⟩:=I.tuple h'
 rw [e] at e';cases e'
 rw [d] at d'
 injection d' with d1 _
 have:its=its':=by simpa using congrArg Array.toList d1
 subst this
 exact r.inj r'
end
abbrev Cx.wish (X:Cx) (E:Value->Shared->Prop):Cx:={ X with xe:=E }
abbrev Cx.nox (X:Cx):Cx:=X.wish fun _ _=>False
theorem Cx.Ok.wish {X:Cx} (ok:X.Ok) (E:Value->Shared->Prop):(X.wish E).Ok :=
 ⟨ok.mod,ok.kind,ok.glob,ok.blt,ok.above,ok.inj,ok.has,ok.cab,ok.hd,ok.frames,ok.stk,ok.exf,ok.bs,ok.bsz,ok.noex,ok.exfs,ok.funs,ok.frf⟩
theorem Cx.Ok.unwish {X:Cx} {E:Value->Shared->Prop} (ok:(X.wish E).Ok):X.Ok :=
 ⟨ok.mod,ok.kind,ok.glob,ok.blt,ok.above,ok.inj,ok.has,ok.cab,ok.hd,ok.frames,ok.stk,ok.exf,ok.bs,ok.bsz,ok.noex,ok.exfs,ok.funs,ok.frf⟩
section
variable {X:Cx} {pins:List (Addr×Obj)} {σ:St} {H:Hp} {s:Shared} {E:Value->Shared->Prop}
theorem Inv.wish (I:Inv X pins σ H s) (E:Value->Shared->Prop):Inv (X.wish E) pins σ H s:=⟨I.ok.wish E,I.os,I.bare,I.base,I.loc,I.cell,I.free,I.freeC,I.pin,I.hok,I.len⟩
theorem Inv.unwish (I:Inv (X.wish E) pins σ H s):Inv X pins σ H s:=⟨I.ok.unwish,I.os,I.bare,I.base,I.loc,I.cell,I.free,I.freeC,I.pin,I.hok,I.len⟩
theorem SP.unwish {D:Ends} {f:Flow} {s':Shared} (h:SP (X.wish E) pins D f s'):SP X pins D f s':=by
 cases f with
 | next=>obtain ⟨σ',H',I,q⟩:=h;exact ⟨σ',H',I.unwish,q⟩
 | brk=>obtain ⟨σ',H',I,q⟩:=h;exact ⟨σ',H',I.unwish,q⟩
 | cont=>obtain ⟨σ',H',I,q⟩:=h;exact ⟨σ',H',I.unwish,q⟩
 | ret u=>obtain ⟨v,σ',H',I,r,q⟩:=h;exact ⟨v,σ',H',I.unwish,r,q⟩
theorem PE.nox {e:Expr} {t:TE} (h:PE X.nox e t):PE X e t:=fun pins s σ H Q I hw =>
 Qbp (h pins s σ H Q (I.wish _) hw) (fun _ _ ⟨v,H',I',r,q⟩=>⟨v,H',I'.unwish,r,q⟩) fun _ _ z=>QaJ z
theorem PT.nox {e:Expr} {t:TT} (h:PT X.nox e t):PT X e t:=fun pins s σ H Q I hw =>
 Qbp (h pins s σ H Q (I.wish _) hw) (fun _ _ ⟨H',I',q⟩=>⟨H',I'.unwish,q⟩) fun _ _ z=>QaJ z
theorem PSs.nox {st:List Stmt} {t:TS} (h:PSs X.nox st t):PSs X st t:=fun pins s σ H D I hw =>
 Qbp (h pins s σ H D (I.wish _) hw) (fun _ _ q=>q.unwish) fun _ _ z=>QaJ z
end
section
variable {X:Cx} {st:Stmt} {Zaa:List Stmt} {t u:TS} {e:Expr} {te:TE} {pos:Pos}
def Zt2:TS:=fun D σ H=>D.nx σ H
def ZuV (t u:TS):TS:=fun D σ H=>t { D with nx:=u D } σ H
theorem pss_nil:PSs X [] Zt2:=fun _ _ σ H _ I h=>wpAny_execs_nil ⟨σ,H,I,h⟩
theorem Zpr (h1:PS X st t) (h2:PSs X Zaa u):PSs X (st::Zaa) (ZuV t u):=by
 intro pins s σ H D I h
 refine wpAny_execs_cons (thn (h1 pins s σ H { D with nx:=u D } I h) fun f s1 q=>?_)
 cases f with
 | next =>
  obtain ⟨σ',H',I',q⟩:=q
  exact h2 pins s1 σ' H' D I' q
 | ret v=>exact q
 | brk=>exact q
 | cont=>exact q
theorem Inv.quiet {pins:List (Addr×Obj)} {σ:St} {H:Hp} {s:Shared} (I:Inv X pins σ H s):interactive X.env=false:=by simp [interactive,I.ok.kind]
def Zuf (te:TE):TS:=fun D σ H=>te σ H fun _ H1=>D.nx σ H1
theorem Zic (he:PE X e te) (hs:swapsWith e none pos.line X.env=pure false:=by rfl):PS X (.Expr e pos) (Zuf te):=by
 intro pins s σ H D I h
 exact wpAny_Expr_any (thn (he pins s σ H _ I h) fun v s1 ⟨x,H1,I1,r1,q1⟩=>⟨σ,H1,I1,q1⟩) I.quiet hs
def Zu4 (te:TE):TS:=fun D σ H=>te σ H D.rt
theorem ZhD (he:PE X e te):PS X (.Return (some e) pos) (Zu4 te):=by
 intro pins s σ H D I h
 exact wpAny_Return_some (thn (he pins s σ H _ I h) fun v s1 ⟨x,H1,I1,r1,q1⟩=>⟨x,σ,H1,I1,r1,q1⟩)
def ZuR (c:TT) (t u:TS):TS:=fun D σ H=>c σ H fun b H1=>if b=true then t D σ H1 else u D σ H1
theorem ZtL {c:Expr} {a b:List Stmt} {tc:TT} (hc:PT X c tc) (ha:PSs X a t) (hb:PSs X b u):PS X (.If c a b pos) (ZuR tc t u):=by
 intro pins s σ H D I h
 refine wpAny_If (thn (hc pins s σ H _ I h) fun d s1 ⟨H1,I1,q1⟩=>?_)
 cases d with
 | true=>exact ha pins s1 σ H1 D I1 q1
 | false=>exact hb pins s1 σ H1 D I1 q1
end
abbrev TG:=V->St->Hp->(St->Hp->Prop)->Prop
abbrev TGs:=List V->St->Hp->(St->Hp->Prop)->Prop
def PG (X:Cx) (target:Expr) (t:TG):Prop :=
 ∀ (pins:List (Addr×Obj)) (s:Shared) (σ:St) (H:Hp) (v:V) (u:Value) (Q:St->Hp->Prop),Inv X pins σ H s->RelV v u->t v σ H Q ->
  wpAny (model X.prog X.w) X.A (assign target X.env u) (fun _ s'=>∃ σ' H',Inv X pins σ' H' s'/\Q σ' H') X.xe s
def PGs (X:Cx) (ts:List Expr) (t:TGs):Prop :=
 ∀ (pins:List (Addr×Obj)) (s:Shared) (σ:St) (H:Hp) (vs:List V) (us:List Value) (Q:St->Hp->Prop),Inv X pins σ H s->Vals vs us->t vs σ H Q ->
  wpAny (model X.prog X.w) X.A (assignInOrder ((QbS ts X.env).map (·.2)) us) (fun _ s'=>∃ σ' H',Inv X pins σ' H' s'/\Q σ' H') X.xe s
abbrev ZmU:=V->V->V->Hp->(Hp->Prop)->Prop
def Zr5 (X:Cx) (t:ZmU):Prop :=
 ∀ (pins:List (Addr×Obj)) (s:Shared) (σ:St) (H:Hp) (o i v:V) (ov iv u:Value) (Q:Hp->Prop),Inv X pins σ H s->RelV o ov->RelV i iv->RelV v u->t o i v H Q ->
  wpAny (model X.prog X.w) X.A (setItem ov iv u) (fun _ s'=>∃ H',Inv X pins σ H' s'/\Q H') X.xe s
section
variable {X:Cx} {pos:Pos}
def Zhx (i:Nat):TG:=fun v σ H Q=>Q (σ.set i (some v)) H
theorem ZqN {i:Nat} {x:Str} (hN:X.N.Nodup) (hi:X.N[i]?=some x) (hx:Loc X.env.scope x) (hf:X.fn x=true\/X.env.scope.names.lookup x=some .local:=by first | exact .inl rfl | exact .inr rfl | assumption):PG X (.Name x pos) (Zhx i):=by
 intro pins s σ H v u Q I r h
 exact wpAny_assign_Name (Zho I hN hi hx r (fun s' I'=>⟨_,H,I',h⟩) hf)
def ZuT:TGs:=fun vs σ H Q=>vs=[]/\Q σ H
def Zua (t:TG) (u:TGs):TGs:=fun vs σ H Q=>∃ v r,vs=v::r/\t v σ H fun σ' H'=>u r σ' H' Q
theorem Zrx:PGs X [] ZuT:=by
 intro pins s σ H vs us Q I r h
 obtain ⟨e,h⟩:=h
 subst e
 cases r
 exact assignInOrder_nil ⟨σ,H,I,h⟩
theorem Zqb {e:Expr} {es:List Expr} {t:TG} {u:TGs} (h1:PG X e t) (h2:PGs X es u)
  (hs:(QbS (e::es) X.env).map (·.2)=assign e X.env::(QbS es X.env).map (·.2):=by rfl):PGs X (e::es) (Zua t u):=by
 intro pins s σ H vs us Q I r h
 obtain ⟨v,vr,e1,h⟩:=h
 subst e1
 cases r with
 | cons r rr =>
  rw [hs]
  refine assignInOrder_cons (thn (h1 pins s σ H _ _ _ I r h) fun _ s1 ⟨σ1,H1,I1,q1⟩=>?_)
  exact h2 pins s1 σ1 H1 _ _ Q I1 rr q1
def ZuD (K:Qab) (n:Nat) (t:TGs):TG:=fun v σ H Q=>∃ a xs,v=.ref a/\SqT K H a xs/\xs.length=n/\t xs σ H Q
theorem Zsh {es:List Expr} {k:Nat} {t:TGs} {n:Nat} (hc:X.calm=true) (h:PGs X es t)
  (hn:(QbS es X.env).length=n:=by rfl) (hst:(QbS es X.env).findIdx? (·.1)=none:=by rfl):PG X (.Tuple es k pos) (ZuD X.K n t):=by
 intro pins s σ H v u Q I r hw
 obtain ⟨a,xs,e1,hq,hl,hw⟩:=hw
 subst e1
 cases r
 obtain ⟨its,rv,ht,hz⟩:=I.tuple hq
 refine assign_Tuple_tuple (I.ok.hd hc) ht (by simp [hn,<- hl,rv.length]) hst fun h' hx=>?_
 have I1:Inv X pins σ H { s with heap:=h' }:=I.kept (t':=s.toks) fun b o e=>hx b o (QaL (Qaq e)) e
 exact h pins _ σ H xs _ Q I1 (by simpa using rv) hw
def Zu3 (to ti:TE) (t:ZmU):TG:=fun v σ H Q=>to σ H fun o H1=>ti σ H1 fun i H2=>t o i v H2 fun H3=>Q σ H3
theorem Zs5 {o i:Expr} {to ti:TE} {t:ZmU} (ho:PE X o to) (hi:PE X i ti) (hs:Zr5 X t)
  (ha:∀ v,assign (.Subscript o i pos) X.env v=(do
   let ov <- holding [v] (eval o X.env)
   let iv <- holding [v,ov] (eval i X.env)
   standAt pos
   holding [v,ov,iv] (setItem ov iv v)
   release [v,ov,iv] []):=by intro _;rfl):PG X (.Subscript o i pos) (Zu3 to ti t):=by
 intro pins s σ H v u Q I r h
 rw [ha]
 refine Qaa (Qa6 (thn (ho pins s σ H _ I h) fun ov s1 ⟨x,H1,I1,r1,q1⟩=>?_))
 refine Qaa (Qa6 (thn (hi pins s1 σ H1 _ I1 q1) fun iv s2 ⟨y,H2,I2,r2,q2⟩=>?_))
 refine Qaa (wpAny_standAt (Qaa (Qa6 (thn (hs pins s2 σ H2 x y v ov iv u _ I2 r1 r2 r q2) fun _ s3 ⟨H3,I3,q3⟩=>?_))))
 exact wpAny_release ⟨σ,H3,I3,q3⟩
def Zkg (te:TE) (g:TG):TS:=fun D σ H=>te σ H fun x H1=>g x σ H1 D.nx
theorem ZnE {tg e:Expr} {te:TE} {g:TG} (he:PE X e te) (hg:PG X tg g) (hs:swapsWithSole [tg] e pos.line X.env=pure false:=by rfl) (hw:swappedStores [tg] e X.env=pure none:=by rfl)
  (h1:(QbS [tg] X.env).map (·.2)=[assign tg X.env]:=by rfl):PS X (.Assign [tg] e pos) (Zkg te g):=by
 intro pins s σ H D I h
 refine wpAny_Assign_stores (thn (he pins s σ H _ I h) fun v s1 ⟨x,H1,I1,r1,q1⟩=>?_) hs hw
 rw [h1]
 exact thn (hg pins s1 σ H1 x v _ I1 r1 q1) fun _ s2 q=>q
theorem Zj1 {i:Nat} {x:Str} {e:Expr} {te:TE} {pos':Pos} (hN:X.N.Nodup) (hi:X.N[i]?=some x) (hx:Loc X.env.scope x) (he:PE X e te) (hs:swapsWith e (some (.Name x pos')) pos.line X.env=pure false:=by rfl) (hf:X.fn x=true\/X.env.scope.names.lookup x=some .local:=by first | exact .inl rfl | exact .inr rfl | assumption) :
  PS X (.Assign [.Name x pos'] e pos) (Zkg te (Zhx i)):=by
 intro pins s σ H D I h
 refine wpAny_Assign_Name (thn (he pins s σ H _ I h) fun v s1 ⟨y,H1,I1,r1,q1⟩=>?_) hs
 exact Zho I1 hN hi hx r1 (fun s2 I2=>⟨_,H1,I2,q1⟩) hf
end
section
variable {X:Cx} {pos:Pos}
end
structure It where
 go:Nat->Hp->Prop
 yld:Nat->Hp->V->Hp->Prop
 stop:Nat->Hp->Prop
def Zc3 (X:Cx) (pins:List (Addr×Obj)) (H:Hp) (b:Addr):Prop :=
 H b=none/\b≠X.env.locals/\b∉X.fs/\(b∈X.ex\/X.s₀.heap.objs.size<=b)/\(∀ x c,X.env.cells.lookup x=some c->c≠b)/\∀ p∈X.pn++pins,p.1≠b
theorem Inv.fpOk {X:Cx} {pins:List (Addr×Obj)} {σ:St} {H H':Hp} {s:Shared} {b:Addr} (I:Inv X pins σ H s) (hb:s.heap.objs.size<=b) (hn:H' b=none):Zc3 X pins H' b:=by
 refine ⟨hn,Qbv (Qay I.lt hb),I.nofs hb,.inr (QaP I.sz hb),fun x c e z=>?_,fun p hp z=>?_⟩
 ·obtain ⟨v,q⟩:=I.cell x c e
  exact absurd (Qay q.lt (by rw [z];exact hb)) (Qbu _)
 ·exact absurd (Qay (Qaq (I.pin p hp).1) (by rw [z];exact hb)) (Qbu _)
structure ZeQ (P:Qav) (w:World) (K:Qab) (tg:Expr) (J:It) (fp:List Addr) (it:Addr) (tn:Nat->Heap->Prop):Prop where
 mem:it∈fp
 obj:∀ i h,tn i h->∀ b∈fp,∃ o,h.get? b=some o/\∀ v,o.data≠.cell v
 keep:∀ i h h',tn i h->(∀ b∈fp,∀ o,h.get? b=some o->h'.get? b=some o)->tn i h'
 item:∀ (X:Cx),X.prog=P->X.w=w->X.K=K->X.calm=true->∀ (i:Nat) (pins:List (Addr×Obj)) (s:Shared) (σ:St) (H:Hp) (E:Value->Shared->Prop),Inv X pins σ H s->(∀ b∈fp,Zc3 X pins H b)->tn i s.heap->J.go i H ->
  wpAny (model P w) X.A (pyNext (.ref it)) (fun r s1=>∃ u,r=some u /\
   wpAny (model P w) X.A (Qcc tg (.ref it) u) (fun _ s2=>∃ x H',Inv X pins σ H' s2/\RelV x u/\J.yld i H x H'/\tn (i+1) s2.heap/\∀ b∈fp,H' b=none) E s1) E s
 done:∀ (X:Cx),X.prog=P->X.w=w->X.K=K->X.calm=true->∀ (i:Nat) (pins:List (Addr×Obj)) (s:Shared) (σ:St) (H:Hp) (E:Value->Shared->Prop),Inv X pins σ H s->(∀ b∈fp,Zc3 X pins H b)->tn i s.heap->J.stop i H ->
  wpAny (model P w) X.A (pyNext (.ref it)) (fun r s1=>r=none/\Inv X pins σ H s1) E s
 self:∀ (A:Around) (i:Nat) (s:Shared) (Q:Value->Shared->Prop) (E:Value->Shared->Prop),tn i s.heap->Q (.ref it) s->wpAny (model P w) A (pyIter (.ref it)) Q E s
abbrev TI:=St->Hp->(It->Hp->Prop)->Prop
def PIE (X:Cx) (pins:List (Addr×Obj)) (σ:St) (tg:Expr) (R:It->Hp->Prop) (itv:Value) (s2:Shared):Prop :=
 ∃ (it:Addr) (fp:List Addr) (tn:Nat->Heap->Prop) (J:It) (H':Hp),itv=.ref it/\Inv X pins σ H' s2/\ZeQ X.prog X.w X.K tg J fp it tn/\tn 0 s2.heap/\(∀ b∈fp,Zc3 X pins H' b)/\R J H'
def PI (X:Cx) (tg iter:Expr) (wi:TI):Prop :=
 ∀ (pins:List (Addr×Obj)) (s:Shared) (σ:St) (H:Hp) (R:It->Hp->Prop),Inv X pins σ H s->wi σ H R ->
  wpAny (model X.prog X.w) X.A (eval iter X.env) (fun v s1=>wpAny (model X.prog X.w) X.A (pyIter v) (PIE X pins σ tg R) X.xe s1) X.xe s
theorem ZhO {M:Model} {A:Around} {E:Value->Shared->Prop} {s:Shared} {tg:Expr} {it:Addr} {u:Value} {o:Obj} {n:String} {vs:Array Value} {Q:Unit->Shared->Prop} (ho:s.heap.get? it=some o) (hc:o.cls=.type n) (hd:o.data=.fields vs)
  (hn:["enumerate","zip","dict_itemiterator","dict_reverseitemiterator","odict_iterator","itertools.zip_longest","itertools.pairwise"].contains n=false) (hQ:Q () s):wpAny M A (Qcc tg (.ref it) u) Q E s:=by
 unfold Qcc
 cases tg<;>first
  | exact Qae hQ
  | (cases u<;>first
    | exact Qae hQ
    | (refine Qaa (wpAny_load ho ?_)
       rw [hc,hd]
       show wpAny M A (if (["enumerate","zip","dict_itemiterator","dict_reverseitemiterator","odict_iterator","itertools.zip_longest","itertools.pairwise"].contains n&&vs[0]?==some (rawInt _))=true then _ else _) Q E s
       rw [if_neg (by intro h;rw [hn,Bool.false_and] at h;cases h)]
       exact Qae hQ))
def Itl (K:Qab) (a:Addr):It :=
 ⟨fun i H=>∃ xs x,SqL K H a xs/\xs[i]?=some x,fun i H x H'=>H'=H/\∀ xs,SqL K H a xs->xs[i]?=some x,fun i H=>∃ xs,SqL K H a xs/\xs.length<=i⟩
def Itt (K:Qab) (a:Addr):It :=
 ⟨fun i H=>∃ xs x,SqT K H a xs/\xs[i]?=some x,fun i H x H'=>H'=H/\∀ xs,SqT K H a xs->xs[i]?=some x,fun i H=>∃ xs,SqT K H a xs/\xs.length<=i⟩
def Itr (lo:Int) (n:Nat):It:=⟨fun i _=>i<n,fun i H x H'=>H'=H/\x=.int (lo+i),fun i _=>n<=i⟩
theorem ZoQ {P:Qav} {w:World} {K:Qab} {tg:Expr} (a it:Addr):ZeQ P w K tg (Itl K a) [it] it (fun i h=>h.IsListIter it a i) where
 mem:=by simp
 obj:=fun i h st b hb=>by
  have e:b=it:=by simpa using hb
  subst e
  obtain ⟨o,e,c,d⟩:=st
  exact ⟨o,e,fun v z=>by rw [d] at z;cases z⟩
 keep:=fun i h h' st k=>st.at fun o e=>k it (by simp) o e
 item:=by
  intro X hP hw hK hc i pins s σ H E I hf st hg
  subst hP hw hK
  obtain ⟨xs,x,hq,hx⟩:=hg
  obtain ⟨its,rv,p,hz⟩:=I.list hq
  obtain ⟨u,hu,ru⟩:=rv.get hx
  obtain ⟨f0,f1,f2,f3,f4,f5⟩:=hf it (by simp)
  refine wpAny_pyNext_list_item st p.isList (x:=u) (by simpa using hu) fun h' st' sb=>?_
  have I1:Inv X pins σ H { s with heap:=h' }:=I.turned (t':=s.toks) (fun b o hb e=>(sb.2 b hb).trans e) f0 f1 f3 f4 f5
  obtain ⟨o,e,c,d⟩:=id st'
  exact ⟨u,rfl,ZhO (s:={ s with heap:=h' }) e c d (by decide) ⟨x,H,I1,ru,⟨rfl,fun ys hy=>by rw [I.list_inj hy hq];exact hx⟩,st',fun b hb=>(hf b hb).1⟩⟩
 done:=by
  intro X hP hw hK hc i pins s σ H E I hf st hg
  subst hP hw hK
  obtain ⟨xs,hq,hx⟩:=hg
  obtain ⟨its,rv,p,hz⟩:=I.list hq
  obtain ⟨f0,f1,f2,f3,f4,f5⟩:=hf it (by simp)
  have hl:=rv.length
  exact wpAny_pyNext_list_end (I.ok.hd hc) st p.isList (by simp;omega) fun h' eb=>⟨rfl,I.turned (t':=s.toks) (fun b o hb e=>eb b o hb e) f0 f1 f3 f4 f5⟩
 self:=fun _ _ _ _ _ st h=>wpAny_pyIter_listiter st h
theorem ZmB {P:Qav} {w:World} {K:Qab} {tg:Expr} (a it:Addr):ZeQ P w K tg (Itt K a) [it] it (fun i h=>h.IsTupleIter it a i) where
 mem:=by simp
 obj:=fun i h st b hb=>by
  have e:b=it:=by simpa using hb
  subst e
  obtain ⟨o,e,c,d⟩:=st
  exact ⟨o,e,fun v z=>by rw [d] at z;cases z⟩
 keep:=fun i h h' st k=>st.at fun o e=>k it (by simp) o e
 item:=by
  intro X hP hw hK hc i pins s σ H E I hf st hg
  subst hP hw hK
  obtain ⟨xs,x,hq,hx⟩:=hg
  obtain ⟨its,rv,p,hz⟩:=I.tuple hq
  obtain ⟨u,hu,ru⟩:=rv.get hx
  obtain ⟨f0,f1,f2,f3,f4,f5⟩:=hf it (by simp)
  refine wpAny_pyNext_tuple_item st (show s.heap.IsTuple a its.toArray from p) (x:=u) (by simpa using hu) fun h' st' sb=>?_
  have I1:Inv X pins σ H { s with heap:=h' }:=I.turned (t':=s.toks) (fun b o hb e=>(sb.2 b hb).trans e) f0 f1 f3 f4 f5
  obtain ⟨o,e,c,d⟩:=id st'
  exact ⟨u,rfl,ZhO (s:={ s with heap:=h' }) e c d (by decide) ⟨x,H,I1,ru,⟨rfl,fun ys hy=>by rw [I.tuple_inj hy hq];exact hx⟩,st',fun b hb=>(hf b hb).1⟩⟩
 done:=by
  intro X hP hw hK hc i pins s σ H E I hf st hg
  subst hP hw hK
  obtain ⟨xs,hq,hx⟩:=hg
  obtain ⟨its,rv,p,hz⟩:=I.tuple hq
  obtain ⟨f0,f1,f2,f3,f4,f5⟩:=hf it (by simp)
  have hl:=rv.length
  exact wpAny_pyNext_tuple_end (I.ok.hd hc) st (show s.heap.IsTuple a its.toArray from p) (by simp;omega) fun h' eb=>⟨rfl,I.turned (t':=s.toks) (fun b o hb e=>eb b o hb e) f0 f1 f3 f4 f5⟩
 self:=fun _ _ _ _ _ st h=>wpAny_pyIter_tupleiter st h
theorem ZmV {P:Qav} {w:World} {K:Qab} {tg:Expr} (it:Addr) (lo:Int) (n:Nat):ZeQ P w K tg (Itr lo n) [it] it (fun i h=>IsRangeIter h it (lo+(i:Nat) * 1) ((n:Int)-(i:Nat)) 1) where
 mem:=by simp
 obj:=fun i h st b hb=>by
  have e:b=it:=by simpa using hb
  subst e
  exact ⟨_,st,fun v z=>by
   have z':Data.fields _=QcA v:=z
   cases z'⟩
 keep:=fun i h h' st k=>k it (by simp) _ st
 item:=by
  intro X hP hw hK hc i pins s σ H E I hf st hg
  subst hP hw hK
  obtain ⟨f0,f1,f2,f3,f4,f5⟩:=hf it (by simp)
  have W:=Walks.range (prog:=X.prog) (w:=X.w) (I.ok.hd hc) it lo 1 n
  refine W.item i s _ _ hg st fun v h' tk hv st' kk=>?_
  obtain ⟨t,rfl⟩:=hv
  have I1:Inv X pins σ H { s with heap:=h',toks:=tk }:=I.turned (fun b o hb e=>kk b o (by simpa using hb) e) f0 f1 f3 f4 f5
  refine ⟨_,rfl,ZhO (s:={ s with heap:=h',toks:=tk }) (n:="range_iterator") st' rfl rfl (by decide) ⟨.int (lo+i),H,I1,⟨t,?_⟩,⟨rfl,rfl⟩,st',fun b hb=>(hf b hb).1⟩⟩
  rw [Int.mul_one]
 done:=by
  intro X hP hw hK hc i pins s σ H E I hf st hg
  subst hP hw hK
  obtain ⟨f0,f1,f2,f3,f4,f5⟩:=hf it (by simp)
  exact wpAny_pyNext_range_end (I.ok.hd hc) st (by have:n<=i:=hg;omega) fun h' eb=>⟨rfl,I.turned (t':=s.toks) (fun b o hb e=>eb b o hb e) f0 f1 f3 f4 f5⟩
 self:=fun _ _ _ _ _ st h=>wpAny_pyIter_rangeiter st h
end L2
namespace L2
open PySem PySem.Spec PyProof.Rows
section
variable {X:Cx} {tg:Expr}
def ZtW (K:Qab) (tl:TE):TI:=fun σ H R=>tl σ H fun x H1=>∃ a,x=.ref a/\(∃ xs,SqL K H1 a xs)/\R (Itl K a) H1
def ZuP (K:Qab) (tl:TE):TI:=fun σ H R=>tl σ H fun x H1=>∃ a,x=.ref a/\(∃ xs,SqT K H1 a xs)/\R (Itt K a) H1
theorem ZqU {l:Expr} {tl:TE} (hl:PE X l tl):PI X tg l (ZtW X.K tl):=by
 intro pins s σ H R I h
 refine thn (hl pins s σ H _ I h) fun v s1 ⟨x,H1,I1,r1,q1⟩=>?_
 obtain ⟨a,e,⟨xs,hq⟩,q⟩:=q1
 subst e
 cases r1
 obtain ⟨its,rv,p,hz⟩:=I1.list hq
 refine QcF p.isList ?_
 refine ⟨s1.heap.objs.size,[s1.heap.objs.size],_,_,H1,rfl,I1.kept (t':=s1.toks) fun b o e=>Qac _ e,ZoQ a _,⟨_,Qao _ rfl,rfl,rfl⟩,fun b hb=>?_,q⟩
 have e:b=s1.heap.objs.size:=by simpa using hb
 subst e
 exact I1.fpOk (Qau _) (I1.hok.fresh (Qau _))
theorem ZsZ {l:Expr} {tl:TE} (hl:PE X l tl):PI X tg l (ZuP X.K tl):=by
 intro pins s σ H R I h
 refine thn (hl pins s σ H _ I h) fun v s1 ⟨x,H1,I1,r1,q1⟩=>?_
 obtain ⟨a,e,⟨xs,hq⟩,q⟩:=q1
 subst e
 cases r1
 obtain ⟨its,rv,p,hz⟩:=I1.tuple hq
 refine wpAny_pyIter_tuple (show s1.heap.IsTuple a its.toArray from p) ?_
 refine ⟨s1.heap.objs.size,[s1.heap.objs.size],_,_,H1,rfl,I1.kept (t':=s1.toks) fun b o e=>Qac _ e,ZmB a _,⟨_,Qao _ rfl,rfl,rfl⟩,fun b hb=>?_,q⟩
 have e:b=s1.heap.objs.size:=by simpa using hb
 subst e
 exact I1.fpOk (Qau _) (I1.hok.fresh (Qau _))
theorem Zk9 {pins:List (Addr×Obj)} {σ:St} {H:Hp} {s:Shared} {R:It->Hp->Prop} {E:Value->Shared->Prop} {lo hi:Int} {t u v:Tok} {tk:Nat} (I:Inv X pins σ H s) (h1 : -(2^62)<=lo) (h2:lo<2^62) (h3 : -(2^62)<=hi) (h4:hi<2^62)
  (q:R (Itr lo (hi-lo).toNat) H):wpAny (model X.prog X.w) X.A (pyIter (.ref s.heap.objs.size)) (PIE X pins σ tg R) E { s with heap:=s.heap.push { cls:=.type "range",data:=.fields #[.int lo t,.int hi u,.int 1 v] },toks:=tk }:=by
 refine wpAny_pyIter_range (IsRange.new ..) (small_one h1 h2 h3 h4) ?_
 have I1:Inv X pins σ H { s with heap:=s.heap.push { cls:=.type "range",data:=.fields #[.int lo t,.int hi u,.int 1 v] },toks:=tk }:=I.kept fun b o e=>Qac _ e
 refine ⟨(s.heap.push { cls:=.type "range",data:=.fields #[.int lo t,.int hi u,.int 1 v] }).objs.size,[(s.heap.push { cls:=.type "range",data:=.fields #[.int lo t,.int hi u,.int 1 v] }).objs.size],_,_,H,rfl,
  I1.kept (t':=tk) fun b o e=>Qac _ e,ZmV _ lo (hi-lo).toNat,?_,fun b hb=>?_,q⟩
 ·have e1:lo+((0:Nat):Int) * 1=lo:=by simp
  have e2:(((hi-lo).toNat:Nat):Int)-((0:Nat):Int)=Builtin.Range.rangeSize lo hi 1:=by rw [rangeSize_one];split<;>omega
  show IsRangeIter _ _ (lo+((0:Nat):Int) * 1) ((((hi-lo).toNat:Nat):Int)-((0:Nat):Int)) 1
  rw [e1,e2]
  exact Qao _ rfl
 ·have e:b=(s.heap.push { cls:=.type "range",data:=.fields #[.int lo t,.int hi u,.int 1 v] }).objs.size:=by simpa using hb
  subst e
  exact I1.fpOk (Qau _) (I1.hok.fresh (Qau _))
def ZtS (ta:TA):TI:=fun σ H R=>ta σ H fun vs H1=>∃ j:Int,vs=[.int j] /\ -(2^62)<=j/\j<2^62/\R (Itr 0 j.toNat) H1
def Zt0 (ta:TA):TI:=fun σ H R=>ta σ H fun vs H1=>∃ i j:Int,vs=[.int i,.int j]/\(-(2^62)<=i/\i<2^62 /\ -(2^62)<=j/\j<2^62)/\R (Itr i (j-i).toNat) H1
theorem Zor {a:Expr} {ta:TA} {p pos:Pos} (hg:Gl X "range") (hm:X.mg "range"=none) (ha:PA X [a] ta) (hs:Qas [a] X.env=[(false,eval a X.env)]:=by rfl):PI X tg (.Call (.Name "range" p) [a] [] pos) (ZtS ta):=by
 intro pins s σ H R I h
 refine Call_ (Zb1 I hg hm boot_range (Qbi (thn (ha pos pins s σ H _ I h) fun us s1 ⟨vs,H1,I1,r1,q1⟩=>?_) hs rfl))
 obtain ⟨j,e,q1,q2,q⟩:=q1
 subst e
 cases r1 with
 | cons r rr =>
  cases rr
  obtain ⟨t,rfl⟩:=r
  exact call_range_1 (Zk9 I1 (by omega) (by omega) q1 q2 (by simpa using q))
theorem Zot {a b:Expr} {ta:TA} {p pos:Pos} (hg:Gl X "range") (hm:X.mg "range"=none) (ha:PA X [a,b] ta) (hs:Qas [a,b] X.env=[(false,eval a X.env),(false,eval b X.env)]:=by rfl) (hs2:Qas [b] X.env=[(false,eval b X.env)]:=by rfl) :
  PI X tg (.Call (.Name "range" p) [a,b] [] pos) (Zt0 ta):=by
 intro pins s σ H R I h
 refine Call_ (Zb1 I hg hm boot_range (Qbi (thn (ha pos pins s σ H _ I h) fun us s1 ⟨vs,H1,I1,r1,q1⟩=>?_) (by rw [hs,hs2]) (by rw [hs2];rfl)))
 obtain ⟨i,j,e,⟨q1,q2,q3,q4⟩,q⟩:=q1
 subst e
 cases r1 with
 | cons r rr =>
  cases rr with
  | cons r' rr =>
   cases rr
   obtain ⟨t,rfl⟩:=r
   obtain ⟨t',rfl⟩:=r'
   exact call_range_2 (Zk9 I1 q1 q2 q3 q4 q)
def Zsu (wi:TI) (g:TG) (tb:TS):TS:=fun D σ H=>wi σ H fun J H1=>∃ W:Nat->Nat->St->Hp->Prop,(∃ m,W 0 m σ H1)/\∀ i m σ H,W i m σ H ->
 (J.stop i H/\D.nx σ H)\/(J.go i H/\∃ N:St->Hp->Prop,(∀ σ' H',N σ' H'->∃ m',m'<m/\W (i+1) m' σ' H')/\∀ x H',J.yld i H x H'->g x σ H' fun σ2 H2=>tb { D with nx:=N,ct:=N,bk:=D.nx } σ2 H2)
def ZdX (fp:List Addr) (h:Heap):List (Addr×Obj):=fp.filterMap fun b=>(h.get? b).map fun o=>(b,o)
theorem ZdK {fp:List Addr} {h:Heap} {b:Addr} {o:Obj} (hb:b∈fp) (e:h.get? b=some o):(b,o)∈ZdX fp h:=List.mem_filterMap.mpr ⟨b,hb,by rw [e];rfl⟩
theorem ZiC {fp:List Addr} {h:Heap} {p:Addr×Obj} (hp:p∈ZdX fp h):p.1∈fp/\h.get? p.1=some p.2:=by
 obtain ⟨b,hb,e⟩:=List.mem_filterMap.mp hp
 cases q:h.get? b with
 | none=>rw [q] at e;cases e
 | some o =>
  rw [q] at e
  have e':(b,o)=p:=Qbr e
  subst e'
  exact ⟨hb,q⟩
theorem Inv.pinned {pins:List (Addr×Obj)} {σ:St} {H:Hp} {s:Shared} {fp:List Addr} (I:Inv X pins σ H s) (hf:∀ b∈fp,Zc3 X pins H b) (ho:∀ b∈fp,∃ o,s.heap.get? b=some o/\∀ v,o.data≠.cell v):Inv X (pins++ZdX fp s.heap) σ H s :=
 I.pins_of fun p hp=>(List.mem_append.mp hp).elim (fun z=>I.pin p (Qax _ z)) fun z=>by
  obtain ⟨hb,e⟩:=ZiC z
  obtain ⟨f0,f1,f2,_⟩:=hf p.1 hb
  obtain ⟨o,e',d⟩:=ho p.1 hb
  rw [e] at e';cases e'
  exact ⟨e,f0,f1,f2,d⟩
theorem Inv.unpinned {pins pl:List (Addr×Obj)} {σ:St} {H:Hp} {s:Shared} (I:Inv X (pins++pl) σ H s):Inv X pins σ H s:=I.pins_of fun p hp=>I.pin p (Qax _ (QbR _ hp))
theorem ZsK {iter:Expr} {body:List Stmt} {wi:TI} {g:TG} {tb:TS} {pos:Pos} (hp:PassesOwn (model X.prog X.w) X.A X.env X.xe) (hc:X.calm=true) (hi:PI X tg iter wi) (hg:PG X tg g) (hb:PSs X body tb)
  (hs:∀ x,QcG iter X.env x=pure x:=by intro _;rfl):PS X (.For tg iter body [] pos) (Zsu wi g tb):=by
 intro pins s σ H D I h
 refine wpAny_For (thn (hi pins s σ H _ I h) fun v s1 h1=>thn h1 fun itv s2 h2=>?_) hs
 obtain ⟨it,fp,tn,J,H2,e,I2,T,st2,f2,W,⟨m0,w0⟩,turn⟩:=h2
 subst e
 -- what stays true of the iterator's objects through the loop
 have stat:∀ {H':Hp},(∀ b∈fp,H' b=none)->∀ b∈fp,Zc3 X pins H' b:=fun hn b hb=>⟨hn b hb,(f2 b hb).2⟩
 refine codeAny_forLoop_any (fun n s'=>∃ i σ' H',Inv X pins σ' H' s'/\tn i s'.heap/\(∀ b∈fp,H' b=none)/\W i n σ' H') ?_ m0 ⟨0,σ,H2,I2,st2,fun b hb=>(f2 b hb).1,w0⟩
 rintro n s3 ⟨i,σ3,H3,I3,st3,fr3,w3⟩
 rcases turn i n σ3 H3 w3 with ⟨stop,qn⟩ | ⟨go,N,hN,step⟩
 ·refine Qc1 hp (thn (T.done X rfl rfl rfl hc i pins s3 σ3 H3 X.xe I3 (stat fr3) st3 stop) fun r s4 ⟨hr,I4⟩=>?_)
  subst hr
  exact wpAny_execs_nil ⟨σ3,H3,I4,qn⟩
 ·refine Qc1 hp (thn (T.item X rfl rfl rfl hc i pins s3 σ3 H3 X.xe I3 (stat fr3) st3 go) fun r s4 ⟨u,hr,h4⟩=>?_)
  subst hr
  refine Qc1 hp (thn h4 fun _ s5 ⟨x,H5,I5,r5,y5,st5,fr5⟩=>?_)
  have I5':=I5.pinned (stat fr5) (T.obj _ _ st5)
  refine Qc1 hp (thn (hg _ s5 σ3 H5 x u _ I5' r5 (step x H5 y5)) fun _ s6 ⟨σ6,H6,I6,q6⟩=>?_)
  refine Qc1 hp (thn (hb _ s6 σ6 H6 _ I6 q6) fun f s7 q7=>?_)
  have again:∀ {σ7:St} {H7:Hp},Inv X (pins++ZdX fp s5.heap) σ7 H7 s7->N σ7 H7->∃ m,m<n/\∃ i σ' H',Inv X pins σ' H' s7/\tn i s7.heap/\(∀ b∈fp,H' b=none)/\W i m σ' H':=fun {σ7 H7} I7 n7=>by
   obtain ⟨m',hm,w7⟩:=hN σ7 H7 n7
   refine ⟨m',hm,i+1,σ7,H7,I7.unpinned,T.keep _ _ _ st5 fun b hb o e=>(I7.pin (b,o) (Qax _ (Qax _ (ZdK hb e)))).1,fun b hb=>?_,w7⟩
   obtain ⟨o,e,d⟩:=T.obj _ _ st5 b hb
   exact (I7.pin (b,o) (Qax _ (Qax _ (ZdK hb e)))).2.1
  cases f with
  | next=>obtain ⟨σ7,H7,I7,n7⟩:=q7;exact again I7 n7
  | cont=>obtain ⟨σ7,H7,I7,n7⟩:=q7;exact again I7 n7
  | brk=>obtain ⟨σ7,H7,I7,q7⟩:=q7;exact ⟨σ7,H7,I7.unpinned,q7⟩
  | ret v=>obtain ⟨x7,σ7,H7,I7,r7,q7⟩:=q7;exact ⟨x7,σ7,H7,I7.unpinned,r7,q7⟩
end
end L2
namespace L2
open PySem PySem.Spec PyProof.Rows
abbrev R2:=V->V->Hp->VK->Prop
def OpR (X:Cx) (f:Value->Value->Sem Value) (r:R2):Prop :=
 ∀ (pins:List (Addr×Obj)) (s:Shared) (σ:St) (H:Hp) (x y:V) (v u:Value) (Q:VK),Inv X pins σ H s->RelV x v->RelV y u->r x y H Q ->
  wpAny (model X.prog X.w) X.A (f v u) (EP X pins σ Q) X.xe s
def UnR (X:Cx) (f:Value->Sem Value) (r:V->Hp->VK->Prop):Prop :=
 ∀ (pins:List (Addr×Obj)) (s:Shared) (σ:St) (H:Hp) (x:V) (v:Value) (Q:VK),Inv X pins σ H s->RelV x v->r x H Q ->
  wpAny (model X.prog X.w) X.A (f v) (EP X pins σ Q) X.xe s
def CallR (X:Cx) (f:Value) (r:List V->Hp->VK->Prop):Prop :=
 ∀ (pins:List (Addr×Obj)) (s:Shared) (σ:St) (H:Hp) (xs:List V) (us:List Value) (Q:VK),Inv X pins σ H s->Vals xs us->r xs H Q ->
  wpAny (model X.prog X.w) X.A (call f us) (EP X pins σ Q) X.xe s
def ZuL (X:Cx) (r:V->Hp->(Bool->Hp->Prop)->Prop):Prop :=
 ∀ (pins:List (Addr×Obj)) (s:Shared) (σ:St) (H:Hp) (x:V) (v:Value) (Q:Bool->Hp->Prop),Inv X pins σ H s->RelV x v->r x H Q ->
  wpAny (model X.prog X.w) X.A (truthy v) (TP X pins σ Q) X.xe s
def tOp (r:R2) (ta tb:TE):TE:=fun σ H Q=>ta σ H fun x H1=>tb σ H1 fun y H2=>r x y H2 Q
def tUn (r:V->Hp->VK->Prop) (ta:TE):TE:=fun σ H Q=>ta σ H fun x H1=>r x H1 Q
def rI (C:Int->Int->Prop) (g:Int->Int->V):R2:=fun x y H Q=>∃ i j,x=.int i/\y=.int j/\C i j/\Q (g i j) H
def rI0 (g:Int->Int->V):R2:=fun x y H Q=>∃ i j,x=.int i/\y=.int j/\Q (g i j) H
def rU (g:Int->V):V->Hp->VK->Prop:=fun x H Q=>∃ i,x=.int i/\Q (g i) H
section
variable {X:Cx} {a b c:Expr} {ta tb tc:TE} {pos:Pos}
theorem Zpm (ha:PE X a ta) (hb:PE X b tb) {pins:List (Addr×Obj)} {s:Shared} {σ:St} {H:Hp} {R:V->V->Hp->Prop} (I:Inv X pins σ H s)
  (h:ta σ H fun x H1=>tb σ H1 fun y H2=>R x y H2) {Q:Value->Shared->Prop} {f:Value->Value->Sem Value}
  (hf:∀ v u s2 x y H2,Inv X pins σ H2 s2->RelV x v->RelV y u->R x y H2->wpAny (model X.prog X.w) X.A (f v u) Q X.xe s2) :
  wpAny (model X.prog X.w) X.A (eval a X.env) (fun v s₁=>wpAny (model X.prog X.w) X.A (eval b X.env) (fun u s₂=>wpAny (model X.prog X.w) X.A (f v u) Q X.xe s₂) X.xe s₁) X.xe s:=by
 refine thn (ha pins s σ H _ I h) fun v s1 ⟨x,H1,I1,r1,q1⟩=>?_
 refine thn (hb pins s1 σ H1 _ I1 q1) fun u s2 ⟨y,H2,I2,r2,q2⟩=>?_
 exact hf v u s2 x y H2 I2 r1 r2 q2
theorem ZtQ {op:Operator} {r:R2} (ho:OpR X (Qco op) r) (ha:PE X a ta) (hb:PE X b tb):PE X (.BinOp a op b pos) (tOp r ta tb):=by
 intro pins s σ H Q I h
 exact wpAny_BinOp (Zpm ha hb I h fun v u s2 x y H2 I2 rx ry q=>ho pins s2 σ H2 x y v u Q I2 rx ry q)
theorem ZtK {op:UnaryOp} {r:V->Hp->VK->Prop} (ho:UnR X (unaryOp op) r) (ha:PE X a ta):PE X (.UnaryOp op a pos) (tUn r ta):=by
 intro pins s σ H Q I h
 exact UnaryOp_ (thn (ha pins s σ H _ I h) fun v s1 ⟨x,H1,I1,r1,q1⟩=>ho pins s1 σ H1 x v Q I1 r1 q1)
theorem opI {f:Value->Value->Sem Value} {C:Int->Int->Prop} {g:Int->Int->Int}
  (rule:∀ (i j:Int) (t u:Tok) (s:Shared) (Q:Value->Shared->Prop) (E:Value->Shared->Prop),C i j->Q (.int (g i j) s.toks) { s with toks:=s.toks+1 }->wpAny (model X.prog X.w) X.A (f (.int i t) (.int j u)) Q E s) :
  OpR X f (rI C fun i j=>.int (g i j)):=by
 intro pins s σ H x y v u Q I rx ry h
 obtain ⟨i,j,rfl,rfl,hc,q⟩:=h
 obtain ⟨t,rfl⟩:=rx
 obtain ⟨t',rfl⟩:=ry
 exact rule i j t t' s _ _ hc ⟨.int (g i j),H,I.tok _,⟨_,rfl⟩,q⟩
theorem Ztc {f:Value->Value->Sem Value} {g:Int->Int->Int}
  (rule:∀ (i j:Int) (t u:Tok) (s:Shared) (Q:Value->Shared->Prop) (E:Value->Shared->Prop),Q (.int (g i j) s.toks) { s with toks:=s.toks+1 }->wpAny (model X.prog X.w) X.A (f (.int i t) (.int j u)) Q E s) :
  OpR X f (rI0 fun i j=>.int (g i j)):=by
 intro pins s σ H x y v u Q I rx ry h
 obtain ⟨i,j,rfl,rfl,q⟩:=h
 obtain ⟨t,rfl⟩:=rx
 obtain ⟨t',rfl⟩:=ry
 exact rule i j t t' s _ _ ⟨.int (g i j),H,I.tok _,⟨_,rfl⟩,q⟩
theorem Zr4 {f:Value->Value->Sem Value} {g:Int->Int->Bool}
  (rule:∀ (i j:Int) (t u:Tok) (s:Shared) (Q:Value->Shared->Prop) (E:Value->Shared->Prop),Q (.bool (g i j)) s->wpAny (model X.prog X.w) X.A (f (.int i t) (.int j u)) Q E s) :
  OpR X f (rI0 fun i j=>.bl (g i j)):=by
 intro pins s σ H x y v u Q I rx ry h
 obtain ⟨i,j,rfl,rfl,q⟩:=h
 obtain ⟨t,rfl⟩:=rx
 obtain ⟨t',rfl⟩:=ry
 exact rule i j t t' s _ _ ⟨.bl (g i j),H,I,rfl,q⟩
def ZaR (i j:Int):Prop:=0<j/\j<1073741824
def Zft (i j:Int):Prop:=0<=j/\j<=1000000/\i.natAbs<2^64
def CMul (i j:Int):Prop:=(-(2^64)<i/\i<2^64)\/(-(2^64)<j/\j<2^64)
theorem CMul.ok {i j:Int} (h:CMul i j):IntMulOk i j:=by
 rcases h with ⟨h1,h2⟩ | ⟨h1,h2⟩
 ·exact .of_left (intBits_le_64 h1 h2)
 ·exact .of_right (intBits_le_64 h1 h2)
theorem op_add:OpR X (Qco .Add) (rI0 fun i j=>.int (i+j)):=Ztc fun _ _ _ _ _ _ _ q=>add_int q
theorem Zr6:OpR X (Qco .Sub) (rI0 fun i j=>.int (i-j)):=Ztc fun _ _ _ _ _ _ _ q=>sub_int q
theorem Zsy:OpR X (Qco .Mult) (rI CMul fun i j=>.int (i * j)):=opI fun _ _ _ _ _ _ _ hc q=>mul_int q hc.ok
theorem ZrI:OpR X (Qco .FloorDiv) (rI ZaR fun i j=>.int (i / j)):=opI fun i j _ _ _ _ _ hc q=>by
 have h1:(0:Int)<j:=hc.1
 have h2:j<1073741824:=hc.2
 exact floordiv_int (by omega) (by rw [Int.fdiv_eq_ediv_of_nonneg i (by omega)];exact q) (.inl (PyProof.noPylong_small (by omega)))
theorem Ztv:OpR X (Qco .Mod) (rI (fun _ j=>0<j) fun i j=>.int (i%j)):=opI fun i j _ _ _ _ _ hc q=>by
 have h1:(0:Int)<j:=hc
 exact mod_int' (by omega) (by rw [Int.fmod_eq_emod_of_nonneg i (by omega)];exact q)
theorem ZtD:OpR X (Qco .Pow) (rI Zft fun i j=>.int (i^j.toNat)):=opI fun _ _ _ _ _ _ _ hc q=>pow_int_small hc.1 hc.2.1 hc.2.2 q
theorem unI {f:Value->Sem Value} {g:Int->Int}
  (rule:∀ (i:Int) (t:Tok) (s:Shared) (Q:Value->Shared->Prop) (E:Value->Shared->Prop),Q (.int (g i) s.toks) { s with toks:=s.toks+1 }->wpAny (model X.prog X.w) X.A (f (.int i t)) Q E s) :
  UnR X f (rU fun i=>.int (g i)):=by
 intro pins s σ H x v Q I rx h
 obtain ⟨i,rfl,q⟩:=h
 obtain ⟨t,rfl⟩:=rx
 exact rule i t s _ _ ⟨.int (g i),H,I.tok _,⟨_,rfl⟩,q⟩
theorem ZsP:UnR X (unaryOp .USub) (rU fun i=>.int (-i)):=unI fun _ _ _ _ _ q=>neg_int q
end
section
variable {X:Cx} {a b c:Expr} {ta tb tc:TE} {pos:Pos}
theorem Zuc:OpR X (QbG .LtE) (rI0 fun i j=>.bl (decide (i<=j))):=Zr4 fun _ _ _ _ _ _ _ q=>le_int q
theorem ZqA:OpR X (QbG .Gt) (rI0 fun i j=>.bl (decide (j<i))):=Zr4 fun _ _ _ _ _ _ _ q=>gt_int q
theorem OpR.or {f:Value->Value->Sem Value} {r r':R2} (h:OpR X f r) (h':OpR X f r'):OpR X f (fun x y H Q=>r x y H Q\/r' x y H Q):=by
 intro pins s σ H x y v u Q I rx ry q
 rcases q with q | q
 ·exact h pins s σ H x y v u Q I rx ry q
 ·exact h' pins s σ H x y v u Q I rx ry q
theorem ZqL {op:CmpOp} {r:R2} (ho:OpR X (QbG op) r) (ha:PE X a ta) (hb:PE X b tb) (hm:QbZ op b=false):PE X (.Compare a [op] [b] pos) (tOp r ta tb):=by
 intro pins s σ H Q I h
 exact wpAny_Compare1 (Zpm ha hb I h fun v u s2 x y H2 I2 rx ry q=>ho pins s2 σ H2 x y v u Q I2 rx ry q) hm
def ZtO (t:TE):TT:=fun σ H Q=>t σ H fun x H'=>∃ k,x=.bl k/\Q k H'
theorem ZqZ {op:CmpOp} {r:R2} (ho:OpR X (QbG op) r) (ha:PE X a ta) (hb:PE X b tb) (hm:QbZ op b=false):PT X (.Compare a [op] [b] pos) (ZtO (tOp r ta tb)):=by
 intro pins s σ H Q I h
 refine wpAny_isTrue_Compare1 (thn (ha pins s σ H _ I h) fun v s1 ⟨x,H1,I1,r1,q1⟩=>thn (hb pins s1 σ H1 _ I1 q1) fun u s2 ⟨y,H2,I2,r2,q2⟩ =>
  thn (ho pins s2 σ H2 x y v u _ I2 r1 r2 q2) fun c s3 ⟨z,H3,I3,r3,k,e,q3⟩=>?_) hm
 subst e
 cases r3
 exact QbD ⟨H3,I3,q3⟩
def Zsa (K:Qab) (x:V) (H:Hp) (k:Bool):Prop :=
 match x with
 | .non=>k=false
 | .bl b=>k=b
 | .int i=>k=(i != 0)
 | .str y=>y.length<=Qaj/\k=((y.length:Int) != 0)
 | .byt y=>y.size<=Qaj/\k=((y.size:Int) != 0)
 | .ref p=>(∃ xs,SqL K H p xs/\k=!xs.isEmpty)\/(∃ xs,SqT K H p xs/\k=!xs.isEmpty)\/∃ kvs,H p=some (.dK kvs)/\k=!kvs.isEmpty
 | _=>False
theorem ZmC {κ:Type} {kvs:List (κ×V)} {vs:List (κ×Value)} (r:KV kvs vs):(!vs.isEmpty)=!kvs.isEmpty:=by
 cases r<;>rfl
theorem ZhM {xs:List V} {its:List Value} (r:Vals xs its):(!its.toArray.isEmpty)=!xs.isEmpty:=by
 cases r<;>simp
theorem Zgk:(Qaj:Nat)<2^63:=by rw [sizeLine_eq];decide
theorem Ztk:ZuL X (fun x H Q=>∃ k,Zsa X.K x H k/\Q k H):=by
 intro pins s σ H x v Q I rx h
 obtain ⟨k,e,q⟩:=h
 have hl:=Zgk
 have hs:Qaj=16777216:=sizeLine_eq
 cases x with
 | non =>
  cases rx
  have e':k=false:=e
  subst e'
  exact truthy_none ⟨H,I,q⟩
 | bl b =>
  cases rx
  have e':k=b:=e
  subst e'
  exact QbD ⟨H,I,q⟩
 | int i =>
  obtain ⟨t,rfl⟩:=rx
  have e':k=(i != 0):=e
  subst e'
  exact PySem.P.truthy_int ⟨H,I,q⟩
 | str y =>
  obtain ⟨t,rfl⟩:=rx
  obtain ⟨hy,e'⟩:y.length<=Qaj/\k=((y.length:Int) != 0):=e
  subst e'
  exact PySem.P.truthy_str (by omega) ⟨H,I.tok _,q⟩
 | byt y =>
  obtain ⟨t,rfl⟩:=rx
  obtain ⟨hy,e'⟩:y.size<=Qaj/\k=((y.size:Int) != 0):=e
  subst e'
  exact PySem.W.truthy_bytes (by omega) ⟨H,I.tok _,q⟩
 | ref p =>
  cases rx
  have e':(∃ xs,SqL X.K H p xs/\k=!xs.isEmpty)\/(∃ xs,SqT X.K H p xs/\k=!xs.isEmpty)\/∃ kvs,H p=some (.dK kvs)/\k=!kvs.isEmpty:=e
  rcases e' with ⟨xs,hx,e'⟩ | ⟨xs,hx,e'⟩ | ⟨kvs,hx,e'⟩
  ·subst e'
   obtain ⟨its,r,pl,hz⟩:=I.list hx
   have hlen:=r.length
   exact wpAny_truthy_list pl.isList (by simp only [Qal];omega) ⟨H,I.tok _,by rw [ZhM r];exact q⟩
  ·subst e'
   obtain ⟨its,r,pl,hz⟩:=I.tuple hx
   have hlen:=r.length
   exact truthy_tuple pl (by simp only [Qal];omega) ⟨H,I.tok _,by rw [ZhM r];exact q⟩
  ·subst e'
   obtain ⟨hz,hS,vs,r,m⟩:kvs.length<=Qaj/\(p==Qb5)=false/\∃ vs,KV kvs vs/\s.heap.DictOf (Zid X.prog X.w) p vs:=I.hok p _ hx
   have hlen:kvs.length=vs.length:=Qcg r
   exact wpAny_truthy_dict hS m (by omega) ⟨H,I.tok _,by rw [ZmC r];exact q⟩
 | _=>exact (show False from e).elim
theorem ZpO (ha:PE X a ta) (he:∀ whole,isTrue a X.env whole=(do let v <- whole;standAt a.pos;holding [v] (truthy v))) :
  PT X a (fun σ H Q=>ta σ H fun x H'=>∃ k,Zsa X.K x H' k/\Q k H'):=by
 intro pins s σ H Q I h
 exact isTrue_plain (thn (ha pins s σ H _ I h) fun v s1 ⟨x,H1,I1,r1,q1⟩=>Ztk pins s1 σ H1 x v Q I1 r1 q1) (he _)
theorem op_add_str:OpR X (Qco .Add) (fun x y H Q=>∃ i j,x=.str i/\y=.str j/\i.length+j.length<=Qaj/\Q (.str (i++j)) H):=by
 intro pins s σ H x y v u Q I rx ry h
 obtain ⟨i,j,rfl,rfl,hz,q⟩:=h
 obtain ⟨t,rfl⟩:=rx
 obtain ⟨t',rfl⟩:=ry
 exact add_str (fun t' tk=>⟨.str (i++j),H,I.tok _,⟨_,rfl⟩,q⟩) hz
theorem ZaV {x:V} {us:List Value} (r:Vals [x] us):∃ u,us=[u]/\RelV x u:=by
 cases r with
 | cons r1 r2=>cases r2;exact ⟨_,rfl,r1⟩
theorem ZhQ {x y:V} {us:List Value} (r:Vals [x,y] us):∃ u w',us=[u,w']/\RelV x u/\RelV y w':=by
 cases r with
 | cons r1 r2 =>
  cases r2 with
  | cons r3 r4=>cases r4;exact ⟨_,_,rfl,r1,r3⟩
theorem ZnJ (hc:X.calm=true):CallR X (.builtin "max") (fun xs H Q=>∃ i j,xs=[.int i,.int j]/\Q (.int (if j > i then j else i)) H):=by
 intro pins s σ H xs us Q I r h
 obtain ⟨i,j,rfl,q⟩:=h
 obtain ⟨u,w',rfl,⟨t,rfl⟩,⟨t',rfl⟩⟩:=ZhQ r
 refine max_two_ints (I.ok.hd hc) fun h' tk k=>⟨_,H,I.kept k,?_,q⟩
 by_cases hj:j > i
 ·rw [if_pos hj,if_pos hj];exact ⟨_,rfl⟩
 ·rw [if_neg hj,if_neg hj];exact ⟨_,rfl⟩
theorem ZnY (hc:X.calm=true):CallR X (.builtin "min") (fun xs H Q=>∃ i j,xs=[.int i,.int j]/\Q (.int (if j<i then j else i)) H):=by
 intro pins s σ H xs us Q I r h
 obtain ⟨i,j,rfl,q⟩:=h
 obtain ⟨u,w',rfl,⟨t,rfl⟩,⟨t',rfl⟩⟩:=ZhQ r
 refine min_two_ints (I.ok.hd hc) fun h' tk k=>⟨_,H,I.kept k,?_,q⟩
 by_cases hj:j<i
 ·rw [if_pos hj,if_pos hj];exact ⟨_,rfl⟩
 ·rw [if_neg hj,if_neg hj];exact ⟨_,rfl⟩
theorem Zn5:CallR X (.type "int") (fun xs H Q=>(∃ i,xs=[.int i]/\Q (.int i) H)\/∃ k,xs=[.bl k]/\Q (.int (if k then 1 else 0)) H):=by
 intro pins s σ H xs us Q I r h
 rcases h with ⟨i,rfl,q⟩ | ⟨k,rfl,q⟩
 ·obtain ⟨u,rfl,t,rfl⟩:=ZaV r
  exact call_int_int ⟨.int i,H,I,⟨_,rfl⟩,q⟩
 ·obtain ⟨u,rfl,r1⟩:=ZaV r
  cases r1
  exact call_int_bool ⟨.int (if k then 1 else 0),H,I.tok _,⟨_,rfl⟩,q⟩
theorem Zkp:CallR X (.type "str") (fun xs H Q=>∃ i,xs=[.int i]/\i.natAbs.log2<1920/\Q (.str (Qb3 i)) H):=by
 intro pins s σ H xs us Q I r h
 obtain ⟨i,rfl,hz,q⟩:=h
 obtain ⟨u,rfl,t,rfl⟩:=ZaV r
 exact PySem.P.str_of_int hz ⟨.str _,H,I.tok _,⟨_,rfl⟩,q⟩
def ZsH (K:Qab) (x:V) (H:Hp) (n:Nat):Prop :=
 match x with
 | .str y=>y.length<=Qaj/\n=y.length
 | .byt y=>y.size<=Qaj/\n=y.size
 | .ref p=>(∃ xs,SqL K H p xs/\n=xs.length)\/∃ xs,SqT K H p xs/\n=xs.length
 | _=>False
theorem ZbA:CallR X (.builtin "len") (fun xs H Q=>∃ x n,xs=[x]/\ZsH X.K x H n/\Q (.int n) H):=by
 intro pins s σ H xs us Q I r h
 obtain ⟨x,n,rfl,e,q⟩:=h
 obtain ⟨u,rfl,rx⟩:=ZaV r
 have hl:=Zgk
 have hs:Qaj=16777216:=sizeLine_eq
 cases x with
 | str y =>
  obtain ⟨t,rfl⟩:=rx
  obtain ⟨hy,e'⟩:y.length<=Qaj/\n=y.length:=e
  subst e'
  exact len_str (by omega) ⟨.int _,H,I.tok _,⟨_,rfl⟩,q⟩
 | byt y =>
  obtain ⟨t,rfl⟩:=rx
  obtain ⟨hy,e'⟩:y.size<=Qaj/\n=y.size:=e
  subst e'
  exact PySem.W.len_bytes (by omega) ⟨.int _,H,I.tok _,⟨_,rfl⟩,q⟩
 | ref p =>
  cases rx
  have e':(∃ xs,SqL X.K H p xs/\n=xs.length)\/∃ xs,SqT X.K H p xs/\n=xs.length:=e
  rcases e' with ⟨xs,hx,e'⟩ | ⟨xs,hx,e'⟩
  ·subst e'
   obtain ⟨its,r',pl,hz⟩:=I.list hx
   have hlen:=r'.length
   exact Calls.call_len_list pl.isList (by simp only [Qal];omega) ⟨.int xs.length,H,I.tok _,⟨_,by simp only [Qal];rw [hlen]⟩,q⟩
  ·subst e'
   obtain ⟨its,r',pl,hz⟩:=I.tuple hx
   have hlen:=r'.length
   exact len_tuple pl (by simp only [Qal];omega) ⟨.int xs.length,H,I.tok _,⟨_,by simp only [Qal];rw [hlen]⟩,q⟩
 | _=>exact (show False from e).elim
end
end L2
namespace L2
open PySem PySem.Spec PyProof.Rows
section
variable {prog:Qav} {w:World} {A:Around} {E:Value->Shared->Prop} {s:Shared} {K:Qab} {x dx C f:Addr} {mA:Str->Option Value} {name:Str} {v:Value}
end
section
variable {P:Qav} {w:World} {H H':Hp} {h h':Heap} {a C dx:Addr} {fs fs':List (Str×V)}
end
structure Cls (K:Qab) (C:Addr):Prop where
 pg:PySem.W.plainGet K C Str.empty=true
 hd:PySem.W.hasDictIn K C=true
 po:PySem.W.plainOver K C=true
 sa:PySem.W.findIn K (.ref C) "__setattr__"=some (some (.builtin "object.__setattr__"))
theorem Cls.get {K:Qab} {C:Addr} (c:Cls K C) (f:Str):PySem.W.plainGet K C f=true:=c.pg
section
variable {X:Cx} {pins:List (Addr×Obj)} {σ:St} {H:Hp} {s:Shared} {a C dx:Addr} {fs:List (Str×V)} {f:Str} {v:V} {A:Around} {E:Value->Shared->Prop}
end
section
variable {X:Cx} {o e value:Expr} {f:Str} {pos pos' tpos:Pos} {ta tv:TE}
end
section
variable {X:Cx} {pins:List (Addr×Obj)} {σ:St} {H:Hp} {s:Shared} {A:Around} {E:Value->Shared->Prop} {Q:Value->Shared->Prop} {c:Value} {b:Bool}
end
end L2
namespace L2
open PySem PySem.Spec PyProof.Rows
structure Room (k:Nat) (A:Around):Prop where
 hd:A.handled=none
 dp:A.depth+3 * k+5<recursionLimit
 un:A.units+16 * k+200<cLine
theorem Room.mono {j k:Nat} {A:Around} (r:Room k A) (h:j<=k):Room j A:=⟨r.hd,by have:=r.dp;omega,by have:=r.un;omega⟩
theorem Room.deeper {k:Nat} {A:Around} (r:Room (k+1) A) (env:Env):Room k (A.deeper env) :=
 ⟨r.hd,by have:=r.dp;show A.depth+1+3 * k+5<_;omega,by have:=r.un;show A.units+3+16 * k+200<_;omega⟩
theorem Room.in1 {k:Nat} {A:Around} (r:Room (k+1) A):Room k A.in1 :=
 ⟨r.hd,by have:=r.dp;show A.depth+3 * k+5<_;omega,by have:=r.un;show A.units+1+16 * k+200<_;omega⟩
theorem Room.depth {k:Nat} {A:Around} (r:Room k A):A.depth<recursionLimit:=by have:=r.dp;omega
theorem Room.units {k:Nat} {A:Around} (r:Room k A):A.units+64<cLine:=by have:=r.un;omega
def Ztf:TA:=fun _ H Q=>Q [] H
def Zqz (ta:TE) (tr:TA):TA:=fun σ H Q=>ta σ H fun x H1=>tr σ H1 fun xs H2=>Q (x::xs) H2
section
variable {X:Cx} {e:Expr} {es:List Expr} {te:TE} {t:TA} {pos:Pos}
theorem pa_nil:PA X [] Ztf:=fun _ _ _ _ H Q I h=>Calls.spliced_nil ⟨[],H,I,.nil,h⟩
theorem ZaC (ha:PE X e te) (hr:PA X es t) (hs:Qas (e::es) X.env=(false,eval e X.env)::Qas es X.env:=by rfl):PA X (e::es) (Zqz te t):=by
 intro pos pins s σ H Q I h
 rw [hs]
 show wpAny _ _ (spliced ((false,eval e X.env)::backTo pos (Qas es X.env))) _ _ s
 refine Calls.spliced_cons (thn (ha pins s σ H _ I h) fun u s1 ⟨x,H1,I1,r1,q1⟩=>?_)
 exact thn (hr pos pins s1 σ H1 _ I1 q1) fun us s2 ⟨xs,H2,I2,r2,q2⟩=>⟨x::xs,H2,I2,.cons r1 r2,q2⟩
def ZuJ (t:TA):TE:=fun σ H Q=>t σ H fun xs H1=>xs.length<=Qaj/\∀ p,H1 p=none->Q (.ref p) (upd H1 p (.tup xs))
def ZuH (t:TA):TE:=fun σ H Q=>t σ H fun xs H1=>xs.length<=Qaj/\∀ p,H1 p=none->Q (.ref p) (upd H1 p (.lst xs))
theorem Zsd {x1} (h:PA X es t):PE X (.Tuple es x1 pos) (ZuJ t):=by
 intro pins s σ H Q I hq
 refine wpAny_Tuple_spliced (thn (h pos pins s σ H _ I hq) fun us s1 ⟨xs,H1,I1,r,z,q⟩=>⟨by rw [<- r.length];exact z,?_⟩)
 have hf:H1 s1.heap.objs.size=none:=I1.hok.fresh (Qau _)
 refine ⟨.ref s1.heap.objs.size,upd H1 s1.heap.objs.size (.tup xs),I1.laid (t':=s1.toks) (fun b u e=>Qac _ e) (Qau _) ?_,rfl,q _ hf⟩
 exact ⟨z,us,r,⟨_,Qao _ rfl,rfl,_,rfl⟩⟩
theorem ZsI (h:PA X es t):PE X (.List es pos) (ZuH t):=by
 intro pins s σ H Q I hq
 refine wpAny_List_spliced (thn (h pos pins s σ H _ I hq) fun us s1 ⟨xs,H1,I1,r,z,q⟩=>⟨by rw [<- r.length];exact z,?_⟩)
 have hf:H1 s1.heap.objs.size=none:=I1.hok.fresh (Qau _)
 refine ⟨.ref s1.heap.objs.size,upd H1 s1.heap.objs.size (.lst xs),I1.laid (t':=s1.toks) (fun b u e=>Qac _ e) (Qau _) ?_,rfl,q _ hf⟩
 exact ⟨z,us,0,r,Qao _ rfl⟩
end
abbrev Sp:=List V->Hp->VK->XK->Prop
abbrev CXT:=List Env->Hp->Shared->XK->Value->Shared->Prop
structure Env0 (P:Qav) (w:World) (K:Qab) (mg:Str->Option Value) (base:Heap) (A:Around) (outer:List Env) (s:Shared) (H:Hp):Prop where
 frames:A.frames=some outer
 mod:Mod K mg base
 bs:∀ b o,base.get? b=some o->s.heap.get? b=some o/\H b=none
 bsz:base.objs.size<=s.heap.objs.size
 funs:s.heap.FunFrames base outer
 frf:∀ b∈frs outer,H b=none
 hok:HOk P w H s.heap
 bare:AllBare s.gens
def CE (outer:List Env) (P:Qav) (w:World) (H:Hp) (s:Shared) (Q:VK) (u:Value) (s':Shared):Prop :=
 ∃ v H',s'.os=s.os/\AllBare s'.gens/\Un (frs outer) [] H H' s.heap s'.heap/\HOk P w H' s'.heap/\RelV v u/\Q v H'
def CR (CX:CXT) (outer:List Env) (P:Qav) (w:World) (H:Hp) (s:Shared) (Q:VK) (E:XK) (r:Result) (s':Shared):Prop :=
 match r with
 | .ok (.ret u)=>CE outer P w H s Q u s'
 | .ok _=>False
 | .error e=>CX outer H s E e s'
structure FnOk (P:Qav) (w:World) (K:Qab) (mg:Str->Option Value) (base:Heap) (CX:CXT) (k:Nat) (f:Addr) (fd:QaH) (ps:List Str) (sp:Sp):Prop where
 len:∀ vs H Q E,sp vs H Q E->vs.length=ps.length
 run:∀ (A:Around) (outer:List Env) (s:Shared) (H:Hp) (args:Args) (us:List Value) (vs:List V) (Q:VK) (E:XK),Room k A->Env0 P w K mg base A outer s H->BindsTo s fd args (ps.zip us)->Vals vs us->sp vs H Q E ->
  codeAny (model P w) A (.call (.ref f) args) (CR CX outer P w H s Q E) s
theorem FnOk.mono {P:Qav} {w:World} {K:Qab} {mg:Str->Option Value} {base:Heap} {CX:CXT} {j k:Nat} {f:Addr} {fd:QaH} {ps:List Str} {sp:Sp} (F:FnOk P w K mg base CX j f fd ps sp) (h:j<=k) :
  FnOk P w K mg base CX k f fd ps sp:=⟨F.len,fun A outer s H args us vs Q E hr=>F.run A outer s H args us vs Q E (hr.mono h)⟩
theorem FnOk.imp {P:Qav} {w:World} {K:Qab} {mg:Str->Option Value} {base:Heap} {CX:CXT} {k:Nat} {f:Addr} {fd:QaH} {ps:List Str} {sp sp':Sp} (F:FnOk P w K mg base CX k f fd ps sp)
  (h:∀ vs H Q E,sp' vs H Q E->sp vs H Q E):FnOk P w K mg base CX k f fd ps sp' :=
 ⟨fun vs H Q E q=>F.len vs H Q E (h _ _ _ _ q),fun A outer s H args us vs Q E hr he hb hv hs=>F.run A outer s H args us vs Q E hr he hb hv (h _ _ _ _ hs)⟩
theorem Env0.in1 {P:Qav} {w:World} {K:Qab} {mg:Str->Option Value} {base:Heap} {A:Around} {outer:List Env} {s:Shared} {H:Hp} (e:Env0 P w K mg base A outer s H) :
  Env0 P w K mg base A.in1 outer s H:=⟨e.frames,e.mod,e.bs,e.bsz,e.funs,e.frf,e.hok,e.bare⟩
section
variable {X:Cx} {pins:List (Addr×Obj)} {σ:St} {H:Hp} {s s':Shared}
theorem Inv.env0 (I:Inv X pins σ H s):Env0 X.prog X.w X.K X.mg X.base X.A X.stack s H :=
 ⟨I.ok.frames,I.ok.mod,I.bs,QaP I.ok.bsz I.sz,I.stack,I.stkFree,I.hok,I.bare⟩
theorem Inv.after {Q:VK} {u:Value} (I:Inv X pins σ H s) (h:CE X.stack X.prog X.w H s Q u s'):EP X pins σ Q u s':=by
 obtain ⟨v,H',os,bare,un,hok,r,q⟩:=h
 obtain ⟨hh,g,d,t,os'⟩:=s'
 obtain rfl:os'=s.os:=os
 exact ⟨v,H',I.call (h':=hh) (g':=g) (d':=d) (t':=t) (ch:=[]) un hok bare (fun b z=>absurd z (by simp)),r,q⟩
end
def ZmT (sp:Sp) (dvs:List V) (E:XK) (t:TA):TE:=fun σ H Q=>t σ H fun vs H1=>sp (vs++dvs) H1 Q E
def Binds (K:Qab) (fd:QaH) (ps:List Str) (ds:List Value):Prop :=
 ∀ (s:Shared) (us:List Value),K.In s.heap->(us++ds).length=ps.length->BindsTo s fd ⟨us,[]⟩ (ps.zip (us++ds))
theorem Binds.all {K:Qab} {fd:QaH} {ps:List Str} (h:∀ us:List Value,us.length=ps.length->bindArgs fd ⟨us,[]⟩=pure (ps.zip us)):Binds K fd ps []:=fun s us _ hl=>by
 rw [Qa9] at hl ⊢
 exact .of_eq (h us hl)
def Zgf (CX:CXT) (X:Cx) (E:XK):Prop:=∀ (pins:List (Addr×Obj)) (σ:St) (H:Hp) (s:Shared) (e:Value) (s':Shared),Inv X pins σ H s->CX X.stack H s E e s'->X.xe e s'
section
variable {X:Cx} {CX:CXT} {k:Nat} {f C:Addr} {fd:QaH} {ps:List Str} {sp:Sp} {dvs:List V} {ds:List Value} {E:XK} {x m:Str} {p pos apos:Pos} {e o:Expr} {es:List Expr} {ta:TE} {t:TA}
theorem ZtC {pins:List (Addr×Obj)} {σ:St} {H:Hp} {s:Shared} {Q:VK} {us:List Value} {vs:List V} (F:FnOk X.prog X.w X.K X.mg X.base CX k f fd ps sp) (hr:Room k X.A) (hb:Binds X.K fd ps ds) (hd:Vals dvs ds) (hx:Zgf CX X E)
  (I:Inv X pins σ H s) (r:Vals vs us) (h:sp (vs++dvs) H Q E):wpAny (model X.prog X.w) X.A (call (.ref f) us) (EP X pins σ Q) X.xe s:=by
 have r2:Vals (vs++dvs) (us++ds):=r.append hd
 have hl:(us++ds).length=ps.length:=by rw [<- r2.length];exact F.len _ _ _ _ h
 refine wpAny_call (codeAny_mono (F.run X.A X.stack s H ⟨us,[]⟩ (us++ds) (vs++dvs) Q E hr I.env0 (hb s us I.kIn hl) r2 h) fun r s' hq=>?_)
 cases r with
 | error e=>exact hx pins σ H s e s' I hq
 | ok fl =>
  cases fl with
  | ret u=>exact I.after hq
  | next=>exact QaJ hq
  | brk=>exact QaJ hq
  | cont=>exact QaJ hq
theorem Zmg (F:FnOk X.prog X.w X.K X.mg X.base CX k f fd ps sp) (hr:Room k X.A) (hg:Gl X x) (hm:X.mg x=some (.ref f)) (hk:QaC X.K (.ref f)=true) (hb:Binds X.K fd ps ds) (hd:Vals dvs ds) (hx:Zgf CX X E)
  (ha:PA X (e::es) t) (hdb:(x==("__debug__":Str))=false:=by decide) (he:Qas (e::es) X.env=(false,eval e X.env)::Qas es X.env:=by rfl) (hpl:(backTo pos (Qas es X.env)).any (·.1)=false:=by rfl) :
  PE X (.Call (.Name x p) (e::es) [] pos) (ZmT sp dvs E t):=by
 intro pins s σ H Q I h
 refine Qb8 (ZeW I hg hm ?_ hdb)
 refine PySem.W.callWith_K (h₀:=X.base) I.ok.mod.kin hk (thn (ha pos pins s σ H _ I h) fun us s1 ⟨vs,H1,I1,r,q⟩=>⟨I1.kIn,?_⟩) he hpl
 exact ZtC F hr hb hd hx I1 r q
end
def PK (X:Cx) (kws:List Keyword) (t:TA):Prop :=
 ∀ (pos:Pos) (pins:List (Addr×Obj)) (s:Shared) (σ:St) (H:Hp) (Q:List V->Hp->Prop),Inv X pins σ H s->t σ H Q->wpAny (model X.prog X.w) X.A (evalAll ((backToKw pos (keywordEach kws X.env)).map (·.2))) (AP X pins σ Q) X.xe s
section
variable {X:Cx} {CX:CXT} {k:Nat} {f C:Addr} {fd:QaH} {ps ks:List Str} {sp:Sp} {E:XK} {x m:Str} {p pos apos kpos:Pos} {e o:Expr} {es:List Expr} {kws:List Keyword} {te ta:TE} {t tk:TA} {nm:Option Str}
theorem ZoA:PK X [] Ztf:=fun _ _ _ _ H Q I h=>wpAny_evalAll_nil ⟨[],H,I,.nil,h⟩
theorem ZlR (ha:PE X e te) (hr:PK X kws t):PK X (⟨nm,e,kpos⟩::kws) (Zqz te t):=by
 intro pos pins s σ H Q I h
 show wpAny _ _ (evalAll ((do let v <- eval e X.env;standAt pos;pure v)::(backToKw pos (keywordEach kws X.env)).map (·.2))) _ _ s
 refine wpAny_evalAll_cons (Qaa (thn (ha pins s σ H _ I h) fun u s1 ⟨x,H1,I1,r1,q1⟩=>Qaa (wpAny_standAt (Qae ?_))))
 exact thn (hr pos pins s1 σ H1 _ I1 q1) fun us s2 ⟨xs,H2,I2,r2,q2⟩=>⟨x::xs,H2,I2,.cons r1 r2,q2⟩
variable {g:List Value->List Value->List Value} {gV:List V->List V->List V}
end
structure ZD (N P:List Str) (sc:Scope):Prop where
 kind:sc.kind=.function
 co:sc.isCoroutine=false
 gen:sc.isGenerator=false
 nd:N.Nodup
 pre:N.take P.length=P
 par:∀ x∈P,sc.names.lookup x=some .local\/sc.names.lookup x=some .cell
 nofree:∀ y∈sc.names,y.2≠.free
theorem Zi4 {kindOf:Str->Option QbN} {x:Str}:∀ {binds:List (Str×Value)} {m:Str->Option Value},(∀ v,(x,v)∉binds)->bindL kindOf binds m x=m x
 | [],_,_=>rfl
 | (n,v)::r,m,h=>by
  unfold bindL
  rw [Zi4 fun w hw=>h w (Qag _ hw)]
  split
  ·have:x≠n:=by rintro rfl;exact h v Qam
   simp [this]
  ·rfl
theorem ZiN {kindOf:Str->Option QbN} {x:Str}:∀ {binds:List (Str×Value)} {m:Str->Option Value},(∀ v,(x,v)∉binds)->bindC kindOf binds m x=m x
 | [],_,_=>rfl
 | (n,v)::r,m,h=>by
  unfold bindC
  rw [ZiN fun w hw=>h w (Qag _ hw)]
  split
  ·rfl
  ·have:x≠n:=by rintro rfl;exact h v Qam
   simp [this]
theorem Zi9 {kindOf:Str->Option QbN} {x:Str} {v:Value}:∀ {P:List Str} {vs:List Value} {i:Nat} {m:Str->Option Value},P.Nodup->P[i]?=some x->vs[i]?=some v->kindOf x=some .local ->
  bindL kindOf (P.zip vs) m x=some v
 | [],_,_,_,_,h,_,_=>by simp at h
 | _::_,[],_,_,_,_,h,_=>by simp at h
 | p::P,w::vs,0,m,nd,h1,h2,hk=>by
  simp at h1 h2;subst h1;subst h2
  show bindL kindOf ((p,w)::P.zip vs) m p=_
  unfold bindL
  rw [Zi4 fun v hv=>(QbW.mp nd).1 (List.of_mem_zip hv).1,if_pos hk]
  simp
 | p::P,w::vs,i+1,m,nd,h1,h2,hk=>by
  show bindL kindOf ((p,w)::P.zip vs) m x=_
  unfold bindL
  exact Zi9 (i:=i) (QbW.mp nd).2 (by simpa using h1) (by simpa using h2) hk
theorem ZiQ {kindOf:Str->Option QbN} {x:Str} {v:Value}:∀ {P:List Str} {vs:List Value} {i:Nat} {m:Str->Option Value},P.Nodup->P[i]?=some x->vs[i]?=some v->kindOf x≠some .local ->
  bindC kindOf (P.zip vs) m x=some v
 | [],_,_,_,_,h,_,_=>by simp at h
 | _::_,[],_,_,_,_,h,_=>by simp at h
 | p::P,w::vs,0,m,nd,h1,h2,hk=>by
  simp at h1 h2;subst h1;subst h2
  show bindC kindOf ((p,w)::P.zip vs) m p=_
  unfold bindC
  rw [ZiN fun v hv=>(QbW.mp nd).1 (List.of_mem_zip hv).1,if_neg hk]
  simp
 | p::P,w::vs,i+1,m,nd,h1,h2,hk=>by
  show bindC kindOf ((p,w)::P.zip vs) m x=_
  unfold bindC
  exact ZiQ (i:=i) (QbW.mp nd).2 (by simpa using h1) (by simpa using h2) hk
def Zcq (N:List Str) (vs:List V):St:=vs.map some++QaT (N.length-vs.length) none
def ZeH (CX:CXT) (P:Qav) (w:World) (K:Qab) (mg:Str->Option Value) (base:Heap) (N:List Str) (qual:Str) (scope:Scope) (f:Addr) (cd:Value) (A:Around) (outer:List Env) (s:Shared) (H:Hp) (E:XK):Cx where
 prog:=P
 w:=w
 K:=K
 mg:=mg
 base:=base
 A:=A.deeper (envOfC qual scope s.heap.objs.size f cd)
 N:=N
 s₀:=s
 H₀:=H
 env:=envOfC qual scope s.heap.objs.size f cd
 outer:=outer
 stack:=envOfC qual scope s.heap.objs.size f cd::outer
 ex:=[]
 calm:=true
 fn:=fun _=>true
 pn:=[]
 xe:=fun e s'=>wpAny (model P w) (A.deeper (envOfC qual scope s.heap.objs.size f cd)) (leaving (envOfC qual scope s.heap.objs.size f cd) e) (fun _ s''=>CX outer H s E e s'') (fun e' s''=>CX outer H s E e' s'') s'
theorem Zj3 {sc:Scope} {n:Nat} {x:Str} (h:sc.names.lookup x=some .cell):∃ c,(cellsFrom n sc.names []).lookup x=some c:=by
 have q:=PySem.W.cellsFrom_some sc.names n [] (.inl h)
 exact Option.isSome_iff_exists.mp q
theorem Zov {CX:CXT} {P:Qav} {w:World} {K:Qab} {mg:Str->Option Value} {base:Heap} {N ps:List Str} {qual:Str} {scope:Scope} {f:Addr} {cd:Value} {A:Around} {outer:List Env} {s s1:Shared} {H:Hp} {E:XK} {us:List Value} {vs:List V}
  (S:ZD N ps scope) (hd:A.handled=none) (e0:Env0 P w K mg base A outer s H) (hl:vs.length=ps.length) (r:Vals vs us)
  (x:InCallC s s.heap.objs.size (bindL (envOfC qual scope s.heap.objs.size f cd).kindOf (ps.zip us) fun _=>none) (cellsFrom (s.heap.objs.size+1) scope.names []) (bindC (envOfC qual scope s.heap.objs.size f cd).kindOf (ps.zip us) fun _=>none) s1) :
  Inv (ZeH CX P w K mg base N qual scope f cd A outer s H E) [] (Zcq N vs) H s1:=by
 have hpl:ps.length<=N.length:=by have:=congrArg List.length S.pre;rw [List.length_take] at this;omega
 obtain ⟨h1,tk,rfl,hk⟩:=x.done
 have noA:∀ b:Addr,b∉(ZeH CX P w K mg base N qual scope f cd A outer s H E).ex:=fun b z=>absurd (show b∈([]:List Addr) from z) (by simp)
 refine ⟨⟨e0.mod,S.kind,rfl,rfl,Qau _,fun y z c h1 h2=>?_,fun y hy=>?_,fun y c _ h=>?_,fun _=>hd,Around.frames_deeper e0.frames,.inr ⟨rfl,rfl⟩,fun b z=>absurd z (noA b),e0.bs,e0.bsz,fun b _ _=>noA b,fun b z=>absurd z (noA b),e0.funs,e0.frf⟩,
  rfl,e0.bare,Un.kept hk,⟨_,x.toInCall.ns,fun i y v h1 h2 h3=>?_⟩,fun y c h=>⟨_,x.cell y c h⟩,e0.hok.fresh (Qau _),fun y c h=>?_,fun p hp=>absurd (show p∈([]:List (Addr×Obj)) from hp) (by simp),e0.hok.kept hk,?_⟩
 ·exact name_of_addr x.apart (QbJ h1) (QbJ h2)
 ·have hy:scope.names.lookup y=some .cell\/scope.names.lookup y=some .free:=hy
  rcases hy with hy | hy
  ·exact Zj3 hy
  ·exact absurd rfl (S.nofree _ (QbJ hy))
 ·exact QcI (x.above y c (QbJ h))
 ·have hi:i<vs.length:=by
   unfold Zcq at h2
   by_cases hi:i<vs.length
   ·exact hi
   ·rw [Qch (by simpa using hi)] at h2
    rw [Qbj] at h2
    split at h2<;>cases h2
  have ha:vs[i]?=some v:=by
   unfold Zcq at h2
   rw [QbA (by simpa using hi),Qa1] at h2
   cases e:vs[i]? with
   | none=>rw [e] at h2;cases h2
   | some a=>rw [e] at h2;cases h2;rfl
  obtain ⟨u,hu,rv⟩:=r.get ha
  have hp:ps[i]?=some y:=by
   rw [<- S.pre,List.getElem?_take_of_lt (by omega)];exact h1
  have ndP:ps.Nodup:=by rw [<- S.pre];exact S.nd.sublist (List.take_sublist _ _)
  refine ⟨u,rv,?_⟩
  rcases S.par y (QcR hp) with k | k
  ·exact .inl ⟨k,Zi9 ndP hp hu k⟩
  ·obtain ⟨c,e⟩:=Zj3 (n:=s.heap.objs.size+1) k
   refine .inr ⟨.inl k,c,e,?_⟩
   have q:=x.cell y c e
   rw [ZiQ ndP hp hu (by show scope.names.lookup y≠_;rw [k];decide)] at q
   exact q
 ·exact e0.hok.fresh (QcI (x.above y c (QbJ h)))
 ·unfold Zcq
  show _=N.length
  rw [Qbg,Qaz,QbB]
  omega
theorem Zqq {CX:CXT} {P:Qav} {w:World} {K:Qab} {mg:Str->Option Value} {base:Heap} {k:Nat} {f:Addr} {name qual:Str} {params:Arguments} {body:List Stmt} {scope:Scope} {dV kV doc pm cdv ct oc:Value} {an od:Option Addr}
  {osl:Array (Option Value)} {N ps:List Str} {sp:Sp} (lk:K.lookup f=some ⟨oc,od,.func (QaI name qual params body scope dV kV doc pm an cdv ct),osl⟩) (hcd:QaE K cdv qual=true) (S:ZD N ps scope)
  (len:∀ vs H Q E,sp vs H Q E->vs.length=ps.length)
  (hbody:∀ (A:Around) (outer:List Env) (s:Shared) (H:Hp) (vs:List V) (Q:VK) (E:XK),Room k (A.deeper (envOfC qual scope s.heap.objs.size f cdv))->sp vs H Q E ->
   ∃ t,PSs (ZeH CX P w K mg base N qual scope f cdv A outer s H E) body t/\t { nx:=fun _ H'=>Q .non H',rt:=Q } (Zcq N vs) H) :
  FnOk P w K mg base CX (k+1) f (QaI name qual params body scope dV kV doc pm an cdv ct) ps sp:=by
 refine ⟨len,fun A outer s H args us vs Q E hr e0 hb r hsp=>?_⟩
 have hl:=len _ _ _ _ hsp
 have KX:K.In s.heap:=e0.mod.kin.keeps fun b o e=>(e0.bs b o e).1
 have lim:s.heap.NoLimit:=e0.mod.nolimit.keeps fun b o e=>(e0.bs b o e).1
 have hkind:∀ y∈ps.zip us,scope.names.lookup y.1=some .local\/(scope.names.lookup y.1=some .cell/\((cellsFrom (s.heap.objs.size+1) scope.names []).lookup y.1).isSome=true):=fun ⟨n,v⟩ hy=>by
  rcases S.par n (List.of_mem_zip hy).1 with q | q
  ·exact .inl q
  ·exact .inr ⟨q,PySem.W.cellsFrom_some _ _ _ (.inl q)⟩
 refine codeAny_call_function hr.depth (KX _ _ lk) rfl S.co S.gen rfl (PySem.W.codeRec_of KX hcd) (hb _ _ _ _ ?_)
 refine wpAny_newFunctionEnv_cells S.kind hkind fun env he s1 x=>?_
 subst he
 refine ⟨lim.keeps x.toInCall.keep,codeAny_func ?_⟩
 obtain ⟨t,ht,hq⟩:=hbody A outer s H vs Q E (hr.deeper _) hsp
 have I:Inv (ZeH CX P w K mg base N qual scope f cdv A outer s H E) [] (Zcq N vs) H s1:=Zov S hr.hd e0 hl r x
 refine Qbp (ht [] s1 (Zcq N vs) H _ I hq) (fun fl s' hs=>?_) fun e s' hs=>hs
 have fin:∀ {σ':St} {H':Hp} {v:V} {u:Value},Inv (ZeH CX P w K mg base N qual scope f cdv A outer s H E) [] σ' H' s'->RelV v u->Q v H'->CE outer P w H s Q u s' :=
  fun {σ' H' v u} J rv q=>⟨v,H',J.os,J.bare,J.base,J.hok,rv,q⟩
 cases fl with
 | ret u =>
  obtain ⟨v,σ',H',J,rv,q⟩:=hs
  exact fin J rv q
 | next =>
  obtain ⟨σ',H',J,q⟩:=hs
  exact fin (v:=V.non) (u:=Qbl) J rfl q
 | brk =>
  obtain ⟨_,_,_,q⟩:=hs
  exact QaJ q
 | cont =>
  obtain ⟨_,_,_,q⟩:=hs
  exact QaJ q
end L2
namespace L2
open PySem PySem.Spec PyProof.Rows
section
variable {X:Cx} {x:Str} {p pos:Pos} {e:Expr} {es:List Expr} {t:TA} {id T:String} {r:List V->Hp->VK->Prop}
def tCB (r:List V->Hp->VK->Prop) (t:TA):TE:=fun σ H Q=>t σ H fun vs H1=>r vs H1 Q
theorem Zhg (hc:CallR X (.builtin id) r) (hg:Gl X x) (hm:X.mg x=none) (hv:Qbe x=some (.builtin id)) (ha:PA X (e::es) t) (hn:x≠"__name__":=by decide) (hdb:(x==("__debug__":Str))=false:=by decide)
  (he:Qas (e::es) X.env=(false,eval e X.env)::Qas es X.env:=by rfl) (hpl:(backTo pos (Qas es X.env)).any (·.1)=false:=by rfl):PE X (.Call (.Name x p) (e::es) [] pos) (tCB r t):=by
 intro pins s σ H Q I h
 refine Qb8 (Zb1 I hg hm hv ?_ hn hdb)
 exact PyProof.Rows.callWith_builtin1 (thn (ha pos pins s σ H _ I h) fun us s1 ⟨vs,H1,I1,r1,q1⟩=>hc pins s1 σ H1 vs us Q I1 r1 q1) he hpl
theorem Zi6 (hc:CallR X (.type T) r) (hg:Gl X x) (hm:X.mg x=none) (hv:Qbe x=some (.type T)) (ha:PA X (e::es) t) (hn:x≠"__name__":=by decide) (hdb:(x==("__debug__":Str))=false:=by decide)
  (he:Qas (e::es) X.env=(false,eval e X.env)::Qas es X.env:=by rfl) (hpl:(backTo pos (Qas es X.env)).any (·.1)=false:=by rfl):PE X (.Call (.Name x p) (e::es) [] pos) (tCB r t):=by
 intro pins s σ H Q I h
 refine Qb8 (Zb1 I hg hm hv ?_ hn hdb)
 exact Qbi (thn (ha pos pins s σ H _ I h) fun us s1 ⟨vs,H1,I1,r1,q1⟩=>hc pins s1 σ H1 vs us Q I1 r1 q1) he hpl
end
end L2
namespace HT
open PySem PyProof.Rows
theorem rcLt_int (A:Around) (s:Shared) (a:Int) (t:Tok) (c:Int) (u:Tok) (prog:Qav) (w:World) (E:Value->Shared->Prop) (Q:Value->Shared->Prop) (h:Q (.bool (decide (a<c))) s) :
  wpAny (model prog w) A (richCompare .Lt (.int a t) (.int c u)) Q E s :=
 (PyProof.Rows.lt_int h:wpAny (model prog w) A (QbG .Lt (.int a t) (.int c u)) Q E s)
section
open PySem.SeqAt
open PySem.AutoSeq1 (wpAny_loadPart')
open PySem.MeetsSeq PySem.MeetsSeq2 PySem.MeetsSeq3
end
section
variable {prog:Qav} {w:World} {A:Around} {E:Value->Shared->Prop} {s:Shared}
def sIx (n d:Nat):Option Int->Nat
 | none=>d
 | some v=>if v<0 then (v+(n:Int)).toNat else min v.toNat n
theorem ZsC (n d:Nat) (hd:d<=n) (o:Option Int):sIx n d o<=n:=by
 cases o with
 | none=>exact hd
 | some v =>
  show (if v<0 then (v+(n:Int)).toNat else min v.toNat n)<=n
  by_cases hv:v<0
  ·rw [if_pos hv];omega
  ·rw [if_neg hv];exact Nat.min_le_right _ _
theorem Zl3 (v:Int) (n d:Nat):(if v<0 then max (v+(n:Int)) 0 else min v (n:Int))=((sIx n d (some v):Nat):Int):=by
 show (if v<0 then max (v+(n:Int)) 0 else min v (n:Int))=(((if v<0 then (v+(n:Int)).toNat else min v.toNat n):Nat):Int)
 by_cases hv:v<0
 ·simp only [if_pos hv];omega
 ·simp only [if_neg hv];omega
theorem Znp (lo hi:Option Int) (n:Nat):Qc2 lo hi 1 (n:Int)=(((sIx n 0 lo:Nat):Int),((sIx n n hi:Nat):Int)):=by
 have h1:¬ ((1:Int)<0):=by omega
 unfold Qc2
 simp only [h1,if_false]
 refine Prod.ext ?_ ?_
 ·cases lo with
  | none=>rfl
  | some v=>exact Zl3 v n 0
 ·cases hi with
  | none=>rfl
  | some v=>exact Zl3 v n n
theorem ZmG (i j:Nat):Qcj (i:Int) (j:Int) 1=j-i:=by
 unfold Qcj
 have h1:(1:Int) > 0:=by omega
 simp only [h1,if_true,Int.ediv_one]
 split<;>omega
theorem ZhS {v:Value} {o:Option Int} {Q:Option Int->Shared->Prop} (p:IsPart v o) (h:Q o s):wpAny (model prog w) A (Builtin.Slice.slicePartIndex v) Q E s:=by
 cases p with
 | none=>exact slicePart_none h
 | int i t=>exact slicePart_int h
theorem sliceApplied_gen {sl:Addr} {vl vu:Value} {lo hi:Option Int} {n:Nat} {Q:Int×Int×Nat->Shared->Prop} (hs:s.heap.IsSliceOf sl vl vu .none) (pl:IsPart vl lo) (pu:IsPart vu hi)
  (h:Q (((sIx n 0 lo:Nat):Int),1,sIx n n hi-sIx n 0 lo) s):wpAny (model prog w) A (Builtin.Slice.sliceApplied (.ref sl) (pure (n:Int))) Q E s:=by
 obtain ⟨os,hos,hcs,hds⟩:=id hs
 unfold Builtin.Slice.sliceApplied Builtin.Slice.sliceFields
 refine Qaa (Qaa (QaM hos hds (x:=vl) rfl (Qaa (QaM hos hds (x:=vu) rfl (Qaa (QaM hos hds (x:=.none) rfl (Qae ?_)))))))
 refine Qaa (slicePart_none ?_)
 show wpAny _ _ (if ((1:Int)==0)=true then _ else _) _ _ s
 rw [if_neg (by decide)]
 refine Qaa (ZhS pl (Qaa (ZhS pu (Qaa (Qae ?_)))))
 show wpAny _ _ (match Qc2 lo hi 1 (n:Int) with | (lo,hi)=>pure (lo,(1:Int),Qcj lo hi 1)) _ _ s
 rw [Znp lo hi n]
 show wpAny _ _ (pure (((sIx n 0 lo:Nat):Int),(1:Int),Qcj ((sIx n 0 lo:Nat):Int) ((sIx n n hi:Nat):Int) 1)) _ _ s
 rw [ZmG]
 exact Qae h
theorem ZpX (xs:Array Value) (i k:Nat):((Qaw k).filterMap fun (m:Nat)=>xs[((i:Int)+(m:Int) * 1).toNat]?).toArray=((xs.toList.drop i).take k).toArray:=by
 have e:(fun (m:Nat)=>xs[((i:Int)+(m:Int) * 1).toNat]?)=fun m=>xs[i+m]?:=by
  funext m
  have:((i:Int)+(m:Int) * 1).toNat=i+m:=by omega
  rw [this]
 rw [e]
 have:=pick_run xs i k
 rw [List.filterMap_map] at this
 have e2:((fun x=>xs[x]?)∘fun x=>i+x)=fun m=>xs[i+m]?:=rfl
 rw [e2] at this
 rw [this]
theorem getItem_tuple_cut {t sl:Addr} {items:Array Value} {vl vu:Value} {lo hi:Option Int} {Q:Value->Shared->Prop} (ht:IsTup s.heap t items) (hs:s.heap.IsSliceOf sl vl vu .none) (pl:IsPart vl lo) (pu:IsPart vu hi)
  (hw:¬ (sIx items.size 0 lo=0/\sIx items.size items.size hi=items.size))
  (h:Q (.ref s.heap.objs.size) { s with heap:=s.heap.push { cls:=.type "tuple",data:=.seq ((items.toList.drop (sIx items.size 0 lo)).take (sIx items.size items.size hi-sIx items.size 0 lo)).toArray } })
  (hsz:items.size<=Qaj):wpAny (model prog w) A (getItem (.ref t) (.ref sl)) Q E s:=by
 have htake:sizeOk (.seq ((items.toList.drop (sIx items.size 0 lo)).take (sIx items.size items.size hi-sIx items.size 0 lo)).toArray):=by
  show ((items.toList.drop (sIx items.size 0 lo)).take (sIx items.size items.size hi-sIx items.size 0 lo)).toArray.size<=Qaj
  rw [Qal,List.length_take,Qb4,Qbo]
  omega
 have hj:sIx items.size items.size hi<=items.size:=ZsC _ _ (Qau _) hi
 obtain ⟨os,hos,hcs,hds⟩:=id hs
 have hTs:s.TypeIs (.ref sl) "slice":=⟨os,hos,hcs⟩
 unfold getItem
 try with_reducible refine Qa6 ?_
 first | refine Qaa (Qae ?_) | skip
 refine Qaa (wpAny_sequenceKey ht.typeIs (by decide) ?_)
 refine Qaa (QaU (name:=QaY "__getitem__") ht.typeIs QbQ
  (Qa4 QbQ ht.typeIs entry_tuple_getitem ?_ (args_tuple_getitem _ _)))
 show wpAny _ _ (Builtin.Tuple.tupleItemsOf (.ref t) >>= _) _ _ s
 refine Qaa (tupleItemsOf_ ht ?_)
 refine Qaa (Qcp hTs ?_)
 rw [if_pos (by decide)]
 refine Qaa (sliceApplied_gen hs pl pu ?_)
 have hno:¬ ((((sIx items.size 0 lo:Nat):Int)==0&&(1:Int)==1&&(sIx items.size items.size hi-sIx items.size 0 lo)==items.size)=true):=by
  intro q
  rw [QaW,QaW] at q
  have q1:((sIx items.size 0 lo:Nat):Int)=0:=eq_of_beq q.1.1
  have q2:sIx items.size items.size hi-sIx items.size 0 lo=items.size:=eq_of_beq q.2
  exact hw ⟨by omega,by omega⟩
 show wpAny _ _ (if (((sIx items.size 0 lo:Nat):Int)==0&&(1:Int)==1&&(sIx items.size items.size hi-sIx items.size 0 lo)==items.size)=true then _ else _) _ _ s
 rw [if_neg hno,ZpX]
 first
  | exact Qaa (m:=Qcq _) (Qbf (Qae ⟨_,rfl,Qae h⟩) htake)
  | exact Qaa (m:=Qcq _) (Qbf (Qaa (Qae (Qae ⟨_,rfl,Qae h⟩))) htake)
  | exact Qaa (Qaa (m:=Qcq _) (Qbf (Qae (Qae ⟨_,rfl,Qae h⟩)) htake))
  | exact Qaa (Qaa (m:=Qcq _) (Qbf (Qae ⟨_,rfl,Qae h⟩) htake))
end
end HT
namespace L2
open PySem PySem.Spec PyProof.Rows
abbrev TO:=St->Hp->(Option Int->Hp->Prop)->Prop
def PO (X:Cx) (e:Option Expr) (t:TO):Prop :=
 ∀ (pins:List (Addr×Obj)) (s:Shared) (σ:St) (H:Hp) (Q:Option Int->Hp->Prop),Inv X pins σ H s->t σ H Q ->
  wpAny (model X.prog X.w) X.A (evalPart e X.env) (fun u s'=>∃ o H',Inv X pins σ H' s'/\IsPart u o/\Q o H') X.xe s
def ZqI:TO:=fun _ H Q=>Q none H
def Zul (t:TE):TO:=fun σ H Q=>t σ H fun x H1=>∃ i,x=.int i/\Q (some i) H1
theorem ZdL {ns:List Int}:∀ {us:List Value},Vals (ns.map V.int) us->IntsAre us ns:=by
 induction ns with
 | nil=>intro us r;rw [Qa3] at r;cases r;exact .nil
 | cons n ns ih =>
  intro us r
  rw [Qai] at r
  cases r with
  | cons r1 r2 =>
   obtain ⟨t,e⟩:=r1
   subst e
   exact .cons n t (ih r2)
section
variable {X:Cx} {e:Expr} {te:TE} {lo hi:Option Expr} {tl th:TO} {pos p2:Pos}
theorem ZqJ:PO X none ZqI:=by
 intro pins s σ H Q I h
 rw [evalPart_none]
 exact Qae ⟨none,H,I,.none,h⟩
theorem ZqE (h:PE X e te):PO X (some e) (Zul te):=by
 intro pins s σ H Q I hw
 rw [evalPart_some]
 refine thn (h pins s σ H _ I hw) fun u s1 ⟨x,H1,I1,r1,q1⟩=>?_
 obtain ⟨i,rfl,q⟩:=q1
 obtain ⟨t,rfl⟩:=r1
 exact ⟨some i,H1,I1,.int i t,q⟩
def SlR (X:Cx) (r:V->Option Int->Option Int->Hp->VK->Prop):Prop :=
 ∀ (pins:List (Addr×Obj)) (s:Shared) (σ:St) (H:Hp) (x:V) (v vl vu:Value) (lo hi:Option Int) (sl:Addr) (Q:VK),Inv X pins σ H s->RelV x v->s.heap.IsSliceOf sl vl vu .none->IsPart vl lo->IsPart vu hi->r x lo hi H Q ->
  ∃ T id,typeLookup (.type T) "__getitem__"=pure (some (.builtin id))/\s.TypeIs v T/\wpAny (model X.prog X.w) X.A (getItem v (.ref sl)) (EP X pins σ Q) X.xe s
theorem SlR.or {r r':V->Option Int->Option Int->Hp->VK->Prop} (h:SlR X r) (h':SlR X r'):SlR X (fun x lo hi H Q=>r x lo hi H Q\/r' x lo hi H Q):=by
 intro pins s σ H x v vl vu lo hi sl Q I rx hs pl pu q
 rcases q with q | q
 ·exact h pins s σ H x v vl vu lo hi sl Q I rx hs pl pu q
 ·exact h' pins s σ H x v vl vu lo hi sl Q I rx hs pl pu q
def tSl (r:V->Option Int->Option Int->Hp->VK->Prop) (te:TE) (tl th:TO):TE:=fun σ H Q=>te σ H fun x H1=>tl σ H1 fun l H2=>th σ H2 fun u H3=>r x l u H3 Q
theorem Zpj {r:V->Option Int->Option Int->Hp->VK->Prop} (hr:SlR X r) (he:PE X e te) (hl:PO X lo tl) (hu:PO X hi th):PE X (.Subscript e (.Slice lo hi none p2) pos) (tSl r te tl th):=by
 intro pins s σ H Q I h
 refine Subscript_ (thn (he pins s σ H _ I h) fun v s1 ⟨x,H1,I1,r1,q1⟩=>?_)
 refine wpAny_Slice (thn (hl pins s1 σ H1 _ I1 q1) fun vl s2 ⟨l,H2,I2,pl,q2⟩=>thn (hu pins s2 σ H2 _ I2 q2) fun vu s3 ⟨u,H3,I3,pu,q3⟩=>?_)
 rw [evalPart_none]
 refine Qae ?_
 have I4:Inv X pins σ H3 { s3 with heap:=s3.heap.push { cls:=.type "slice",data:=.fields #[vl,vu,.none] } }:=I3.kept (t':=s3.toks) fun b ob q=>Qac _ q
 obtain ⟨T,id,hT,ht,hg⟩:=hr pins { s3 with heap:=s3.heap.push { cls:=.type "slice",data:=.fields #[vl,vu,.none] } } σ H3 x v vl vu l u s3.heap.objs.size Q I4 r1 (Heap.IsSliceOf.new ..) pl pu q3
 show wpAny (model X.prog X.w) X.A (subscriptTail e (.Slice lo hi none p2) v (.ref s3.heap.objs.size)) (EP X pins σ Q) X.xe { s3 with heap:=s3.heap.push { cls:=.type "slice",data:=.fields #[vl,vu,.none] } }
 exact tail_any (ops:=[.ref s3.heap.objs.size,v]) ht hT hg (by with_unfolding_all rfl)
def Zea (xs:List V) (lo hi:Option Int):List V:=(xs.drop (HT.sIx xs.length 0 lo)).take (HT.sIx xs.length xs.length hi-HT.sIx xs.length 0 lo)
theorem Zg6 (xs:List V) (lo hi:Option Int):(Zea xs lo hi).length<=xs.length:=by
 unfold Zea
 rw [List.length_take,Qb4]
 omega
def Zu0 (K:Qab):V->Option Int->Option Int->Hp->VK->Prop:=fun x lo hi H Q=>∃ a xs,x=.ref a/\SqT K H a xs /\
 ¬ (HT.sIx xs.length 0 lo=0/\HT.sIx xs.length xs.length hi=xs.length)/\∀ p,H p=none->Q (.ref p) (upd H p (.tup (Zea xs lo hi)))
theorem Zsw:SlR X (Zu0 X.K):=by
 intro pins s σ H x v vl vu lo hi sl Q I rx hs pl pu h
 obtain ⟨a,xs,rfl,hx,hw,q⟩:=h
 cases rx
 obtain ⟨its,r,ht,hz⟩:=I.tuple hx
 have hlen:its.toArray.size=xs.length:=by rw [Qal];exact r.length.symm
 refine ⟨"tuple",_,PyProof.Rows.slot_tuple_getitem.lookup,ht.typeIs,?_⟩
 refine HT.getItem_tuple_cut ht hs pl pu (by rw [hlen];exact hw) ?_ (by rw [hlen];exact hz)
 rw [hlen]
 refine ⟨.ref s.heap.objs.size,_,I.laid (t':=s.toks) (o:=.tup (Zea xs lo hi)) (fun b ob q=>Qac _ q) (Qau _) ?_,rfl,q _ (I.hok.fresh (Qau _))⟩
 exact ⟨QaP (Zg6 xs lo hi) hz,_,(r.drop (HT.sIx xs.length 0 lo)).take (HT.sIx xs.length xs.length hi-HT.sIx xs.length 0 lo),IsTup.new _ _⟩
end
end L2
namespace L2
open PySem PySem.Spec PyProof.Rows
def ixN (n:Nat) (i:Int):Option Nat:=if 0<=i then (if i<n then some i.toNat else none) else if -(n:Int)<=i then some (i+n).toNat else none
def atI {α:Type} (xs:List α) (i:Int):Option α:=(ixN xs.length i).bind fun j=>xs[j]?
theorem ZrC {n:Nat} {i:Int} {j:Nat} (h:ixN n i=some j):seqIndex? i n=some j/\j<n /\ -(n:Int)<=i/\i<n:=by
 unfold ixN at h
 by_cases h0:0<=i
 ·rw [if_pos h0] at h
  by_cases h1:i<n
  ·rw [if_pos h1] at h
   have e:i.toNat=j:=Qbr h
   exact ⟨by rw [seqIndex_of h0 h1,e],by omega,by omega,h1⟩
  ·rw [if_neg h1] at h;cases h
 ·rw [if_neg h0] at h
  by_cases h1 : -(n:Int)<=i
  ·rw [if_pos h1] at h
   have e:(i+n).toNat=j:=Qbr h
   exact ⟨by rw [seqIndex_neg (by omega) h1,e],by omega,h1,by omega⟩
  ·rw [if_neg h1] at h;cases h
theorem Zim {α:Type} {xs:List α} {i:Int} {v:α} (h:atI xs i=some v):∃ j,seqIndex? i xs.length=some j/\xs[j]?=some v/\j<xs.length /\ -(xs.length:Int)<=i/\i<xs.length:=by
 unfold atI at h
 cases e:ixN xs.length i with
 | none=>rw [e] at h;cases h
 | some j =>
  rw [e] at h
  obtain ⟨h1,h2,h3,h4⟩:=ZrC e
  exact ⟨j,h1,h,h2,h3,h4⟩
theorem ZbL {α:Type} {xs:List α} {j:Nat} {v:α} (h:xs[j]?=some v):atI xs (j:Int)=some v:=by
 have hj:j<xs.length:=(List.getElem?_eq_some_iff.mp h).1
 have e:ixN xs.length (j:Int)=some j:=by
  unfold ixN
  rw [if_pos (by omega),if_pos (by omega)];simp
 unfold atI;rw [e];exact h
theorem Zle {α:Type} (xs:List α) (v:α):atI (xs++[v]) (-1)=some v:=by
 have hl:(xs++[v]).length=xs.length+1:=by simp
 have e:ixN (xs++[v]).length (-1)=some xs.length:=by
  unfold ixN
  rw [hl,if_neg (by decide),if_pos (by omega)]
  congr 1
  omega
 unfold atI
 rw [e]
 show (xs++[v])[xs.length]?=some v
 simp
def Zg0 (b:Expr):Prop:=∀ o i,subscripted b false o i=operate [o,i] (getItem o i)
def IxR (X:Cx) (r:R2):Prop :=
 ∀ (value slice:Expr) (pins:List (Addr×Obj)) (s:Shared) (σ:St) (H:Hp) (x y:V) (v u:Value) (Q:VK),Inv X pins σ H s->RelV x v->RelV y u->r x y H Q ->
  subscripted slice false v u=operate [v,u] (getItem v u)->wpAny (model X.prog X.w) X.A (subscriptTail value slice v u) (EP X pins σ Q) X.xe s
def MtR (X:Cx) (id:String) (r:V->List V->Hp->VK->Prop):Prop :=
 ∀ (pins:List (Addr×Obj)) (s:Shared) (σ:St) (H:Hp) (x:V) (xs:List V) (v:Value) (us:List Value) (Q:VK),Inv X pins σ H s->RelV x v->Vals xs us->r x xs H Q ->
  wpAny (model X.prog X.w) X.A (call (.builtin id) (v::us)) (EP X pins σ Q) X.xe s
section
variable {X:Cx} {a b:Expr} {ta tb:TE} {pos:Pos}
theorem IxR.or {r r':R2} (h:IxR X r) (h':IxR X r'):IxR X (fun x y H Q=>r x y H Q\/r' x y H Q):=by
 intro value slice pins s σ H x y v u Q I rx ry q hs
 rcases q with q | q
 ·exact h value slice pins s σ H x y v u Q I rx ry q hs
 ·exact h' value slice pins s σ H x y v u Q I rx ry q hs
theorem MtR.or {id:String} {r r':V->List V->Hp->VK->Prop} (h:MtR X id r) (h':MtR X id r'):MtR X id (fun x xs H Q=>r x xs H Q\/r' x xs H Q):=by
 intro pins s σ H x xs v us Q I rx rs q
 rcases q with q | q
 ·exact h pins s σ H x xs v us Q I rx rs q
 ·exact h' pins s σ H x xs v us Q I rx rs q
theorem Zt7 {r:R2} (hr:IxR X r) (ha:PE X a ta) (hb:PE X b tb) (hs:Zg0 b):PE X (.Subscript a b pos) (tOp r ta tb):=by
 intro pins s σ H Q I h
 exact Subscript_ (Zpm ha hb I h fun v u s2 x y H2 I2 rx ry q=>hr a b pins s2 σ H2 x y v u Q I2 rx ry q (hs _ _))
def Zs6 (K:Qab):R2:=fun x y H Q=>∃ p xs i v,x=.ref p/\y=.int i/\SqL K H p xs/\atI xs i=some v/\Q v H
def Zsr (K:Qab):R2:=fun x y H Q=>∃ p xs i v,x=.ref p/\y=.int i/\SqT K H p xs/\atI xs i=some v/\Q v H
def Zr3:R2:=fun x y H Q=>∃ z i c,x=.str z/\y=.int i/\z.length<=Qaj/\atI z.cps.toList i=some c/\Q (.str ⟨#[c]⟩) H
theorem ix_list:IxR X (Zs6 X.K):=by
 intro value slice pins s σ H x y v u Q I rx ry h hs
 obtain ⟨p,xs,i,z,rfl,rfl,hq,he,q⟩:=h
 cases rx
 obtain ⟨t,rfl⟩:=ry
 obtain ⟨its,r,pl,hz⟩:=I.list hq
 obtain ⟨j,h1,h2,h3,h4,h5⟩:=Zim he
 obtain ⟨w,ew,rw'⟩:=r.get h2
 have hl:=r.length
 have hn:=Zgk
 have fin:EP X pins σ Q w s:=⟨z,H,I,rw',q⟩
 by_cases h0:0<=i
 ·have hj:i.toNat=j:=by
   rw [seqIndex_of h0 h5] at h1
   exact Qbr h1
  exact item_listR pl.isList h0 (by omega) (by rw [hj];simpa using ew) fin hs
 ·have hj:(i+(its.toArray.size:Int)).toNat=j:=by
   rw [seqIndex_neg (by omega) h4] at h1
   rw [Qal,<- hl]
   exact Qbr h1
  exact subscriptTail_builtinR (x:=w) pl.isList.typeIs slot_list_getitem.lookup
   (wpAny_getItem_list_neg (Q:=fun r s'=>r=w/\EP X pins σ Q r s') pl.isList (by omega) (by rw [Qal]<;>omega) (by omega) (by rw [hj];simpa using ew) ⟨rfl,fin⟩) hs
theorem ix_tup:IxR X (Zsr X.K):=by
 intro value slice pins s σ H x y v u Q I rx ry h hs
 obtain ⟨p,xs,i,z,rfl,rfl,hq,he,q⟩:=h
 cases rx
 obtain ⟨t,rfl⟩:=ry
 obtain ⟨its,r,pl,hz⟩:=I.tuple hq
 obtain ⟨j,h1,h2,h3,h4,h5⟩:=Zim he
 obtain ⟨w,ew,rw'⟩:=r.get h2
 have hl:=r.length
 have hn:=Zgk
 have fin:EP X pins σ Q w s:=⟨z,H,I,rw',q⟩
 exact subscriptTail_builtinR (x:=w) pl.typeIs slot_tuple_getitem.lookup
  (getItem_tuple (j:=j) (Q:=fun r s'=>r=w/\EP X pins σ Q r s') pl (by omega) (by omega) (by rw [Qal,<- hl];exact h1) (by simpa using ew) ⟨rfl,fin⟩) hs
theorem Zsx:IxR X Zr3:=by
 intro value slice pins s σ H x y v u Q I rx ry h hs
 obtain ⟨z,i,c,rfl,rfl,hz,he,q⟩:=h
 obtain ⟨t,rfl⟩:=rx
 obtain ⟨t',rfl⟩:=ry
 obtain ⟨j,h1,h2,h3,h4,h5⟩:=Zim he
 have hl:z.cps.toList.length=z.length:=by simp [Str.length]
 rw [hl] at h1 h4 h5
 have hn:=Zgk
 exact tail_any (typeIs_str s z t) slot_str_getitem.lookup (getItem_str (c:=c) (by
  have e1:decide (i < -(2^63:Int))=false:=decide_eq_false (by omega)
  have e2:decide (i≥2^63)=false:=decide_eq_false (by omega)
  rw [e1,e2,Bool.or_false]) (by rw [h1];simpa using h2) ⟨.str ⟨#[c]⟩,H,I.tok _,⟨_,rfl⟩,q⟩) hs
def rIx (K:Qab):R2:=fun x y H Q=>Zs6 K x y H Q\/Zsr K x y H Q\/Zr3 x y H Q
theorem ZsO:IxR X (rIx X.K):=ix_list.or (ix_tup.or Zsx)
theorem Inv.lst {pins:List (Addr×Obj)} {σ:St} {H:Hp} {s:Shared} {p:Addr} {xs:List V} (I:Inv X pins σ H s) (h:H p=some (.lst xs)) :
  ∃ (its:List Value) (n:Nat),Vals xs its/\s.heap.get? p=some { cls:=.type "list",data:=.seq its.toArray n }/\xs.length<=Qaj:=by
 obtain ⟨z,its,n,r,e⟩:=I.hok p _ h
 exact ⟨its,n,r,e,z⟩
theorem Zkv (lo hi:Option Int) (n:Nat):(sliceBounds lo hi none n).1=((HT.sIx n 0 lo:Nat):Int)/\(sliceBounds lo hi none n).2.1=((HT.sIx n n hi:Nat):Int)/\(sliceBounds lo hi none n).2.2=1:=by
 refine ⟨?_,?_,rfl⟩
 ·cases lo with
  | none=>simp [sliceBounds,HT.sIx]
  | some i =>
   simp only [sliceBounds,HT.sIx,Option.getD_none,show (1:Int) > 0 by decide,if_true]
   by_cases h:i<0
   ·simp only [h,if_true]<;>omega
   ·simp only [h,if_false]<;>omega
 ·cases hi with
  | none=>simp [sliceBounds,HT.sIx]
  | some i =>
   simp only [sliceBounds,HT.sIx,Option.getD_none,show (1:Int) > 0 by decide,if_true]
   by_cases h:i<0
   ·simp only [h,if_true]<;>omega
   ·simp only [h,if_false]<;>omega
theorem Zjd (its:List Value) (lo hi:Option Int):slicePick its.toArray lo hi none=((its.drop (HT.sIx its.length 0 lo)).take (HT.sIx its.length its.length hi-HT.sIx its.length 0 lo)).toArray:=by
 obtain ⟨h1,h2,h3⟩:=Zkv lo hi its.toArray.size
 unfold slicePick
 rw [h1,h2,h3]
 simp only [sliceRange_one,pick_run,Qal]<;>rfl
def ZuA (K:Qab):V->Option Int->Option Int->Hp->VK->Prop:=fun x lo hi H Q=>∃ a xs,x=.ref a/\SqL K H a xs/\∀ p,H p=none->Q (.ref p) (upd H p (.lst (Zea xs lo hi)))
theorem sl_list:SlR X (ZuA X.K):=by
 intro pins s σ H x v vl vu lo hi sl Q I rx hs pl pu h
 obtain ⟨a,xs,rfl,hx,q⟩:=h
 cases rx
 obtain ⟨its,r,ht,hz⟩:=I.list hx
 have hlen:=r.length
 refine ⟨"list",_,slot_list_getitem.lookup,ht.isList.typeIs,?_⟩
 refine wpAny_getItem_list_slice ht.isList hs pl pu .none (by simp) ?_ (by rw [Qal]<;>omega)
 rw [Zjd,<- hlen]
 refine ⟨.ref s.heap.objs.size,_,I.laid (t':=s.toks) (o:=.lst (Zea xs lo hi)) (fun b ob q=>Qac _ q) (Qau _) ?_,rfl,q _ (I.hok.fresh (Qau _))⟩
 exact ⟨QaP (Zg6 xs lo hi) hz,_,0,(r.drop (HT.sIx xs.length 0 lo)).take (HT.sIx xs.length xs.length hi-HT.sIx xs.length 0 lo),Qao _ rfl⟩
def Zqi:V->Bool
 | .non=>true
 | .bl _=>true
 | .int _=>true
 | .str _=>true
 | _=>false
def eqV:V->V->Bool
 | .non,.non=>true
 | .bl a,.bl b=>a==b
 | .bl a,.int b=>(if a then 1 else 0)==b
 | .int a,.bl b=>a==(if b then 1 else 0)
 | .int a,.int b=>a==b
 | .str a,.str b=>a==b
 | _,_=>false
theorem CallR.or {f:Value} {r r':List V->Hp->VK->Prop} (h:CallR X f r) (h':CallR X f r'):CallR X f (fun xs H Q=>r xs H Q\/r' xs H Q):=by
 intro pins s σ H xs us Q I rs q
 rcases q with q | q
 ·exact h pins s σ H xs us Q I rs q
 ·exact h' pins s σ H xs us Q I rs q
theorem Zgy:CallR X (.type "list") (fun xs H Q=>∃ p ys,xs=[.ref p]/\(SqL X.K H p ys\/SqT X.K H p ys)/\∀ l,H l=none->Q (.ref l) (upd H l (.lst ys))):=by
 intro pins s σ H xs us Q I r h
 obtain ⟨p,ys,rfl,hq,q⟩:=h
 obtain ⟨u,rfl,rx⟩:=ZaV r
 cases rx
 have fin:∀ (its:List Value),Vals ys its->ys.length<=Qaj->∀ (h':Heap) (c':Nat),(∀ b o',s.heap.get? b=some o'->h'.get? b=some o') ->
   h'.get? s.heap.objs.size=some { cls:=.type "list",dict:=none,data:=.seq its.toArray c',slots:=#[] }->EP X pins σ Q (.ref s.heap.objs.size) { s with heap:=h' }:=fun its r' hz h' c' kp e =>
  ⟨.ref s.heap.objs.size,_,I.laid (t':=s.toks) kp (Qau _) (show ObjOk X.prog X.w _ h' _ (.lst ys) from ⟨hz,its,c',r',e⟩),rfl,q _ (I.hok.fresh (Qau _))⟩
 rcases hq with hq | hq
 ·obtain ⟨its,r',pl,hz⟩:=I.list hq
  have hlen:=r'.length
  obtain ⟨o,ho,hc,n,hd⟩:=pl.isList
  exact call_list_seq p (.inl rfl) ho hc hd (fun h' c' kp e=>fin its r' hz h' c' kp e) (by simp only [Qal]<;>omega)
 ·obtain ⟨its,r',pl,hz⟩:=I.tuple hq
  have hlen:=r'.length
  obtain ⟨o,ho,hc,n,hd⟩:=pl
  exact call_list_seq p (.inr rfl) ho hc hd (fun h' c' kp e=>fin its r' hz h' c' kp e) (by simp only [Qal]<;>omega)
theorem Zan:CallR X (.type "tuple") (fun xs H Q=>∃ p ys,xs=[.ref p]/\((SqL X.K H p ys/\∀ l,H l=none->Q (.ref l) (upd H l (.tup ys)))\/(SqT X.K H p ys/\Q (.ref p) H))):=by
 intro pins s σ H xs us Q I r h
 obtain ⟨p,ys,rfl,h⟩:=h
 obtain ⟨u,rfl,rx⟩:=ZaV r
 cases rx
 rcases h with ⟨hq,q⟩ | ⟨hq,q⟩
 ·obtain ⟨its,r',pl,hz⟩:=I.list hq
  have hlen:=r'.length
  refine call_tuple_list pl.isList (fun h' kp=>?_) (by simp only [Qal]<;>omega)
  have I1:Inv X pins σ H { s with heap:=h' }:=I.kept (t':=s.toks) kp
  have I2:Inv X pins σ (upd H h'.objs.size (.tup ys)) { s with heap:=h'.push { cls:=.type "tuple",data:=.seq its.toArray } } :=
   I1.laid (t':=s.toks) (fun b o e=>Qac _ e) (Qau _) (show ObjOk X.prog X.w _ _ _ (.tup ys) from ⟨hz,its,r',IsTup.new _ _⟩)
  exact ⟨.ref h'.objs.size,_,I2,rfl,q _ (I1.hok.fresh (Qau _))⟩
 ·obtain ⟨its,r',pl,hz⟩:=I.tuple hq
  exact call_tuple_same pl ⟨.ref p,H,I,rfl,q⟩
def tyV (K:Qab) (T:String) (x:V) (H:Hp):Prop:=match x with
 | .str _=>T="str"
 | .int _=>T="int"
 | .ref p=>(T="list"/\∃ xs,SqL K H p xs)\/(T="tuple"/\∃ o,K.lookup p=some o/\o.cls=.type "tuple"/\o.dict=none) \/
   (T="dict"/\((∃ kvs,H p=some (.dK kvs))\/(∃ kvs,H p=some (.dT kvs))\/∃ ks vs,Rd H p (.dct ks vs)))\/(T="set"/\∃ S n,H p=some (.set S n))
 | _=>False
theorem ZoE {pins:List (Addr×Obj)} {σ:St} {H:Hp} {s:Shared} {T:String} {x:V} {v:Value} (I:Inv X pins σ H s) (r:RelV x v) (ty:tyV X.K T x H) :
  s.TypeIs v T/\∀ a,v=.ref a->∃ ob,s.heap.get? a=some ob/\ob.dict=none:=by
 cases x with
 | str z =>
  obtain ⟨t,rfl⟩:=r
  cases (show T="str" from ty)
  exact ⟨typeIs_str s z t,fun _ e=>nomatch e⟩
 | int i =>
  obtain ⟨t,rfl⟩:=r
  cases (show T="int" from ty)
  exact ⟨typeIs_int s i t,fun _ e=>nomatch e⟩
 | ref p =>
  cases r
  rcases ty with ⟨rfl,xs,hq⟩ | ⟨rfl,o,hk,hc,hd⟩ | ⟨rfl,hk⟩ | ⟨rfl,S,n,hk⟩
  ·obtain ⟨its,_,pl,_⟩:=I.list hq
   refine ⟨pl.isList.typeIs,fun a e=>?_⟩
   cases e
   obtain ⟨o,n,e,c,hd,_⟩:=pl
   exact ⟨o,e,hd⟩
  ·refine ⟨⟨o,I.kIn p o hk,hc⟩,fun a e=>?_⟩
   cases e
   exact ⟨o,I.kIn _ o hk,hd⟩
  ·have z:∃ o,s.heap.get? p=some o/\o.ExactDict:=by
    rcases hk with ⟨kvs,hk⟩ | ⟨kvs,hk⟩ | ⟨ks,vs,hk⟩
    ·obtain ⟨_,_,_,_,o,_,_,e,ex,_⟩:=I.hok p _ hk
     exact ⟨o,e,ex⟩
    ·obtain ⟨_,_,_,_,o,_,_,e,ex,_⟩:=I.hok p _ hk
     exact ⟨o,e,ex⟩
    ·obtain ⟨_,_,_,o,_,_,e,ex,_⟩:=hk.ok I.hok
     exact ⟨o,e,ex⟩
   obtain ⟨o,e,ex⟩:=z
   refine ⟨⟨o,e,ex.1⟩,fun a e2=>?_⟩
   cases e2
   exact ⟨o,e,ex.2.1⟩
  ·obtain ⟨o,_,_,_,e,ex,_⟩:=I.hok p _ hk
   refine ⟨⟨o,e,ex.1⟩,fun a e2=>?_⟩
   cases e2
   exact ⟨o,e,ex.2.1⟩
 | _=>exact QaJ ty
def ZuU (K:Qab) (T:String) (r:V->List V->Hp->VK->Prop) (to:TE):TE:=fun σ H Q=>to σ H fun x H1=>tyV K T x H1/\r x [] H1 Q
def tBM (K:Qab) (T:String) (r:V->List V->Hp->VK->Prop) (to:TE) (t:TA):TE:=fun σ H Q=>to σ H fun x H1=>tyV K T x H1/\t σ H1 fun xs H2=>r x xs H2 Q
variable {o e:Expr} {es:List Expr} {to:TE} {t:TA} {name:Str} {apos cpos:Pos} {T id:String} {r:V->List V->Hp->VK->Prop}
theorem ZtE (pa:PlainAttrs T) (slot:Slot T name id) (hty:typeOf (.builtin id)=pure (.type "method_descriptor")) (hm:MtR X id r) (ho:PE X o to)
  (hbase:QcZ o name X.env (eval o X.env)=eval o X.env:=by rfl) (hline:(apos.endLine==cpos.line)=true:=by rfl):PE X (.Call (.Attribute o name apos) [] [] cpos) (ZuU X.K T r to):=by
 intro pins s σ H Q I h
 refine wpAny_Call_method0_late hbase hline (thn (ho pins s σ H _ I h) fun v s1 ⟨x,H1,I1,r1,ty,q1⟩=>?_)
 obtain ⟨h1,h2⟩:=ZoE I1 r1 ty
 exact ⟨T,id,pa,slot,hty,h1,h2,Calls.callWith_builtin rfl (PySem.evalArgs_none (hm pins s1 σ H1 x [] v [] Q I1 r1 .nil q1))⟩
theorem ZmD (pa:PlainAttrs T) (slot:Slot T name id) (hty:typeOf (.builtin id)=pure (.type "method_descriptor")) (hm:MtR X id r) (ho:PE X o to) (ha:PA X (e::es) t)
  (hbase:QcZ o name X.env (eval o X.env)=eval o X.env:=by rfl)
  (hfew:((backTo cpos (Qas (e::es) X.env)).all (fun x=>!x.1)&&(backToKw cpos (keywordEach [] X.env)).all (fun x=>x.1.isSome)
   && decide ((e::es).length+([]:List Keyword).length+(if ([]:List Keyword).isEmpty then 0 else 1)<30))=true:=by rfl)
  (hline:(apos.endLine==cpos.line)=true:=by rfl) (hs:Qas (e::es) X.env=(false,eval e X.env)::Qas es X.env:=by rfl) (hplain:(backTo cpos (Qas es X.env)).any (·.1)=false:=by rfl) :
  PE X (.Call (.Attribute o name apos) (e::es) [] cpos) (tBM X.K T r to t):=by
 intro pins s σ H Q I h
 refine wpAny_Call_method_late hbase hfew hline rfl (thn (ho pins s σ H _ I h) fun v s1 ⟨x,H1,I1,r1,ty,q1⟩=>?_)
 obtain ⟨h1,h2⟩:=ZoE I1 r1 ty
 refine ⟨T,id,pa,slot,hty,h1,h2,?_⟩
 have hA:=ha cpos pins s1 σ H1 _ I1 q1
 rw [hs] at hA ⊢
 refine Calls.callWith_builtin (by show (false||(backTo cpos (Qas es X.env)).any (·.1))=false;rw [hplain]<;>rfl) (Calls.evalArgs_plain ?_)
 exact thn hA fun us s2 ⟨vs,H2,I2,r2,q2⟩=>hm pins s2 σ H2 x vs v us Q I2 r1 r2 q2
end
end L2
namespace L2
open PySem PySem.Spec PyProof.Rows
def MtM (X:Cx) (id:String) (r:V->List V->Hp->VK->Prop):Prop :=
 ∀ (pins:List (Addr×Obj)) (s:Shared) (σ:St) (H:Hp) (x:V) (xs:List V) (v:Value) (us:List Value) (Q:VK),Inv X pins σ H s->RelV x v->Vals xs us->r x xs H Q ->
  wpAny (model X.prog X.w) X.A (call (.builtin id) (v::us)) (EP X pins σ Q) X.xe s
theorem Vals.one:∀ {x:V} {us:List Value},Vals [x] us->∃ u,us=[u]/\RelV x u
 | _,_,.cons r .nil=>⟨_,rfl,r⟩
theorem Vals.two:∀ {x y:V} {us:List Value},Vals [x,y] us->∃ u v,us=[u,v]/\RelV x u/\RelV y v
 | _,_,_,.cons r (.cons q .nil)=>⟨_,_,rfl,r,q⟩
theorem Vals.zero:∀ {us:List Value},Vals [] us->us=[]
 | _,.nil=>rfl
theorem Vals.dropLast {xs:List V} {us:List Value} (h:Vals xs us):Vals xs.dropLast us.dropLast:=by
 induction h with
 | nil=>exact .nil
 | cons r t ih =>
  cases t with
  | nil=>exact .nil
  | cons q t'=>exact .cons r ih
theorem Vals.eraseIdx:∀ {xs:List V} {us:List Value} (i:Nat),Vals xs us->Vals (xs.eraseIdx i) (us.eraseIdx i)
 | _,_,_,.nil=>.nil
 | _,_,0,.cons _ t=>t
 | _,_,i+1,.cons r t=>.cons r (Vals.eraseIdx i t)
theorem Vals.reverse {xs:List V} {us:List Value} (h:Vals xs us):Vals xs.reverse us.reverse:=by
 induction h with
 | nil=>exact .nil
 | cons r t ih=>rw [List.reverse_cons,List.reverse_cons];exact Vals.append ih (.cons r .nil)
theorem Vals.rep {xs:List V} {us:List Value} (h:Vals xs us):∀ k:Nat,Vals (QaT k xs).flatten (QaT k us).flatten
 | 0=>.nil
 | k+1=>by
  rw [List.replicate_succ,List.replicate_succ,List.flatten_cons,List.flatten_cons]
  exact Vals.append h (Vals.rep h k)
theorem Znk {α:Type} (l:List α):l.eraseIdx (l.length-1)=l.dropLast:=by
 induction l with
 | nil=>rfl
 | cons a r ih =>
  cases r with
  | nil=>rfl
  | cons b r =>
   have e:(a::b::r).length-1=((b::r).length-1)+1:=by
    have h1:(a::b::r).length=r.length+2:=rfl
    have h2:(b::r).length=r.length+1:=rfl
    omega
   rw [e,List.eraseIdx_cons_succ,ih]
   all_goals rfl
section
variable {X:Cx} {pins:List (Addr×Obj)} {σ:St} {H:Hp} {s:Shared} {l b:Addr} {xs ys zs:List V}
theorem Inv.lset {its its':List Value} {n:Nat} {f:Array Value->Array Value} {t':Nat} (I:Inv X pins σ H s) (hH:H l=some (.lst xs))
  (e:s.heap.get? l=some { cls:=.type "list",data:=.seq its.toArray n }) (hf:f its.toArray=its'.toArray) (hv:Vals ys its') (hz:ys.length<=Qaj) :
  Inv X pins σ (upd H l (.lst ys)) { s with heap:=s.heap.update l (Qck f),toks:=t' }:=by
 have q:=PySem.IsL.update e f
 rw [hf] at q
 refine I.write (x:=l) (e:=l) (by rw [hH];exact trivial) (.inl rfl) (fun b' u hb hu=>(QbL s.heap (Qck f) (QaD hb)).trans hu) ⟨_,q⟩ ?_
 exact ⟨hz,its',_,hv,q⟩
theorem Inv.lnew {its:List Value} {t':Nat} (I:Inv X pins σ H s) (hv:Vals ys its) (hz:ys.length<=Qaj) :
  Inv X pins σ (upd H s.heap.objs.size (.lst ys)) { s with heap:=s.heap.push { cls:=.type "list",data:=.seq its.toArray },toks:=t' } :=
 I.laid (fun _ _ q=>Qac _ q) (Qau _) ⟨hz,its,0,hv,Qao _ rfl⟩
theorem Inv.fresh (I:Inv X pins σ H s):H s.heap.objs.size=none:=I.hok.fresh (Qau _)
theorem Inv.lstM (I:Inv X pins σ H s) (hH:H l=some (.lst xs)):xs.length<=Qaj/\∃ (its:List Value) (n:Nat),Vals xs its/\xs.length=its.length/\s.heap.get? l=some { cls:=.type "list",data:=.seq its.toArray n }:=by
 obtain ⟨z,its,n,r,e⟩:=I.hok l _ hH
 exact ⟨z,its,n,r,r.length,e⟩
end
section
variable {X:Cx}
def Zra:V->List V->Hp->VK->Prop:=fun x vs H Q=>∃ l xs y,x=.ref l/\vs=[y]/\H l=some (.lst xs)/\xs.length<Qaj/\Q .non (upd H l (.lst (xs++[y])))
theorem Zou:MtM X "list.append" Zra:=by
 intro pins s σ H x vs v us Q I rx rv h
 obtain ⟨l,xs,y,rfl,rfl,hH,hz,q⟩:=h
 cases rx
 obtain ⟨u,rfl,ru⟩:=rv.one
 obtain ⟨z,its,n,r,hl,e⟩:=I.lstM hH
 refine call_meets F.slot_list_append ⟨_,e,rfl⟩ F.entry_list_append (F.args_list_append_2 _ _) (PySem.list_append l its.toArray n u (by rw [Qal];omega)) ⟨e,?_⟩
 refine ⟨.non,_,I.lset (its':=its++[u]) hH e (by simp) (r.append (.cons ru .nil)) ?_,rfl,q⟩
 rw [Qbg,List.length_singleton]
 omega
def ZuQ:V->List V->Hp->VK->Prop:=fun x vs H Q=>∃ l xs y,x=.ref l/\vs=[]/\H l=some (.lst xs)/\xs[xs.length-1]?=some y/\Q y (upd H l (.lst xs.dropLast))
theorem ZvC:MtM X "list.pop" ZuQ:=by
 intro pins s σ H x vs v us Q I rx rv h
 obtain ⟨l,xs,y,rfl,rfl,hH,hy,q⟩:=h
 cases rx
 have hus:=rv.zero
 subst hus
 obtain ⟨z,its,n,r,hl,e⟩:=I.lstM hH
 obtain ⟨u,hu,ru⟩:=r.get hy
 have hy':its.toArray[its.toArray.size-1]?=some u:=by
  show its.toArray[its.length-1]?=some u
  rw [<- QcJ,<- hl]
  exact hu
 refine call_meets F.slot_list_pop ⟨_,e,rfl⟩ F.entry_list_pop (F.args_list_pop_1 _) (MeetsSeq.list_pop_last l its.toArray n u hy' (by rw [Qal];omega)) ⟨e,?_⟩
 refine ⟨y,_,I.lset (its':=its.dropLast) hH e ?_ r.dropLast ?_,ru,q⟩
 ·show its.toArray.eraseIdxIfInBounds (its.toArray.size-1)=its.dropLast.toArray
  rw [Qal,List.eraseIdxIfInBounds_toArray,Znk]
 ·rw [List.length_dropLast]
  omega
def ZsB:V->List V->Hp->VK->Prop:=fun x vs H Q=>∃ l xs,x=.ref l/\vs=[]/\H l=some (.lst xs)/\Q .non (upd H l (.lst []))
theorem Zpp:MtM X "list.clear" ZsB:=by
 intro pins s σ H x vs v us Q I rx rv h
 obtain ⟨l,xs,rfl,rfl,hH,q⟩:=h
 cases rx
 have hus:=rv.zero
 subst hus
 obtain ⟨z,its,n,r,hl,e⟩:=I.lstM hH
 refine call_meets F.slot_list_clear ⟨_,e,rfl⟩ F.entry_list_clear (F.args_list_clear_1 _) (AutoSeq1.list_clear_list_0 l its.toArray n (by rw [Qal];omega)) ⟨e,?_⟩
 exact ⟨.non,_,I.lset (its':=[]) (ys:=[]) hH e rfl .nil (Nat.zero_le _),rfl,q⟩
end
section
variable {prog:Qav} {w:World} {A:Around} {E:Value->Shared->Prop} {s:Shared}
set_option maxRecDepth 100000 in
end
section
variable {X:Cx}
end
end L2
namespace Att
open PySem PySem.W PySem.Calls PyProof.Rows
theorem ZhY {P:Params} {h:Heap}:∀ (ns:List Int) (vs:List Value),WellAll P h vs (ns.map WData.int)->IntsAre vs ns:=by
 intro ns
 induction ns with
 | nil =>
  intro vs w
  rw [Qa3] at w
  cases w
  exact .nil
 | cons n ns ih =>
  intro vs w
  rw [Qai] at w
  cases w with
  | cons a b =>
   cases a
   exact .cons _ _ (ih _ b)
theorem Zoi {l:OpenLaw} {n:Nat} (hn:l.most=some n) {P:Params} {h:Heap} {args:List WData} {Zz:List Value}
  (hpre:l.row.toRowW.claim.pre args=true) (hwl:WellAll P h Zz args) :
  ∃ a vs ns,Zz=[QaR a]/\args=[WData.list (ns.map WData.int)]/\h.get? a=some { cls:=.type "list",data:=.seq vs.toArray }/\IntsAre vs ns/\ns.length<=n:=by
 have hsh:WShape.hasAll [] args [.list .int]=true:=(pre_splitW hpre).1
 have hc:l.pre.holds [] { args:=args }=true:=(pre_splitW hpre).2
 obtain ⟨d,r,rfl,h1,h2⟩:=hasAllW_cons hsh
 obtain rfl:=hasAllW_nil h2
 obtain ⟨xs,rfl,h3⟩:=hasW_list h1
 obtain ⟨ns,rfl⟩:=items_int h3
 have hlen:ns.length<=n:=by
  unfold OpenLaw.pre at hc
  have h4:(WTm.not (.lt (.lit (.int (n:Int))) (.len (.arg 0)))).holds [] { args:=[.list (ns.map .int)] }=true:=by
   have h4:=(holds_andW hc).1
   rw [hn] at h4
   exact h4
  have h5:=condW_of h4 (w_not (w_lt w_lit (w_len_list (w_arg rfl))))
  rw [Qaz] at h5
  refine QcS fun q=>?_
  have q':(n:Int)<((ns.length:Nat):Int):=by omega
  first
   | (rw [decide_eq_true q'] at h5;exact absurd h5 (by decide))
   | (simp at h5;omega)
 cases hwl with
 | cons w1 w2 =>
  cases w2
  cases w1 with
  | list ho hall=>exact ⟨_,_,ns,rfl,rfl,ho,ZhY ns _ hall,hlen⟩
theorem ZnR (l:OpenLaw) (args:List WData):l.row.toRowW.claim.post args (.bool true) args=true :=
 postW_of (r:=l.row.toRowW) (X:=(true==true))
  (show WShape.has [] (.bool true) .bool=true by first | rfl | decide | simp [WShape.has,WShape.arms,WShape.armsAll])
  (show (WTm.eq .res (.lit (.bool true))).value [] { args:=args,res:=some (.bool true),after:=args }=some (.bool (true==true)) from w_eq_bool (w_res rfl) w_lit) rfl
theorem attach_call {l:OpenLaw} {n:Nat} {q:Qav} {loose:List Str} {XP:(Str->Option Value)->Heap->Prop} {YP:World->Heap->Prop} {d:DefRec}
  (hn:l.most=some n) (hdf:d.params.defaults=[])
  (call:∀ (w:World) (s₀ s₁:Shared) (mg mb:Str->Option Value) (fa:Addr) (o:Obj) (pm cd doc:Value) (a:Addr) (vs:List Value) (ns:List Int),
   Ground q loose [] XP w s₀ mg mb s₁.heap->YP w s₁.heap ->
   s₁.heap.get? fa=some o->o.data=.func (docDef d.name d.params d.body d.scope pm cd doc)->s₁.heap.CodeRec cd d.name->mg d.name=some (.ref fa) ->
   s₁.heap.get? a=some { cls:=.type "list",data:=.seq vs.toArray }->IntsAre vs ns->ns.length<=n->s₁.gens=#[] ->
   codeAny (model l.prog w) callerA (.call (.ref fa) ⟨[.ref a],[]⟩) (fun r s'=>r=.ok (.ret (.bool true))/\OldK s₁.heap s'.heap/\s'.os=s₁.os/\AllBare s'.gens) s₁) :
  WalkO q loose XP YP l.row.toRowW d [] (fun f vs=>PySem.call f vs):=by
 intro w s₀ s₁ mg mb G Y fa o pm cd doc dV kV ho hd hcd hD hmg hg args Zz as hpre hlay hrd hwl hlo
 obtain rfl:dV=.none:=Dflts.none hD hdf
 obtain rfl:kV=.none:=Dflts.noKw hD
 obtain ⟨a,vs,ns,rfl,rfl,hobj,hints,hlen⟩:=Zoi hn hpre hwl
 refine enter_call (codeAny_mono (call w s₀ s₁ mg mb fa o pm cd doc a vs ns G Y ho (fd_plain hd) hcd hmg hobj hints hlen hg) fun r s' hq=>?_)
 obtain ⟨rfl,h2,h3,h4⟩:=hq
 exact ⟨.inl ⟨.bool true,.bool true,[],rfl,fun _=>rfl,.bool true,ZnR l _,fun _=>⟨List.Pairwise.nil,fun _ hm=>(nomatch hm)⟩⟩,h2,h3,h4⟩
section
variable {prog:Qav} {w:World} {A:Around} {E:Value->Shared->Prop} {s:Shared} {K:Frag}
end
end Att
namespace L2
open PySem PySem.Spec PyProof.Rows
theorem Zge:∀ {vs:List Value} {ns:List Int},IntsAre vs ns->Vals (ns.map V.int) vs
 | _,_,.nil=>.nil
 | _,_,.cons n t h=>.cons ⟨t,rfl⟩ (Zge h)
def Zp0 (H:Hp):Prop:=∀ b,H b=none\/∃ o xs,H b=some (.frz o (.lst xs))
theorem Zpn {P:Qav} {w:World} {K:Qab} {mg mb:Str->Option Value} {CX:CXT} {k:Nat} {fa a:Addr} {fd:QaH} {x:Str} {sp:Sp} {s₁:Shared} {vs:List Value} {ns:List Int}
  (KX:K.In s₁.heap) (hns:s₁.heap.Ns Qak mg) (hb:s₁.heap.Ns builtinsNs mb) (hbb:∀ x:Str,x≠"__name__"->mb x=Qbe x) (hlim:s₁.heap.NoLimit) (hg:s₁.gens=#[])
  (ha:s₁.heap.get? a=some { cls:=.type "list",data:=.seq vs.toArray }) (hi:IntsAre vs ns) (hl:ns.length<=Qaj) (hr:Room k callerA)
  (F:∀ base:Heap,K.In base->base.Ns Qak mg->FnOk P w K mg base CX k fa fd [x] sp) (hbind:∀ (s:Shared) (u:Value),BindsTo s fd ⟨[u],[]⟩ [(x,u)])
  (hsp:∀ H:Hp,Zp0 H->SqL K H a (ns.map V.int)->sp [.ref a] H (fun v _=>v=.bl true) fun _ _ _=>False)
  (hCX:∀ H e s',CX [] H s₁ (fun _ _ _=>False) e s'->False) :
  codeAny (model P w) callerA (.call (.ref fa) ⟨[.ref a],[]⟩) (fun r s'=>r=.ok (.ret (.bool true))/\OldK s₁.heap s'.heap/\s'.os=s₁.os/\AllBare s'.gens) s₁:=by
 have rv:=Zge hi
 have lenV:=hi.length
 -- from an abstract heap in which nothing but the script may be tracked
 have core:∀ H:Hp,Zp0 H->SqL K H a (ns.map V.int)->HOk P w H s₁.heap->(∀ b,H b≠none->b=a)->(H a≠none->K.lookup a=none) ->
   codeAny (model P w) callerA (.call (.ref fa) ⟨[.ref a],[]⟩) (fun r s'=>r=.ok (.ret (.bool true))/\OldK s₁.heap s'.heap/\s'.os=s₁.os/\AllBare s'.gens) s₁:=by
  intro H hO hS hok hA hK
  have base_of:∀ {b:Addr} {o:Obj},s₁.heap.get? b=some o->H b=none->(ZfQ s₁.heap H).get? b=some o:=fun e n=>Zpe e n
  have noA:∀ {b:Addr} {o:Obj} {es:Array DictEntry} {ep:Nat},s₁.heap.get? b=some o->o.data=.dict es ep->H b=none:=fun {b o es ep} e d=>by
   cases q:H b with
   | none=>rfl
   | some u =>
    have e':b=a:=hA b (by rw [q];simp)
    subst e'
    rw [ha] at e;cases e
    have d':Data.seq vs.toArray _=Data.dict es ep:=d
    cases d'
  have nsK:∀ {b:Addr} {m:Str->Option Value},s₁.heap.Ns b m->(ZfQ s₁.heap H).Ns b m:=fun {b m} ⟨o,es,ep,e,d,r⟩=>⟨o,es,ep,base_of e (noA e d),d,r⟩
  have hKb:K.In (ZfQ s₁.heap H):=fun b o e=>base_of (KX b o e) (by
   cases q:H b with
   | none=>rfl
   | some u =>
    have e':b=a:=hA b (by rw [q];simp)
    subst e'
    rw [hK (by rw [q];simp)] at e;cases e)
  have hM:Mod K mg (ZfQ s₁.heap H):=⟨hKb,nsK hns,⟨mb,nsK hb,hbb⟩,let ⟨mc,h1,h2⟩:=hlim;⟨mc,nsK h1,h2⟩⟩
  have e0:Env0 P w K mg (ZfQ s₁.heap H) callerA [] s₁ H:=⟨rfl,hM,fun b o e=>Zrb e,Nat.le_of_eq (Zoh _ _),trivial,fun b hb=>absurd (show b∈([]:List Addr) from hb) (by simp),hok,.of_eq hg⟩
  refine codeAny_mono ((F _ hKb (nsK hns)).run callerA [] s₁ H ⟨[.ref a],[]⟩ [.ref a] [.ref a] _ _ hr e0 (hbind s₁ (.ref a)) (.cons rfl .nil) (hsp H hO hS)) fun r s' h=>?_
  cases r with
  | error e=>exact (hCX H e s' h).elim
  | ok fl =>
   cases fl with
   | next=>exact QaJ h
   | brk=>exact QaJ h
   | cont=>exact QaJ h
   | ret u =>
    obtain ⟨v,H',os,bare,un,hok',r',q⟩:=h
    have q':v=.bl true:=q
    subst q'
    obtain rfl:u=Value.bool true:=r'
    refine ⟨rfl,OldK.of_keep fun b o e=>?_,os,bare⟩
    cases q:H b with
    | none=>exact un.keep b o e q (by intro z;exact absurd (show b∈([]:List Addr) from z) (by simp)) (by simp)
    | some u =>
     rcases hO b with z | ⟨ob,xs,z⟩
     ·rw [q] at z;cases z
     ·have z2:=un.frzs b ob _ z
      obtain ⟨e1,_⟩:=hok b _ z
      obtain ⟨e2,_⟩:=hok' b _ z2
      rw [e] at e1;cases e1
      exact e2
 cases hk:K.lookup a with
 | some o =>
  -- the script is one of the module's own objects
  have e:=KX a o hk
  rw [ha] at e
  cases e
  refine core (fun _=>none) (fun _=>.inl rfl) (.inr ⟨_,vs.toArray,_,hk,rfl,rfl,rfl,by rw [Qal,lenV];exact hl,by simpa using rv⟩) (fun b u z=>by have z':(none:Option HO)=some u:=z;cases z') (fun b z=>absurd rfl z) fun z=>absurd rfl z
 | none =>
  refine core (fun b=>if b=a then some (.frz { cls:=.type "list",data:=.seq vs.toArray } (.lst (ns.map V.int))) else none) (fun b=>?_) (.inl (.inr ⟨{ cls:=.type "list",data:=.seq vs.toArray },if_pos rfl⟩)) (fun b u z=>?_) (fun b z=>?_) fun _=>hk
  ·by_cases hb:b=a
   ·exact .inr ⟨_,_,if_pos hb⟩
   ·exact .inl (if_neg hb)
  ·by_cases hb:b=a
   ·have z':=(if_pos hb).symm.trans z
    cases z'
    subst hb
    exact ⟨ha,by rw [Qaz];exact hl,vs,_,rv,ha⟩
   ·have z':=(if_neg hb).symm.trans z
    cases z'
  ·by_cases hb:b=a
   ·exact hb
   ·exact absurd (if_neg hb) z
end L2
namespace L2
open PySem PySem.Spec PyProof.Rows
theorem walk_of {l:PySem.W.OpenLaw} {n k:Nat} {q:Qav} {loose:List Str} {XP:(Str->Option Value)->Heap->Prop} {YP:World->Heap->Prop} {d:DefRec} {K:Params->Qab} {CX:World->CXT} {sp:World->Sp} {x:Str}
  (hn:l.most=some n) (hn2:n<=Qaj) (hdf:d.params.defaults=[]) (hr:Room k callerA)
  (hY:∀ (w:World) (h:Heap),YP w h->(K w.params).In h)
  (F:∀ (w:World) (mg:Str->Option Value) (fa:Addr) (h:Heap),(K w.params).In h->h.Ns Qak mg->mg d.name=some (.ref fa) ->
   ∃ fd:QaH,(∀ (s:Shared) (u:Value),BindsTo s fd ⟨[u],[]⟩ [(x,u)]) /\
    ∀ base:Heap,(K w.params).In base->base.Ns Qak mg->FnOk l.prog w (K w.params) mg base (CX w) k fa fd [x] (sp w))
  (hsp:∀ (w:World) (H:Hp) (a:Addr) (ns:List Int),ns.length<=n->Zp0 H->SqL (K w.params) H a (ns.map V.int)->sp w [.ref a] H (fun v _=>v=.bl true) fun _ _ _=>False)
  (hCX:∀ (w:World) (H:Hp) (s:Shared) (e:Value) (s':Shared),CX w [] H s (fun _ _ _=>False) e s'->False) :
  PySem.W.WalkO q loose XP YP l.row.toRowW d [] (fun f vs=>PySem.call f vs):=by
 refine Att.attach_call hn hdf fun w s₀ s₁ mg mb fa o pm cd doc a vs ns G Y ho hd hcd hmg hobj hints hlen hg=>?_
 have KX:=hY w _ Y
 obtain ⟨fd,hb,hF⟩:=F w mg fa _ KX G.T.g hmg
 exact Zpn KX G.T.g G.T.b G.T.builtins G.T.nolimit hg hobj hints (QaP hlen hn2) hr hF hb (fun H hO hS=>hsp w H a ns hlen hO hS) fun H e s'=>hCX w H s₁ e s'
end L2
namespace L2
open PySem PySem.Spec PyProof.Rows
def ZG (s:Stmt):Arguments:=match s with
 | .FunctionDef _ a _ _ _ _ _ _ _ _=>a
 | _=>{ posonlyargs:=[],args:=[],vararg:=none,kwonlyargs:=[],kw_defaults:=[],kwarg:=none,defaults:=[] }
def ZB (s:Stmt):List Stmt:=match s with
 | .FunctionDef _ _ b _ _ _ _ _ _ _=>b
 | _=>[]
def Zg (s:Stmt):Scope:=match s with
 | .FunctionDef _ _ _ _ _ _ sc _ _ _=>sc
 | _=>{ kind:=.function,names:=[],isGenerator:=false,isCoroutine:=false }
abbrev CX0:CXT:=fun _ _ _ _ _ _=>False
abbrev E0:XK:=fun _ _ _=>False
theorem ZM {X:Cx}:Zgf CX0 X E0:=fun _ _ _ _ _ _ _ h=>h.elim
structure Fun (K:Qab) (x qual:Str) (st:Stmt) (f:Addr) (fd:QaH):Prop where
 ex:∃ (oc:Value) (od:Option Addr) (kV doc pm:Value) (an:Option Addr) (cdv ct:Value) (osl:Array (Option Value)),
  fd=QaI x qual (ZG st) (ZB st) (Zg st) .none kV doc pm an cdv ct/\K.lookup f=some ⟨oc,od,.func fd,osl⟩/\QaE K cdv qual=true
 kp:QaC K (.ref f)=true
section
variable {P:Qav} {w:World} {K:Qab} {mg:Str->Option Value} {base:Heap}
theorem Fun.ok {x qual:Str} {st:Stmt} {f:Addr} {fd:QaH} {N ps:List Str} {k:Nat} {sp:Sp} (F:Fun K x qual st f fd) (S:ZD N ps (Zg st)) (len:∀ vs H Q E,sp vs H Q E->vs.length=ps.length)
  (hbody:∀ (cdv:Value) (A:Around) (outer:List Env) (s:Shared) (H:Hp) (vs:List V) (Q:VK) (E:XK),Room k (A.deeper (envOfC qual (Zg st) s.heap.objs.size f cdv))->sp vs H Q E ->
   ∃ t,PSs (ZeH CX0 P w K mg base N qual (Zg st) f cdv A outer s H E).nox (ZB st) t/\t { nx:=fun _ H'=>Q .non H',rt:=Q } (Zcq N vs) H):FnOk P w K mg base CX0 (k+1) f fd ps sp:=by
 obtain ⟨oc,od,kV,doc,pm,an,cdv,ct,osl,rfl,lk,hcd⟩:=F.ex
 refine Zqq lk hcd S len fun A outer s H vs Q E hr hsp=>?_
 obtain ⟨t,h,q⟩:=hbody cdv A outer s H vs Q E hr hsp
 exact ⟨t,h.nox,q⟩
theorem Fun.binds {x qual:Str} {st:Stmt} {f:Addr} {fd:QaH} {ps:List Str} (F:Fun K x qual st f fd)
  (h:∀ (kV doc pm:Value) (an:Option Addr) (cdv ct:Value) (us:List Value),us.length=ps.length->bindArgs (QaI x qual (ZG st) (ZB st) (Zg st) .none kV doc pm an cdv ct) ⟨us,[]⟩=pure (ps.zip us)):Binds K fd ps []:=by
 obtain ⟨oc,od,kV,doc,pm,an,cdv,ct,osl,rfl,lk,hcd⟩:=F.ex
 exact .all (h kV doc pm an cdv ct)
theorem ZV {x qual:Str} {st:Stmt} {f:Addr} {oc:Value} {od an:Option Addr} {osl:Array (Option Value)} {kV doc pm cdv ct:Value} (l:K.lookup f=some ⟨oc,od,.func (QaI x qual (ZG st) (ZB st) (Zg st) .none kV doc pm an cdv ct),osl⟩)
  (c:QaE K cdv qual=true) (k:QaC K (.ref f)=true):Fun K x qual st f (QaI x qual (ZG st) (ZB st) (Zg st) .none kV doc pm an cdv ct):=⟨⟨oc,od,kV,doc,pm,an,cdv,ct,osl,rfl,l,c⟩,k⟩
end
theorem Zog {n:Nat} (h:n<=1000):n<Qaj:=Qc5 h (by decide)
section
variable {X:Cx}
end
def Same (H H':Hp):Prop:=∀ b o,H b=some o->H' b=some o
theorem Same.refl (H:Hp):Same H H:=fun _ _ h=>h
theorem Same.trans {H H1 H2:Hp} (a:Same H H1) (b:Same H1 H2):Same H H2:=fun c o h=>b c o (a c o h)
theorem Same.free {H H':Hp} (e:Same H H') {l:Addr} (h:H' l=Option.none):H l=Option.none:=by
 cases q:H l with
 | none=>rfl
 | some o =>
  rw [e l o q] at h
  cases h
theorem Same.seq {K:Qab} {H H':Hp} {a:Addr} {xs:List V} (e:Same H H') (h:SqL K H a xs):SqL K H' a xs:=by
 rcases h with (h | ⟨o,h⟩) | h
 ·exact .inl (.inl (e _ _ h))
 ·exact .inl (.inr ⟨o,e _ _ h⟩)
 ·exact .inr h
end L2
namespace L2
open PySem PySem.Spec PyProof.Rows
def Zbh (env:Env):List (Str×QbN)->List (Str×Addr)->List (Str×Addr)
 | [],cs=>cs
 | (n,k)::r,cs=>if k=Qbc then Zbh env r ((n,(env.cells.lookup n).getD 0)::cs) else Zbh env r cs
theorem Zjp {scope:Scope} {env:Env} (h:∀ x∈scope.names,x.2=.free->∃ c,env.cells.lookup x.1=some c) :
  closureFor scope env=pure (Zbh env scope.names []):=by
 have all:∀ (l:List (Str×QbN)) (cs:List (Str×Addr)),(∀ x∈l,x.2=.free->∃ c,env.cells.lookup x.1=some c) ->
   (forIn l cs (fun (x:Str×QbN) (cs:List (Str×Addr))=>if (x.2==Qbc)=true then (do let a <- cellOf env x.1;pure (ForInStep.yield ((x.1,a)::cs))) else pure (ForInStep.yield cs)):Sem (List (Str×Addr)))=pure (Zbh env l cs):=by
  intro l
  induction l with
  | nil=>intro cs _;rfl
  | cons x l ih =>
   intro cs hx
   obtain ⟨n,k⟩:=x
   rw [Qcd]
   have hr:=fun cs=>ih cs (fun y hy=>hx y (Qag _ hy))
   by_cases hk:k=.free
   ·subst hk
    obtain ⟨c,hc⟩:=hx (n,.free) Qam rfl
    have e:cellOf env n=pure c:=by unfold cellOf;simp only [hc]
    simp only [beq_self_eq_true,if_true,e,pure_bind,hr,Zbh,hc,QcT]
   ·have hb:(k==Qbc)=false:=by simpa using hk
    simp only [hb,QaS,if_false,pure_bind,hr,Zbh,hk]
 have:=all scope.names [] h
 simp only [closureFor]
 rw [<- bind_pure (pure (Zbh env scope.names []):Sem _),<- this]
theorem Zf4 {env:Env}:∀ (l:List (Str×QbN)) (cs:List (Str×Addr)),(∀ x∈l,x.2=.free->∃ c,env.cells.lookup x.1=some c) ->
  (∀ p∈cs,env.cells.lookup p.1=some p.2)->∀ p∈Zbh env l cs,env.cells.lookup p.1=some p.2
 | [],cs,_,h=>h
 | (n,k)::r,cs,hx,h=>by
  have hr:∀ x∈r,x.2=.free->∃ c,env.cells.lookup x.1=some c:=fun y hy=>hx y (Qag _ hy)
  by_cases hk:k=.free
  ·subst hk
   obtain ⟨c,hc⟩:=hx (n,.free) Qam rfl
   simp only [Zbh,if_true]
   refine Zf4 r _ hr fun p hp=>?_
   rcases Qbk.mp hp with e | hp
   ·subst e;simp only [hc,QcT]
   ·exact h p hp
  ·simp only [Zbh,hk,if_false]
   exact Zf4 r cs hr h
theorem Zgr {env:Env}:∀ (l:List (Str×QbN)) (cs:List (Str×Addr)) (x:Str),((x,Qbc)∈l\/∃ c,(x,c)∈cs)->∃ c,(x,c)∈Zbh env l cs
 | [],cs,x,h=>by
  rcases h with h | h
  ·cases h
  ·exact h
 | (n,k)::r,cs,x,h=>by
  by_cases hk:k=.free
  ·subst hk
   simp only [Zbh,if_true]
   refine Zgr r _ x ?_
   rcases h with h | ⟨c,h⟩
   ·rcases Qbk.mp h with e | h
    ·cases e;exact .inr ⟨_,Qam⟩
    ·exact .inl h
   ·exact .inr ⟨c,Qag _ h⟩
  ·simp only [Zbh,hk,if_false]
   refine Zgr r cs x ?_
   rcases h with h | h
   ·rcases Qbk.mp h with e | h
    ·cases e;exact absurd rfl hk
    ·exact .inl h
   ·exact .inr h
theorem Zh6 {β:Type}:∀ {l:List (Str×β)} {x:Str} {c:β},(x,c)∈l->∃ d,l.lookup x=some d
 | [],_,_,h=>by cases h
 | (n,b)::r,x,c,h=>by
  rw [QcU]
  cases e:x==n with
  | true=>exact ⟨b,rfl⟩
  | false =>
   rcases Qbk.mp h with z | h
   ·cases z;simp at e
   ·exact Zh6 h
structure Zac (own outs:List Str) (sc osc:Scope):Prop where
 kind:sc.kind=.function
 nocell:∀ x∈sc.names,x.2≠.cell
 free:∀ x∈sc.names,x.2=.free->osc.names.lookup x.1=some .cell\/osc.names.lookup x.1=some .free
 loc:∀ x∈sc.names,x.2=.local->sc.names.lookup x.1=some .local
 out:∀ x∈outs,sc.names.lookup x=some .free
 nd:(own++outs).Nodup
theorem relabel_free {env:Env}:∀ {names:List (Str×QbN)} {x:Str},names.lookup x=some .free ->
  ((names.map fun (n,k)=>if (k==Qbc&&env.scope.kind==.function&&env.kindOf n==some .cell) then (n,Qb0) else (n,k)).lookup x=some .cell \/
    (names.map fun (n,k)=>if (k==Qbc&&env.scope.kind==.function&&env.kindOf n==some .cell) then (n,Qb0) else (n,k)).lookup x=some .free)
 | [],_,h=>by simp at h
 | (n,k)::r,x,h=>by
  have ih:=@relabel_free env r x
  rw [Qai]
  by_cases hc:(k==Qbc&&env.scope.kind==.function&&env.kindOf n==some .cell)=true
  ·rw [show (match ((n,k):Str×QbN) with | (n,k)=>if (k==Qbc&&env.scope.kind==.function&&env.kindOf n==some .cell) then (n,Qb0) else (n,k))=(n,Qb0) from if_pos hc]
   rw [QcU] at h ⊢
   cases hx:x==n with
   | true=>exact .inl rfl
   | false=>rw [hx] at h;exact ih h
  ·rw [show (match ((n,k):Str×QbN) with | (n,k)=>if (k==Qbc&&env.scope.kind==.function&&env.kindOf n==some .cell) then (n,Qb0) else (n,k))=(n,k) from if_neg hc]
   rw [QcU] at h ⊢
   cases hx:x==n with
   | true=>rw [hx] at h;exact .inr h
   | false=>rw [hx] at h;exact ih h
theorem relabel_mem {env:Env}:∀ {names:List (Str×QbN)} {x:Str} {k:QbN},k=.cell\/k=.free->(∀ y∈names,y.2≠.cell) ->
  (names.map fun (n,k)=>if (k==Qbc&&env.scope.kind==.function&&env.kindOf n==some .cell) then (n,Qb0) else (n,k)).lookup x=some k->(x,Qbc)∈names
 | [],_,_,_,_,h=>by simp at h
 | (n,j)::r,x,k,hk,hn,h=>by
  have ih:=@relabel_mem env r x k hk fun y hy=>hn y (Qag _ hy)
  rw [Qai] at h
  by_cases hc:(j==Qbc&&env.scope.kind==.function&&env.kindOf n==some .cell)=true
  ·rw [show (match ((n,j):Str×QbN) with | (n,k)=>if (k==Qbc&&env.scope.kind==.function&&env.kindOf n==some .cell) then (n,Qb0) else (n,k))=(n,Qb0) from if_pos hc] at h
   rw [QcU] at h
   cases hx:x==n with
   | true =>
    have e:x=n:=by simpa using hx
    have ej:j=.free:=by
     simp only [QaW,beq_iff_eq] at hc
     exact hc.1.1
    subst e ej
    exact Qam
   | false=>rw [hx] at h;exact Qag _ (ih h)
  ·rw [show (match ((n,j):Str×QbN) with | (n,k)=>if (k==Qbc&&env.scope.kind==.function&&env.kindOf n==some .cell) then (n,Qb0) else (n,k))=(n,j) from if_neg hc] at h
   rw [QcU] at h
   cases hx:x==n with
   | true =>
    rw [hx] at h
    have e:x=n:=by simpa using hx
    have ej:j=k:=Qbr h
    subst e ej
    rcases hk with hk | hk
    ·exact absurd hk (hn _ Qam)
    ·subst hk;exact Qam
   | false=>rw [hx] at h;exact Qag _ (ih h)
def cxC (X:Cx) (own outs:List Str) (scope:Scope) (C:Addr) (s2:Shared) (H2:Hp) (fp:List Addr) (pins:List (Addr×Obj)):Cx where
 prog:=X.prog
 w:=X.w
 K:=X.K
 mg:=X.mg
 base:=X.base
 A:=X.A
 N:=own++outs
 s₀:=s2
 H₀:=H2
 env:=compEnvC scope (Zbh X.env scope.names []) C X.env
 outer:=X.stack
 stack:=X.stack
 ex:=fp
 fn:=fun _=>false
 calm:=X.calm
 pn:=X.pn++pins
 xe:=fun _ _=>False
def PFs (X:Cx) (ifs:List Expr) (tt:TT):Prop :=
 ∀ (pins:List (Addr×Obj)) (s:Shared) (σ:St) (H:Hp) (Q:Bool->Hp->Prop),Inv X pins σ H s->tt σ H Q ->
  wpAny (model X.prog X.w) X.A (forIn ifs true fun c r=>if r=true then do let ok <- isTrue c X.env (eval c X.env);pure (ForInStep.yield ok) else pure (ForInStep.yield r)) (TP X pins σ Q) X.xe s
def ZuK:TT:=fun _ H Q=>Q true H
theorem ZsM {X:Cx}:PFs X [] ZuK:=fun _ _ _ H _ I h=>wpAny_tests_nil ⟨H,I,h⟩
def ZaU (k:Nat) (oix:List Nat) (σ:St):St:=QaT k none++oix.map fun j=>(σ[j]?).join
def Zoq (k:Nat) (oix:List Nat) (g:TG) (tt:TT) (te:TE) (J:It) (σ:St) (H:Hp) (Q:VK):Prop :=
 ∃ (n:Nat) (W:Nat->List V->Hp->Prop),W 0 [] H/\∀ i ys H2,W i ys H2 ->
  (J.stop i H2/\ys.length<=Qaj/\∀ p,H2 p=none->Q (.ref p) (upd H2 p (.lst ys))) \/
  (J.go i H2/\i<n/\ys.length<Qaj/\∃ N:List V->Hp->Prop,(∀ ys' H',N ys' H'->W (i+1) ys' H')/\∀ x H3,J.yld i H2 x H3->g x (ZaU k oix σ) H3 fun σ4 H4=>σ4.drop k=(ZaU k oix σ).drop k /\
   tt σ4 H4 fun b H5=>if b=true then te σ4 H5 fun y H6=>N (ys++[y]) H6 else N ys H5)
def Zqj (k:Nat) (oix:List Nat) (wi:TI) (g:TG) (tt:TT) (te:TE):TE:=fun σ H Q=>wi σ H fun J H1=>Zoq k oix g tt te J σ H1 Q
def Zcy (its:List Value) (n:Nat):Obj:={ cls:=.type "list",data:=.seq its.toArray n }
theorem HOk.track {P:Qav} {w:World} {H:Hp} {h:Heap} {a:Addr} {o:HO} (x:HOk P w H h) (hn:H a=none) (new:ObjOk P w (upd H a o) h a o):HOk P w (upd H a o) h:=fun b u e=>by
 by_cases hb:b=a
 ·subst hb;rw [Zad] at e;cases e;exact new
 ·rw [Zt hb] at e
  exact (x b u e).stay (fun c v _ q=>q) (fun c q=>by rw [Zt (Z1 q hn)];exact q) fun c xs q=>by rw [Zt (Z1 q hn)];exact q
theorem Zos {X:Cx} {pins:List (Addr×Obj)} {σ:St} {H2:Hp} {s2:Shared} {tg elt iter:Expr} {ifs:List Expr} {scope:Scope} {pos:Pos} {J:It} {fp:List Addr} {it:Addr} {tn:Nat->Heap->Prop}
  {own outs:List Str} {oix:List Nat} {g:TG} {tt:TT} {te:TE} {Q:VK} {E:Value->Shared->Prop} {RR:Value->Addr->Result->Shared->Prop}
  (S:Zac own outs scope X.env.scope) (hox:oix.map (fun j=>X.N[j]?)=outs.map some) (hc:X.calm=true)
  (hg:∀ C s2 H2 fp pins,PG (cxC X own outs scope C s2 H2 fp pins) tg g)
  (ht:∀ C s2 H2 fp pins,PFs (cxC X own outs scope C s2 H2 fp pins) ifs tt)
  (he:∀ C s2 H2 fp pins,PE (cxC X own outs scope C s2 H2 fp pins) elt te)
  (I2:Inv X pins σ H2 s2) (T:ZeQ X.prog X.w X.K tg J fp it tn) (st:tn 0 s2.heap) (f2:∀ b∈fp,Zc3 X pins H2 b)
  (h:Zoq own.length oix g tt te J σ H2 Q)
  (hRR:∀ (C:Addr) (s':Shared) (m:Str->Option Value) (H':Hp),s'.heap.Ns C m->Inv X pins σ H' s'->H' C=none->C≠X.env.locals->X.s₀.heap.objs.size<=C ->
   (∀ x c,X.env.cells.lookup x=some c->c≠C)->(∀ p∈X.pn++pins,p.1≠C)->Q (.ref s2.heap.objs.size) H'->RR (.ref s2.heap.objs.size) C (.ok .next) s') :
  wpAny (model X.prog X.w) X.A (newList []) (fun acc s₃=>wpAny (model X.prog X.w) X.A (newFunctionEnv scope X.env.globals (Zbh X.env scope.names []) [] X.env.qual none .none (some X.env)) (fun cenv s₄ =>
   codeAny (model X.prog X.w) X.A (.compStart (.ListComp elt [⟨tg,iter,ifs,0⟩] scope pos) 0 (.ref it) acc { cenv with scope:=relabel scope X.env }) (RR acc cenv.locals) s₄) E s₃) E s2:=by
 obtain ⟨n,W,w0,turn⟩:=h
 refine Qbf (wpAny_newFunctionEnv S.nocell (by intro y hy;simp at hy) (fun h₁ hns₁ hsb₁=>?_) S.kind)
 dsimp only at hns₁ hsb₁ ⊢
 generalize hP:s2.heap.push { cls:=.type "list",dict:=none,data:=.seq ([]:List Value).toArray }=hp at hns₁ hsb₁ ⊢
 have hC:hp.objs.size=s2.heap.objs.size+1:=by rw [<- hP,Qba]
 generalize hCC:hp.objs.size=C at hns₁ hsb₁ hC ⊢
 have hDC:s2.heap.objs.size≠C:=by rw [hC];exact QaL (Nat.lt_succ_self _)
 have hDC':s2.heap.objs.size<C:=by rw [hC];exact Nat.lt_succ_self _
 have old:∀ b o,s2.heap.get? b=some o->h₁.get? b=some o:=fun b o e =>
  hsb₁.extBut b o (QaL (Qb9 (Qaq e) hDC')) (Qac _ (hP ▸ Qac _ e))
 have hacc:h₁.get? s2.heap.objs.size=some (Zcy [] 0):=hsb₁.extBut _ _ hDC (Qac _ (hP ▸ Qao _ rfl))
 -- the cells of the closure are cells of the frame
 have hcells:∀ x∈scope.names,x.2=.free->∃ c,X.env.cells.lookup x.1=some c:=fun x hx hf=>I2.ok.has x.1 (S.free x hx hf)
 have clX:∀ x c,(Zbh X.env scope.names []).lookup x=some c->X.env.cells.lookup x=some c:=fun x c e =>
  Zf4 scope.names [] hcells (fun p hp=>by cases hp) (x,c) (QbJ e)
 have clHas:∀ x,(x,Qbc)∈scope.names->∃ c,(Zbh X.env scope.names []).lookup x=some c:=fun x hx=>by
  obtain ⟨c,hc⟩:=Zgr (env:=X.env) scope.names [] x (.inl hx)
  exact Zh6 hc
 have fpLt:∀ b∈fp,b<s2.heap.objs.size:=fun b hb=>by
  obtain ⟨o,e,_⟩:=T.obj 0 _ st b hb
  exact Qaq e
 have cLt:∀ x c,X.env.cells.lookup x=some c->c<s2.heap.objs.size:=fun x c e=>by
  obtain ⟨v,q⟩:=I2.cell x c e
  exact q.lt
 have fpStk:∀ b∈fp,b∉frs X.stack:=fun b hb z=>by
  rcases Qbk.mp (I2.stkSub b z) with e | z
  ·exact (f2 b hb).2.1 e
  ·exact (f2 b hb).2.2.1 z
 have pinLt:∀ p∈X.pn++pins,p.1<s2.heap.objs.size:=fun p hp=>Qaq (I2.pin p hp).1
 have pinStk:∀ p∈X.pn++pins,p.1∉frs X.stack:=fun p hp z=>by
  rcases Qbk.mp (I2.stkSub _ z) with e | z
  ·exact (I2.pin p hp).2.2.1 e
  ·exact (I2.pin p hp).2.2.2.1 z
 have fsLt:∀ b∈frs X.stack,b<s2.heap.objs.size:=fun b hb=>by
  obtain ⟨_,o,ho,_⟩:=I2.stack.mem hb
  exact Qaq ho
 let Y:Cx:=cxC X own outs scope C s2 H2 fp pins
 have okY:Y.Ok:={
  mod:=I2.ok.mod
  kind:=S.kind
  glob:=I2.ok.glob
  blt:=I2.ok.blt
  above:=QcI hDC'
  inj:=fun x y c h1 h2=>I2.ok.inj x y c (clX x c h1) (clX y c h2)
  has:=fun x hx=>by
   refine clHas x ?_
   rcases hx with hx | hx
   ·exact relabel_mem (env:=X.env) (.inl rfl) S.nocell hx
   ·exact relabel_mem (env:=X.env) (.inr rfl) S.nocell hx
  cab:=fun x c hf _=>absurd (show false=true from hf) QbC
  hd:=I2.ok.hd
  frames:=I2.ok.frames
  stk:=.inl rfl
  exf:=fun b hb=>⟨QaL (Qb9 (fpLt b hb) hDC'),fun x c e=>(f2 b hb).2.2.2.2.1 x c (clX x c e)⟩
  bs:=I2.bs
  bsz:=QaP I2.ok.bsz I2.sz
  noex:=fun b o e hb=>by
   rcases (f2 b hb).2.2.2.1 with z | z
   ·exact I2.ok.noex b o e z
   ·exact absurd (Qay (Qaq e) (QaP I2.ok.bsz z)) (Qbu _)
  exfs:=fpStk
  funs:=I2.stack
  frf:=I2.stkFree }
 have hCH:∀ H':Hp,HOk X.prog X.w H' h₁->True:=fun _ _=>trivial
 have lenS:(ZaU own.length oix σ).length=Y.N.length:=by
  have e:=congrArg List.length hox
  simp only [Qaz] at e
  show (QaT own.length none++oix.map _).length=(own++outs).length
  rw [Qbg,Qbg,QbB,Qaz,e]
 have I4:Inv Y [(s2.heap.objs.size,Zcy [] 0)] (ZaU own.length oix σ) H2 { s2 with heap:=h₁ }:={
  ok:=okY
  os:=rfl
  bare:=I2.bare
  base:=Un.kept old
  loc:=by
   refine ⟨_,hns₁,fun i x v e1 e2 e3=>?_⟩
   -- an outer name
   have hi:own.length<=i:=by
    apply QcS
    intro hlt
    unfold ZaU at e2
    rw [QbA (by rw [QbB];exact hlt),Qbj] at e2
    rw [if_pos hlt] at e2
    cases e2
   unfold ZaU at e2
   rw [Qch (by rw [QbB];exact hi),QbB,Qa1] at e2
   have e1':outs[i-own.length]?=some x:=by
    have e1:(own++outs)[i]?=some x:=e1
    rwa [Qch hi] at e1
   cases ej:oix[i-own.length]? with
   | none=>rw [ej] at e2;cases e2
   | some j =>
    rw [ej] at e2
    have e2':(σ[j]?).join=some v:=Qbr e2
    have e2'':σ[j]?=some (some v):=by
     cases eσ:σ[j]? with
     | none=>rw [eσ] at e2';cases e2'
     | some z=>rw [eσ] at e2';exact congrArg some e2'
    have eN:X.N[j]?=some x:=by
     have q:=congrArg (fun l=>l[i-own.length]?) hox
     simp only [Qa1,ej,e1',QbH] at q
     exact Qbr q
    have hfree:scope.names.lookup x=some .free:=S.out x (QcR e1')
    have hmem:(x,Qbc)∈scope.names:=QbJ hfree
    have hk:X.env.scope.names.lookup x=some .cell\/X.env.scope.names.lookup x=some .free:=S.free (x,.free) hmem rfl
    obtain ⟨m,hn,hl⟩:=I2.loc
    obtain ⟨u,r,l⟩:=hl j x v eN e2'' (by rcases hk with hk | hk;exact .inr (.inl hk);exact .inr (.inr hk))
    refine ⟨u,r,.inr ⟨relabel_free (env:=X.env) hfree,?_⟩⟩
    obtain ⟨c,ec⟩:=clHas x hmem
    refine ⟨c,ec,?_⟩
    have ec':=clX x c ec
    rcases l with ⟨k,_⟩ | ⟨_,c',e',o,ho,hd⟩
    ·rcases hk with hk | hk
     ·exact absurd (k.symm.trans hk) (by decide)
     ·exact absurd (k.symm.trans hk) (by decide)
    ·rw [ec'] at e'
     cases e'
     exact ⟨o,old _ _ ho,hd⟩
  cell:=fun x c e=>by
   obtain ⟨v,o,ho,hd⟩:=I2.cell x c (clX x c e)
   exact ⟨v,o,old _ _ ho,hd⟩
  free:=I2.hok.fresh (QcI hDC')
  freeC:=fun x c e=>I2.freeC x c (clX x c e)
  pin:=fun p hp=>by
   rcases List.mem_append.mp hp with hp | hp
   ·obtain ⟨e,n,_,_,d⟩:=I2.pin p hp
    exact ⟨old _ _ e,n,QaL (Qb9 (pinLt p hp) hDC'),pinStk p hp,d⟩
   ·have e:p=(s2.heap.objs.size,Zcy [] 0):=by simpa using hp
    subst e
    refine ⟨hacc,I2.hok.fresh (Qau _),hDC,fun z=>absurd (fsLt _ z) (Qbu _),fun v z=>?_⟩
    have z':Data.seq _ _=QcA v:=z
    cases z'
  hok:=I2.hok.kept old
  len:=lenS }
 -- what stays of the iterator's records
 have fpY:∀ {H':Hp} {its:List Value} {k:Nat},(∀ b∈fp,H' b=none)->∀ b∈fp,Zc3 Y [(s2.heap.objs.size,Zcy its k)] H' b:=fun {H' its k} hn b hb=>by
  refine ⟨hn b hb,QaL (Qb9 (fpLt b hb) hDC'),fpStk b hb,.inl hb,fun x c e=>(f2 b hb).2.2.2.2.1 x c (clX x c e),fun p hp=>?_⟩
  rcases List.mem_append.mp hp with hp | hp
  ·exact (f2 b hb).2.2.2.2.2 p hp
  ·have e:p=(s2.heap.objs.size,Zcy its k):=by simpa using hp
   subst e
   exact Qbv (fpLt b hb)
 -- the end
 have fin:∀ (i:Nat) (ys:List V) (its:List Value) (k:Nat) (H':Hp) (s':Shared),Inv Y [(s2.heap.objs.size,Zcy its k)] (ZaU own.length oix σ) H' s'->Vals ys its->ys.length<=Qaj ->
   Q (.ref s2.heap.objs.size) (upd H' s2.heap.objs.size (.lst ys))->RR (.ref s2.heap.objs.size) C (.ok .next) s':=fun i ys its k H' s' I' rv hz q=>by
  obtain ⟨m,hn,_⟩:=I'.loc
  obtain ⟨eD,nD,_⟩:=I'.pin (s2.heap.objs.size,Zcy its k) (Qax _ (by simp))
  have un:Un (frs X.stack) fp H2 H' s2.heap s'.heap:=I'.base
  have neD:∀ b o,s2.heap.get? b=some o->b≠s2.heap.objs.size:=fun b o e=>QaL (Qaq e)
  have neH:∀ b o,H2 b=some o->b≠s2.heap.objs.size:=fun b o e=>QaL (I2.hok.lt e)
  have un':Un (frs X.stack) fp H2 (upd H' s2.heap.objs.size (.lst ys)) s2.heap s'.heap :=
   ⟨un.keep,un.slot,fun b o e n hx=>by rw [Zt (neD b o e)];exact un.free b o e n hx,un.there,fun b xs e=>by rw [Zt (neH b _ e)];exact un.tups b xs e,
    fun b o u e=>by rw [Zt (neH b _ e)];exact un.frzs b o u e,fun b ps e=>by rw [Zt (neH b _ e)];exact un.tbls b ps e⟩
  have hok':HOk X.prog X.w (upd H' s2.heap.objs.size (.lst ys)) s'.heap:=HOk.track I'.hok nD ⟨hz,its,k,rv,eD⟩
  have IX:Inv X pins σ (upd H' s2.heap.objs.size (.lst ys)) s':=I2.call' (ch:=fp) I'.os un' hok' I'.bare fun b hb=>⟨(f2 b hb).2.2.2.1,(f2 b hb).2.1,(f2 b hb).2.2.2.2.1,(f2 b hb).2.2.2.2.2⟩
  refine hRR C s' m _ hn IX ?_ ?_ ?_ ?_ ?_ q
  ·rw [Zt (QaD hDC)];exact I'.free
  ·exact Qbv (Qb9 I2.lt hDC')
  ·exact QaP I2.sz (QcI hDC')
  ·exact fun x c e=>QaL (Qb9 (cLt x c e) hDC')
  ·exact fun p hp=>QaL (Qb9 (pinLt p hp) hDC')
 have loop:codeAny (model X.prog X.w) X.A (.compLoop (.ListComp elt [⟨tg,iter,ifs,0⟩] scope pos) 0 (.ref it) (.ref s2.heap.objs.size) Y.env) (RR (.ref s2.heap.objs.size) C) { s2 with heap:=h₁ }:=by
  refine codeAny_loop rfl (fun k s'=>∃ (i:Nat) (ys:List V) (its:List Value) (c:Nat) (H':Hp),Inv Y [(s2.heap.objs.size,Zcy its c)] (ZaU own.length oix σ) H' s'/\Vals ys its/\tn i s'.heap/\(∀ b∈fp,H' b=none)/\W i ys H'/\k=n-i) (fun k s' hI=>?_) n
   ⟨0,[],[],0,H2,I4,.nil,T.keep 0 _ _ st fun b _ o e=>old b o e,fun b hb=>(f2 b hb).1,w0,rfl⟩
  show wpAny _ X.A ((compTurn (.ListComp elt [⟨tg,iter,ifs,0⟩] scope pos) 0 (.ref it) (.ref s2.heap.objs.size) Y.env).onRaise (fun x=>do noteFrame x Y.env;theTreesLotGoes x)) _ _ s'
  refine wpAny_noted ?_
  rw [compTurn_list]
  obtain ⟨i,ys,its,c,H',I',rv,st',fr',w',ek⟩:=hI
  rcases turn i ys H' w' with ⟨stop,hz,q⟩ | ⟨go,hin,hz,N,hN,step⟩
  ·refine Qaa (wpAny_standAt (Qaa (thn (T.done Y rfl rfl rfl hc i _ s' _ H' _ I' (fpY fr') st' stop) fun r s1 ⟨hr,I1⟩=>?_)))
   subst hr
   obtain ⟨_,nD,_⟩:=I1.pin (s2.heap.objs.size,Zcy its c) (Qax _ (by simp))
   exact Qae (fin i ys its c H' s1 I1 rv hz (q _ nD))
  ·refine Qaa (wpAny_standAt (Qaa (thn (T.item Y rfl rfl rfl hc i _ s' _ H' _ I' (fpY fr') st' go) fun r s1 ⟨u,hr,h1⟩=>?_)))
   subst hr
   refine Qaa (thn h1 fun _ s5 ⟨x,H5,I5,r5,y5,st5,fr5⟩=>?_)
   have I5':=I5.pinned (fpY fr5) (T.obj _ _ st5)
   refine Qaa (wpAny_noRaise (thn (hg C s2 H2 fp pins _ s5 _ H5 x u _ I5' r5 (step x H5 y5)) fun _ s6 ⟨σ6,H6,I6,dr6,q6⟩=>?_))
   refine Qaa (wpAny_noRaise (thn (ht C s2 H2 fp pins _ s6 σ6 H6 _ I6 q6) fun ok s7 ⟨H7,I7,q7⟩=>?_))
   -- back to the begin of a turn
   have back:∀ {H8:Hp} {s8:Shared} {its8:List Value} {c8:Nat},Inv Y ([(s2.heap.objs.size,Zcy its8 c8)]++ZdX fp s5.heap) σ6 H8 s8 ->
     Inv Y [(s2.heap.objs.size,Zcy its8 c8)] (ZaU own.length oix σ) H8 s8/\tn (i+1) s8.heap/\∀ b∈fp,H8 b=none:=fun {H8 s8 its8 c8} I8=>by
    refine ⟨I8.unpinned.weak ?_ fun j v e=>?_,T.keep _ _ _ st5 fun b hb o e=>(I8.pin (b,o) (Qax _ (Qax _ (ZdK hb e)))).1,fun b hb=>?_⟩
    ·exact lenS.trans I8.len.symm
    ·have hj:own.length<=j:=by
      apply QcS
      intro hlt
      unfold ZaU at e
      rw [QbA (by rw [QbB];exact hlt),Qbj] at e
      rw [if_pos hlt] at e
      cases e
     have e':=congrArg (fun l=>l[j-own.length]?) dr6
     simp only [Qc6] at e'
     rw [show own.length+(j-own.length)=j by omega] at e'
     exact e'.trans e
    ·obtain ⟨o,e,d⟩:=T.obj _ _ st5 b hb
     exact (I8.pin (b,o) (Qax _ (Qax _ (ZdK hb e)))).2.1
   cases ok with
   | false =>
    obtain ⟨I8,st8,fr8⟩:=back I7
    exact Qae ⟨rfl,n-(i+1),by omega,i+1,ys,its,c,H7,I8,rv,st8,fr8,hN _ _ q7,rfl⟩
   | true =>
    refine Qaa (Qaa (wpAny_noRaise (thn (he C s2 H2 fp pins _ s7 σ6 H7 _ I7 q7) fun y s8 ⟨z,H8,I8,r8,w8⟩=>?_)))
    obtain ⟨eD,nD,neL,nF,dD⟩:=I8.pin (s2.heap.objs.size,Zcy its c) (Qax _ (QbR _ (by simp)))
    have hl:=rv.length
    refine Qaa (call_meets F.slot_list_append ⟨_,eD,rfl⟩ F.entry_list_append (F.args_list_append_2 _ _) (PySem.list_append _ its.toArray c y (by rw [Qal];omega)) ⟨eD,?_⟩)
    obtain ⟨n',q⟩:∃ n',(s8.heap.update s2.heap.objs.size (Qck (·.push y))).get? s2.heap.objs.size=some (Zcy (its++[y]) n'):=by
     have q:=PySem.IsL.update eD (·.push y)
     rw [show its.toArray.push y=(its++[y]).toArray by simp] at q
     exact ⟨_,q⟩
    have I9:Inv Y (ZdX fp s5.heap) σ6 H8 { s8 with heap:=s8.heap.update s2.heap.objs.size (Qck (·.push y)) } :=
     (I8.pins_of fun p hp=>I8.pin p (Qax _ (Qax _ hp))).turned (t':=s8.toks) (it:=s2.heap.objs.size) (fun b o hb e=>(QbL _ _ (QaD hb)).trans e) nD hDC (.inr (Qau _))
      (fun x c' e=>QaL (cLt x c' (clX x c' e))) fun p hp=>by
       rcases List.mem_append.mp hp with hp | hp
       ·exact QaL (pinLt p hp)
       ·exact QaL (fpLt _ (ZiC hp).1)
    have I10:Inv Y ([(s2.heap.objs.size,Zcy (its++[y]) n')]++ZdX fp s5.heap) σ6 H8 { s8 with heap:=s8.heap.update s2.heap.objs.size (Qck (·.push y)) }:=I9.pins_of fun p hp=>by
     rcases List.mem_append.mp hp with hp | hp
     ·have e:p=(s2.heap.objs.size,Zcy (its++[y]) n'):=by simpa using hp
      subst e
      exact ⟨q,nD,neL,nF,fun v z=>by
       have z':Data.seq _ _=QcA v:=z
       cases z'⟩
     ·exact I9.pin p (Qax _ hp)
    obtain ⟨I11,st11,fr11⟩:=back I10
    exact Qae (Qae ⟨rfl,n-(i+1),by omega,i+1,ys++[z],its++[y],_,H8,I11,rv.append (.cons r8 .nil),st11,fr11,hN _ _ w8,rfl⟩)
 exact codeAny_compStart_list loop (T.self _ 0 _ _ _ (T.keep 0 _ _ st fun b _ o e=>old b o e) loop)
section
variable {X:Cx} {tg elt iter:Expr} {ifs:List Expr} {scope:Scope} {pos:Pos} {oix:List Nat} {wi:TI} {g:TG} {tt:TT} {te:TE}
theorem Zrh (own outs:List Str) (oix:List Nat) (S:Zac own outs scope X.env.scope) (hox:oix.map (fun j=>X.N[j]?)=outs.map some) (hc:X.calm=true) (hi:PI X tg iter wi)
  (hg:∀ C s2 H2 fp pins,PG (cxC X own outs scope C s2 H2 fp pins) tg g)
  (ht:∀ C s2 H2 fp pins,PFs (cxC X own outs scope C s2 H2 fp pins) ifs tt)
  (he:∀ C s2 H2 fp pins,PE (cxC X own outs scope C s2 H2 fp pins) elt te)
  (hs:∀ x,QcG iter X.env x=pure x:=by intro _;rfl) :
  PE X (.ListComp elt [⟨tg,iter,ifs,0⟩] scope pos) (Zqj own.length oix wi g tt te):=by
 intro pins s σ H Q I h
 rw [eval_ListComp]
 refine wpAny_comprehension_free (use:=none) rfl hs (Zjp fun x hx hf=>I.ok.has x.1 (S.free x hx hf)) S.kind S.loc (thn (hi pins s σ H _ I h) fun xv s₁ h₁=>thn h₁ fun itv s₂ h₂=>?_)
 obtain ⟨it,fp,tn,J,H2,e,I2,T,st2,f2,turns⟩:=h₂
 subst e
 refine Zos (RR:=fun acc C=>compPost (model X.prog X.w) X.A X.xe none (EP X pins σ Q) acc C) S hox hc hg ht he I2 T st2 f2 turns ?_
 intro C s' m H' hn I' hC hL h0 hcell hpin q
 exact ⟨m,hn,fun h' hs'=>⟨.ref _,H',I'.turned (h':=h') (t':=s'.toks) (it:=C) (fun b o hb e=>hs'.extBut b o hb e) hC hL (.inr h0) hcell hpin,rfl,q⟩⟩
end
section
variable {K:Qab} {k:Nat} {oix:List Nat} {g:TG} {tt:TT} {te:TE} {σ:St} {H:Hp} {Q:VK}
end
def Its (x:Str):It:=⟨fun i _=>i<x.cps.size,fun i H v H'=>H'=H/\∃ c,x.cps[i]?=some c/\v=.str ⟨#[c]⟩,fun i _=>x.cps.size<=i⟩
theorem ZmA {P:Qav} {w:World} {K:Qab} {tg:Expr} (it:Addr) (x:Str) (t:Tok):ZeQ P w K tg (Its x) [it] it (fun i h=>h.IsStrIter it "str_ascii_iterator" x t i) where
 mem:=by simp
 obj:=fun i h st b hb=>by
  have e:b=it:=by simpa using hb
  subst e
  obtain ⟨o,e,c,d⟩:=st
  exact ⟨o,e,fun v z=>by rw [d] at z;cases z⟩
 keep:=fun i h h' st k=>by
  obtain ⟨o,e,r⟩:=st
  exact ⟨o,k it (by simp) o e,r⟩
 item:=by
  intro X hP hw hK hc i pins s σ H E I hf st hg
  subst hP hw hK
  obtain ⟨f0,f1,f2,f3,f4,f5⟩:=hf it (by simp)
  have hg':i<x.cps.size:=hg
  refine wpAny_pyNext_ascii_item st (c:=x.cps[i]) (by simp [hg']) fun h' st' sb=>?_
  have I1:Inv X pins σ H { s with heap:=h',toks:=s.toks+1 }:=I.turned (t':=s.toks+1) (fun b o hb e=>(sb.2 b hb).trans e) f0 f1 f3 f4 f5
  obtain ⟨o,e,c,d⟩:=id st'
  exact ⟨_,rfl,ZhO (s:={ s with heap:=h',toks:=s.toks+1 }) e c d (by decide) ⟨.str ⟨#[x.cps[i]]⟩,H,I1,⟨_,rfl⟩,⟨rfl,_,by simp [hg'],rfl⟩,st',fun b hb=>(hf b hb).1⟩⟩
 done:=by
  intro X hP hw hK hc i pins s σ H E I hf st hg
  subst hP hw hK
  obtain ⟨f0,f1,f2,f3,f4,f5⟩:=hf it (by simp)
  have hg':x.cps.size<=i:=hg
  exact wpAny_pyNext_ascii_end (I.ok.hd hc) st (by simp [hg']) fun h' eb=>⟨rfl,I.turned (t':=s.toks) (fun b o hb e=>eb b o hb e) f0 f1 f3 f4 f5⟩
 self:=fun _ _ _ _ _ st h=>wpAny_pyIter_striter_ascii st h
theorem ZnG {P:Qav} {w:World} {K:Qab} {tg:Expr} (it:Addr) (x:Str) (t:Tok):ZeQ P w K tg (Its x) [it] it (fun i h=>h.IsStrIter it "str_iterator" x t i) where
 mem:=by simp
 obj:=fun i h st b hb=>by
  have e:b=it:=by simpa using hb
  subst e
  obtain ⟨o,e,c,d⟩:=st
  exact ⟨o,e,fun v z=>by rw [d] at z;cases z⟩
 keep:=fun i h h' st k=>by
  obtain ⟨o,e,r⟩:=st
  exact ⟨o,k it (by simp) o e,r⟩
 item:=by
  intro X hP hw hK hc i pins s σ H E I hf st hg
  subst hP hw hK
  obtain ⟨f0,f1,f2,f3,f4,f5⟩:=hf it (by simp)
  have hg':i<x.cps.size:=hg
  refine wpAny_pyNext_wide_item st (c:=x.cps[i]) (by simp [hg']) fun h' st' sb=>?_
  have I1:Inv X pins σ H { s with heap:=h',toks:=s.toks+1 }:=I.turned (t':=s.toks+1) (fun b o hb e=>(sb.2 b hb).trans e) f0 f1 f3 f4 f5
  obtain ⟨o,e,c,d⟩:=id st'
  exact ⟨_,rfl,ZhO (s:={ s with heap:=h',toks:=s.toks+1 }) e c d (by decide) ⟨.str ⟨#[x.cps[i]]⟩,H,I1,⟨_,rfl⟩,⟨rfl,_,by simp [hg'],rfl⟩,st',fun b hb=>(hf b hb).1⟩⟩
 done:=by
  intro X hP hw hK hc i pins s σ H E I hf st hg
  subst hP hw hK
  obtain ⟨f0,f1,f2,f3,f4,f5⟩:=hf it (by simp)
  have hg':x.cps.size<=i:=hg
  exact wpAny_pyNext_wide_end (I.ok.hd hc) st (by simp [hg']) fun h' eb=>⟨rfl,I.turned (t':=s.toks) (fun b o hb e=>eb b o hb e) f0 f1 f3 f4 f5⟩
 self:=fun _ _ _ _ _ st h=>wpAny_pyIter_striter_wide st h
section
variable {X:Cx} {tg:Expr}
def Zu2 (tl:TE):TI:=fun σ H R=>tl σ H fun v H1=>∃ x,v=.str x/\R (Its x) H1
theorem Zsi {l:Expr} {tl:TE} (hl:PE X l tl):PI X tg l (Zu2 tl):=by
 intro pins s σ H R I h
 refine thn (hl pins s σ H _ I h) fun v s1 ⟨y,H1,I1,r1,q1⟩=>?_
 obtain ⟨x,e,q⟩:=q1
 subst e
 obtain ⟨t,rfl⟩:=r1
 have fp:∀ {o:Obj} (b:Addr),b∈[s1.heap.objs.size]->Zc3 X pins H1 b:=fun {o} b hb=>by
  have e:b=s1.heap.objs.size:=by simpa using hb
  subst e
  exact I1.fpOk (Qau _) (I1.hok.fresh (Qau _))
 cases ha:x.cps.all (·<128)
 ·exact wpAny_pyIter_wide ha ⟨s1.heap.objs.size,[s1.heap.objs.size],_,_,H1,rfl,I1.kept (t':=s1.toks) fun b o e=>Qac _ e,ZnG _ x t,⟨_,Qao _ rfl,rfl,rfl⟩,fp (o:=default),q⟩
 ·exact wpAny_pyIter_ascii ha ⟨s1.heap.objs.size,[s1.heap.objs.size],_,_,H1,rfl,I1.kept (t':=s1.toks) fun b o e=>Qac _ e,ZmA _ x t,⟨_,Qao _ rfl,rfl,rfl⟩,fp (o:=default),q⟩
end
end L2
namespace L2
open PySem PySem.Spec PyProof.Rows
section
variable {X:Cx}
end
section
variable {X:Cx}
def Zu1:V->Option Int->Option Int->Hp->VK->Prop:=fun x lo hi H Q=>∃ z,x=.str z/\z.length<=Qaj/\Q (.str (Qa2 z lo hi)) H
theorem Ztp:SlR X Zu1:=by
 intro pins s σ H x v vl vu lo hi sl Q I rx hs pl pu h
 obtain ⟨z,rfl,hz,q⟩:=h
 obtain ⟨t,rfl⟩:=rx
 refine ⟨"str",_,PySem.F.slot_str_getitem.lookup,typeIs_str s z t,?_⟩
 cases pl with
 | none =>
  cases pu with
  | none=>exact Qcw (l:=none) (u:=none) (st:=none) hs rfl (post_val_or_str ⟨QaP (Txt.slice_le z _ _) hz,fun t' k=>⟨.str (Qa2 z none none),H,I.tok _,⟨_,rfl⟩,q⟩⟩)
  | int j uj=>exact Qcw (l:=none) (u:=some (j,uj)) (st:=none) hs rfl (post_val_or_str ⟨QaP (Txt.slice_le z _ _) hz,fun t' k=>⟨.str (Qa2 z none (some j)),H,I.tok _,⟨_,rfl⟩,q⟩⟩)
 | int i ui =>
  cases pu with
  | none=>exact Qcw (l:=some (i,ui)) (u:=none) (st:=none) hs rfl (post_val_or_str ⟨QaP (Txt.slice_le z _ _) hz,fun t' k=>⟨.str (Qa2 z (some i) none),H,I.tok _,⟨_,rfl⟩,q⟩⟩)
  | int j uj=>exact Qcw (l:=some (i,ui)) (u:=some (j,uj)) (st:=none) hs rfl (post_val_or_str ⟨QaP (Txt.slice_le z _ _) hz,fun t' k=>⟨.str (Qa2 z (some i) (some j)),H,I.tok _,⟨_,rfl⟩,q⟩⟩)
end
theorem Zg5 {bs:List Bool}:∀ {us:List Value},Vals (bs.map V.bl) us->LSm.BoolsAre us bs:=by
 induction bs with
 | nil=>intro us r;rw [Qa3] at r;cases r;exact .nil
 | cons n ns ih =>
  intro us r
  rw [Qai] at r
  cases r with
  | cons r1 r2 =>
   have e:_=Value.bool n:=r1
   subst e
   exact .cons n (ih r2)
section
variable {X:Cx}
theorem Zli (hc:X.calm=true):CallR X (.builtin "all") (fun xs H Q=>∃ (a:Addr) (bs:List Bool),xs=[.ref a]/\SqL X.K H a (bs.map V.bl)/\Q (.bl (bs.all id)) H):=by
 intro pins s σ H xs us Q I r h
 obtain ⟨a,bs,rfl,hq,q⟩:=h
 obtain ⟨u,rfl,ru⟩:=ZaV r
 cases ru
 obtain ⟨its,rv,pl,hz⟩:=I.list hq
 have hb:=Zg5 rv
 have hl:=pl.isList
 have hlt:a<s.heap.objs.size:=by obtain ⟨_,e,_⟩:=hl;exact Qaq e
 refine call_all_walk (QcF hl ?_)
 refine ⟨s.heap.objs.size,[s.heap.objs.size,a],[s.heap.objs.size],its.toArray.size,_,_,fun i=>(bs[i]?).getD true,rfl,Walks.list (A:=X.A.in1) (I.ok.hd hc) _ a (QaL hlt) its.toArray,
  ⟨⟨_,Qao _ rfl,rfl,rfl⟩,hl.push _⟩,fun i v s' Q' E' hP hQ=>?_,fun h' tk hk=>⟨.bl _,H,I.kept (LSm.kept_iter hk),rfl,?_⟩⟩
 ·obtain ⟨b,e,rfl⟩:=hb.get i v (by simpa using hP)
  simp only [e,QcT] at hQ
  exact QbD hQ
 ·have e:((Qaw its.toArray.size).all fun i=>(bs[i]?).getD true)=bs.all id:=by
   rw [Qal,hb.length];exact LSm.range_all bs
  rw [e]
  exact q
theorem ZjZ (hc:X.calm=true):CallR X (.builtin "any") (fun xs H Q=>∃ (a:Addr) (bs:List Bool),xs=[.ref a]/\SqL X.K H a (bs.map V.bl)/\Q (.bl (bs.any id)) H):=by
 intro pins s σ H xs us Q I r h
 obtain ⟨a,bs,rfl,hq,q⟩:=h
 obtain ⟨u,rfl,ru⟩:=ZaV r
 cases ru
 obtain ⟨its,rv,pl,hz⟩:=I.list hq
 have hb:=Zg5 rv
 have hl:=pl.isList
 have hlt:a<s.heap.objs.size:=by obtain ⟨_,e,_⟩:=hl;exact Qaq e
 refine call_any_walk (QcF hl ?_)
 refine ⟨s.heap.objs.size,[s.heap.objs.size,a],[s.heap.objs.size],its.toArray.size,_,_,fun i=>(bs[i]?).getD false,rfl,Walks.list (A:=X.A.in1) (I.ok.hd hc) _ a (QaL hlt) its.toArray,
  ⟨⟨_,Qao _ rfl,rfl,rfl⟩,hl.push _⟩,fun i v s' Q' E' hP hQ=>?_,fun h' tk hk=>⟨.bl _,H,I.kept (LSm.kept_iter hk),rfl,?_⟩⟩
 ·obtain ⟨b,e,rfl⟩:=hb.get i v (by simpa using hP)
  simp only [e,QcT] at hQ
  exact QbD hQ
 ·have e:((Qaw its.toArray.size).any fun i=>(bs[i]?).getD false)=bs.any id:=by
   rw [Qal,hb.length];exact LSm.range_any bs
  rw [e]
  exact q
end
section
open PySem.SeqAt
inductive ZcA (A:Around) (s:Shared):List Value->List Value->Bool->Prop where
 | nn:ZcA A s [] [] false
 | nc {w ws}:ZcA A s [] (w::ws) true
 | cn {v vs}:ZcA A s (v::vs) [] false
 | eq {v w vs ws b}:EqAt A s v w true->ZcA A s vs ws b->ZcA A s (v::vs) (w::ws) b
 | ne {v w vs ws b}:EqAt A s v w false->(∀ (prog:Qav) (wo:World) (E Q:Value->Shared->Prop),Q (.bool b) s->wpAny (model prog wo) A (richCompare .Lt v w) Q E s)->ZcA A s (v::vs) (w::ws) b
end
section
open PySem.SeqAt
open PySem.AutoSeq1 (wpAny_loadPart')
open PySem.MeetsSeq PySem.MeetsSeq2 PySem.MeetsSeq3
theorem Zlp (l b:Addr) (items items2:Array Value) (n n2:Nat) (dd dd2:Option Addr) (sl sl2:Array (Option Value)) (r:Bool) :
  Meets (Builtin.«tuple.__lt__» ⟨[.ref l,.ref b],[]⟩)
   (fun A R s=>s.heap.get? l=some { cls:=.type "tuple",dict:=dd,data:=.seq items n,slots:=sl }/\s.heap.get? b=some { cls:=.type "tuple",dict:=dd2,data:=.seq items2 n2,slots:=sl2 } /\
    ZcA A.in1 s items.toList items2.toList r/\R (.ok (.ret (.bool r))) s) :=
 .of_wp fun prog w A R s h=>by
  obtain ⟨hp,g,d,tk,os⟩:=s;obtain ⟨hl,hb,hlt,h⟩:=h
  have f2:=AutoSeq1.sub_tuple_tuple
  wp_walk using Qa0 hl,Qa0 hb,wpAny_forIn_list _ (fun Zaa b s'=>b.1=none/\s'=⟨hp,g,d,tk,os⟩/\∃ (vs ws:List Value),Zaa=vs.zip ws /\
   ZcA A.in1 ⟨hp,g,d,tk,os⟩ vs ws r/\vs.length+items2.size=ws.length+items.size) _
  case turn =>
   rintro ⟨y,x⟩ Zaa b s' ⟨hb',rfl,vs,ws,hz,hlt',hlen⟩
   cases hlt' with
   | nn=>rw [List.zip_nil_left] at hz;cases hz
   | nc=>rw [List.zip_nil_left] at hz;cases hz
   | cn=>rw [List.zip_nil_right] at hz;cases hz
   | eq he hr =>
    rw [Qca] at hz
    injection hz with hyx hrest
    injection hyx with hy hx
    subst hy hx
    simp only [QaK] at hlen
    refine Qaa (he prog w _ _ ?_)
    wp_walk
    exact ⟨rfl,rfl,_,_,hrest,hr,by omega⟩
   | ne he hr =>
    rw [Qca] at hz
    injection hz with hyx hrest
    injection hyx with hy hx
    subst hy hx
    refine Qaa (he prog w _ _ ?_)
    have hri:=hr prog w
    wp_walk using hri
    exact ⟨_,rfl,by simpa using h⟩
  case fin =>
   rintro ⟨b1,b2⟩ s' ⟨hb',rfl,vs,ws,hz,hlt',hlen⟩
   simp only at hb'
   subst hb'
   have hv:r=decide (items.size<items2.size):=by
    cases hlt' with
    | nn =>
     simp only [Qbb] at hlen
     exact (decide_eq_false (by omega)).symm
    | nc =>
     simp only [Qbb,QaK] at hlen
     exact (decide_eq_true (by omega)).symm
    | cn =>
     simp only [Qbb,QaK] at hlen
     exact (decide_eq_false (by omega)).symm
    | eq _ _=>rw [Qca] at hz;cases hz
    | ne _ _=>rw [Qca] at hz;cases hz
   rw [hv] at h
   wp_walk
   exact ⟨_,rfl,by simpa [Builtin.Tuple.tupleCompareSizes] using h⟩
  case h =>
   exact ⟨rfl,rfl,items.toList,items2.toList,rfl,hlt,by simp;omega⟩
theorem Zpx (l b:Addr) (items items2:Array Value) (n n2:Nat) (dd dd2:Option Addr) (sl sl2:Array (Option Value)) (r:Bool) (k:Nat) :
  ∀ i:Nat,items.size-i=k->Meets (Builtin.«list.__eq__.loop» ⟨[.ref l,.ref b,rawInt i,rawInt 0],[]⟩)
   (fun A R s=>s.heap.get? l=some { cls:=.type "list",dict:=dd,data:=.seq items n,slots:=sl }/\s.heap.get? b=some { cls:=.type "list",dict:=dd2,data:=.seq items2 n2,slots:=sl2 } /\
    ZcA A.in1 s (items.toList.drop i) (items2.toList.drop i) r/\(i<=items.size/\i<=items2.size)/\R (.ok (.ret (.bool r))) s):=by
 induction k with
 | zero =>
  intro i hk prog w A R s h
  obtain ⟨hp,g,d,tk,os⟩:=s;obtain ⟨hl,hb,he,⟨z1,z2⟩,h⟩:=h
  wp_walk using Qa0 hl,Qa0 hb
  have hi1:items[((i:Nat):Int).toNat]?=none:=by simp;omega
  have hd:items.toList.drop i=[]:=QcD (by simp;omega)
  rw [hd] at he
  rw [hi1]
  have hr:r=decide (items.size<items2.size):=by
   cases hx:items2.toList.drop i with
   | nil =>
    rw [hx] at he
    have:=congrArg List.length hx
    simp at this
    cases he
    exact (decide_eq_false (by omega)).symm
   | cons a t =>
    rw [hx] at he
    have:=congrArg List.length hx
    simp at this
    cases he
    exact (decide_eq_true (by omega)).symm
  rw [hr] at h
  wp_walk using Qa0 hl,Qa0 hb
  exact h
 | succ k ih =>
  intro i hk prog w A R s h
  obtain ⟨hp,g,d,tk,os⟩:=s;obtain ⟨hl,hb,he,⟨z1,z2⟩,h⟩:=h
  wp_walk using Qa0 hl,Qa0 hb
  have hlt:i<items.size:=by omega
  have hi1:items[((i:Nat):Int).toNat]?=some items[i]:=by simp [hlt]
  have hd:items.toList.drop i=items[i]::items.toList.drop (i+1):=by rw [Qcl (by simpa using hlt)];simp
  have hc:((i:Int)+1)=((i+1:Nat):Int):=by push_cast;rfl
  rw [hd] at he
  rw [hi1]
  by_cases hlt2:i<items2.size
  ·have hi2:items2[((i:Nat):Int).toNat]?=some items2[i]:=by simp [hlt2]
   have hd2:items2.toList.drop i=items2[i]::items2.toList.drop (i+1):=by rw [Qcl (by simpa using hlt2)];simp
   rw [hd2] at he
   rw [hi2]
   cases he with
   | eq he hr =>
    refine Qaa (he prog w _ _ ?_)
    wp_walk
    rw [hc]
    exact ⟨plainId_quiet plain_eq_loop _,Qce entry_eq_loop (by
     rw [QbT plain_eq_loop _]
     exact ih (i+1) (by omega) prog w A R _ ⟨hl,hb,hr,⟨hlt,hlt2⟩,h⟩)⟩
   | ne he hr =>
    refine Qaa (he prog w _ _ ?_)
    wp_walk using Qa0 hl,Qa0 hb
    rw [hi1,hi2]
    have hri:=hr prog w
    wp_walk using hri
    exact h
  ·have hi2:items2[((i:Nat):Int).toNat]?=none:=by simp;omega
   have hd2:items2.toList.drop i=[]:=QcD (by simp;omega)
   rw [hd2] at he
   rw [hi2]
   have hr:r=decide (items.size<items2.size):=by
    cases he
    exact (decide_eq_false (by omega)).symm
   rw [hr] at h
   wp_walk using Qa0 hl,Qa0 hb
   exact h
theorem ZhB (l b:Addr) (items items2:Array Value) (n n2:Nat) (dd dd2:Option Addr) (sl sl2:Array (Option Value)) (r:Bool) :
  Meets (Builtin.«list.__lt__» ⟨[.ref l,.ref b],[]⟩)
   (fun A R s=>s.heap.get? l=some { cls:=.type "list",dict:=dd,data:=.seq items n,slots:=sl }/\s.heap.get? b=some { cls:=.type "list",dict:=dd2,data:=.seq items2 n2,slots:=sl2 } /\
    ZcA A.in1 s items.toList items2.toList r/\R (.ok (.ret (.bool r))) s):=by
 intro prog w A R s h
 obtain ⟨hp,g,d,tk,os⟩:=s;obtain ⟨hl,hb,he,h⟩:=h
 have f3:=AutoSeq1.sub_list_list
 wp_walk using Qa0 hl,Qa0 hb
 exact ⟨plainId_quiet plain_eq_loop _,Qce entry_eq_loop (by
  rw [QbT plain_eq_loop _]
  exact Zpx l b items items2 n n2 dd dd2 sl sl2 r _ 0 rfl prog w A R _ ⟨hl,hb,he,⟨Nat.zero_le _,Nat.zero_le _⟩,h⟩)⟩
end
section
variable {prog:Qav} {w:World} {A:Around} {E:Value->Shared->Prop} {s:Shared}
theorem ZpL {l b:Addr} {items items2:Array Value} {r:Bool} {Q:Value->Shared->Prop} (hl:IsTup s.heap l items) (hb:IsTup s.heap b items2) (hr:ZcA A.in1 s items.toList items2.toList r)
  (hu:A.units<cLine) (h:Q (.bool r) s):wpAny (model prog w) A (richCompare .Lt (.ref l) (.ref b)) Q E s:=by
 obtain ⟨⟨cls,dd,data,sl⟩,ho,hc,n,hd⟩:=id hl
 obtain ⟨⟨cls2,dd2,data2,sl2⟩,ho2,hc2,n2,hd2⟩:=id hb
 simp only at hc hd hc2 hd2
 subst hc hd hc2 hd2
 exact richCompare_meets_room (op:=.Lt) ⟨_,ho,rfl⟩ ⟨_,ho2,rfl⟩ PySem.F.slot_tuple_lt PySem.F.entry_tuple_lt (PySem.F.args_tuple_lt_2 _ _) (Zlp l b items items2 n n2 dd dd2 sl sl2 r)
  ⟨ho,ho2,hr,show Value.bool r≠Value.notImplemented/\Q (.bool r) s from ⟨(fun x=>nomatch x),h⟩⟩ hu
theorem Zo4 {l b:Addr} {items items2:Array Value} {r:Bool} {n n2:Nat} {dd dd2:Option Addr} {sl sl2:Array (Option Value)} {Q:Value->Shared->Prop} (hl:s.heap.get? l=some { cls:=.type "list",dict:=dd,data:=.seq items n,slots:=sl }) (hb:s.heap.get? b=some { cls:=.type "list",dict:=dd2,data:=.seq items2 n2,slots:=sl2 }) (hr:ZcA A.in1 s items.toList items2.toList r)
  (hu:A.units<cLine) (h:Q (.bool r) s):wpAny (model prog w) A (richCompare .Lt (.ref l) (.ref b)) Q E s :=
 richCompare_meets_room (op:=.Lt) ⟨_,hl,rfl⟩ ⟨_,hb,rfl⟩ PySem.F.slot_list_lt PySem.F.entry_list_lt (PySem.F.args_list_lt_2 _ _) (ZhB l b items items2 n n2 dd dd2 sl sl2 r)
  ⟨hl,hb,hr,show Value.bool r≠Value.notImplemented/\Q (.bool r) s from ⟨(fun x=>nomatch x),h⟩⟩ hu
end
def ltS:V->V->Option Bool
 | .int i,.int j=>some (decide (i<j))
 | .str a,.str b=>some (decide (a.cps.toList<b.cps.toList))
 | _,_=>none
def ltL:List V->List V->Option Bool
 | [],[]=>some false
 | [],_::_=>some true
 | _::_,[]=>some false
 | x::xs,y::ys=>if (Zqi x&&Zqi y)=true then (if eqV x y=true then ltL xs ys else ltS x y) else none
section
variable {X:Cx}
end
theorem Zbn (x:Str):x.cps.toList.length=x.length:=by simp [Str.length]
def Zjt (K:Qab):Sp:=fun vs H Q _=>∃ (a:Addr) (ns:List Int),vs=[.ref a]/\SqL K H a (ns.map V.int)/\ns.length<=63/\∀ H',Q (.bl true) H'
section
variable {X:Cx}
end
section
variable {X:Cx}
end
theorem Zhd {H:Hp} {p:Addr} {o:HO} (h:H p=none):Same H (upd H p o):=fun b u e=>by rw [Zt (Z1 e h)];exact e
end L2
namespace L2
open PySem PySem.Spec PyProof.Rows
theorem Zh5 {A B:Prop} (h:A):(if true=true then A else B):=(if_pos (c:=true=true) rfl:ite _ A B=A) ▸ h
theorem Zh4 {A B:Prop} (h:B):(if false=true then A else B):=(if_neg (c:=false=true) QbC:ite _ A B=B) ▸ h
inductive D where
 | non | bl (b:Bool) | int (i:Int) | str (x:Str) | ty (n:String) | tup (xs:List D) | lst (xs:List D) (b:Bool:=false)
def ZpB:D->At
 | .int i=>.int i
 | .str x=>.str x
 | _=>.non
def Zo8:D->KT
 | .tup l=>.tup (l.map ZpB)
 | d=>.at (ZpB d)
def ZfA:List D->List KT
 | k::_::r=>Zo8 k::ZfA r
 | _=>[]
def CO (b:Bool) (xs:List D) (vs:List V):HO:=match b with
 | false=>.lst vs
 | true=>.dct (ZfA xs) vs
def isL:HO->Bool
 | .lst _=>true
 | .dct _ _=>true
 | _=>false
theorem Zsj (b:Bool) (xs:List D) (vs:List V):isL (CO b xs vs)=true:=by cases b<;>rfl
abbrev Fb:=Addr->Prop
def KL (K:Qab) (a:Addr) (vs:List V):Prop:=SqL K (fun _=>none) a vs
def LstAt (K:Qab) (N:Fb) (H:Hp) (a:Addr) (o:HO):Prop:=(¬ N a/\Rd H a o)\/∃ vs,o=.lst vs/\KL K a vs
theorem KL.sq {K:Qab} {H:Hp} {a:Addr} {vs:List V} (h:KL K a vs):SqL K H a vs:=by
 rcases h with (h | ⟨o,h⟩) | h
 ·cases h
 ·cases h
 ·exact .inr h
theorem LstAt.sq {K:Qab} {N:Fb} {H:Hp} {a:Addr} {vs:List V} (h:LstAt K N H a (.lst vs)):SqL K H a vs:=by
 rcases h with ⟨_,h⟩ | ⟨ws,e,h⟩
 ·exact .inl h
 ·cases e;exact h.sq
theorem LstAt.of {K:Qab} {N:Fb} {H:Hp} {a:Addr} {o:HO} (n:¬ N a) (h:H a=some o):LstAt K N H a o:=.inl ⟨n,.inl h⟩
theorem LstAt.of_sq {K:Qab} {H:Hp} {a:Addr} {vs:List V} (h:SqL K H a vs):LstAt K (fun _=>False) H a (.lst vs):=by
 rcases h with h | h
 ·exact .inl ⟨id,h⟩
 ·exact .inr ⟨vs,rfl,.inr h⟩
mutual
def Den (K:Qab) (N:Fb) (H:Hp):D->V->Prop
 | .non,v=>v=.non
 | .bl b,v=>v=.bl b
 | .int i,v=>v=.int i
 | .str x,v=>v=.str x
 | .ty n,v=>v=.ty n
 | .tup xs,v=>∃ a vs,v=.ref a/\SqT K H a vs/\DenL K N H xs vs
 | .lst xs b,v=>∃ a vs,v=.ref a/\LstAt K N H a (CO b xs vs)/\DenL K N H xs vs
def DenL (K:Qab) (N:Fb) (H:Hp):List D->List V->Prop
 | [],vs=>vs=[]
 | x::xs,vs=>∃ v r,vs=v::r/\Den K N H x v/\DenL K N H xs r
end
structure Step (M N N':Fb) (H H':Hp):Prop where
 kp:∀ a o,H a=some o->(¬ N a\/M a\/isL o=false)->H' a=some o
 nw:∀ a,N' a->N a\/H a=none
theorem Step.trans {M N N1 N2:Fb} {H H1 H2:Hp} (a:Step M N N1 H H1) (b:Step M N1 N2 H1 H2):Step M N N2 H H2 where
 kp:=fun c o h z=>by
  have h1:=a.kp c o h z
  refine b.kp c o h1 ?_
  rcases z with z | z | z
  ·refine .inl fun n1=>?_
   rcases a.nw c n1 with q | q
   ·exact z q
   ·rw [h] at q;cases q
  ·exact .inr (.inl z)
  ·exact .inr (.inr z)
 nw:=fun c n2=>by
  rcases b.nw c n2 with q | q
  ·exact a.nw c q
  ·cases e:H c with
   | none=>exact .inr rfl
   | some o =>
    refine .inl (Classical.byContradiction fun z=>?_)
    rw [a.kp c o e (.inl z)] at q
    cases q
theorem Step.of_same {M N:Fb} {H H':Hp} (s:Same H H'):Step M N N H H':=⟨fun a o h _=>s a o h,fun a h=>.inl h⟩
theorem Step.refl {M N:Fb} {H:Hp}:Step M N N H H:=Step.of_same (Same.refl H)
theorem Rd.step {M N N':Fb} {H H':Hp} {a:Addr} {u:HO} (s:Step M N N' H H') (h:Rd H a u) (z:¬ N a\/M a\/isL u=false):Rd H' a u:=by
 rcases h with h | ⟨o,h⟩
 ·exact .inl (s.kp a u h z)
 ·exact .inr ⟨o,s.kp a _ h (.inr (.inr rfl))⟩
theorem Rd.same {H H':Hp} {a:Addr} {u:HO} (s:Same H H') (h:Rd H a u):Rd H' a u:=by
 rcases h with h | ⟨o,h⟩
 ·exact .inl (s a u h)
 ·exact .inr ⟨o,s a _ h⟩
theorem SqT.step {K:Qab} {M N N':Fb} {H H':Hp} {a:Addr} {xs:List V} (s:Step M N N' H H') (h:SqT K H a xs):SqT K H' a xs:=by
 rcases h with h | h
 ·exact .inl (h.step s (.inr (.inr rfl)))
 ·exact .inr h
theorem SqT.same {K:Qab} {H H':Hp} {a:Addr} {xs:List V} (s:Same H H') (h:SqT K H a xs):SqT K H' a xs:=SqT.step (M:=fun _=>False) (N:=fun _=>False) (Step.of_same s) h
theorem Rd.has {H:Hp} {a:Addr} {u:HO} (h:Rd H a u):H a≠none:=by
 rcases h with h | ⟨o,h⟩<;>rw [h]<;>exact fun e=>nomatch e
mutual
theorem Den.step {K:Qab} {M N N':Fb} {H H':Hp} (s:Step M N N' H H'):∀ (d:D) (v:V),Den K N H d v->Den K N' H' d v
 | .non,_,h=>h
 | .bl _,_,h=>h
 | .int _,_,h=>h
 | .str _,_,h=>h
 | .ty _,_,h=>h
 | .tup xs,v,h=>by
  simp only [Den] at h ⊢
  obtain ⟨a,vs,e,q,r⟩:=h
  exact ⟨a,vs,e,q.step s,DenL.step s xs vs r⟩
 | .lst xs fl,v,h=>by
  simp only [Den] at h ⊢
  obtain ⟨a,vs,e,q,r⟩:=h
  refine ⟨a,vs,e,?_,DenL.step s xs vs r⟩
  rcases q with ⟨n,q⟩ | q
  ·refine .inl ⟨fun n'=>?_,q.step s (.inl n)⟩
   rcases s.nw a n' with z | z
   ·exact n z
   ·exact q.has z
  ·exact .inr q
theorem DenL.step {K:Qab} {M N N':Fb} {H H':Hp} (s:Step M N N' H H'):∀ (xs:List D) (vs:List V),DenL K N H xs vs->DenL K N' H' xs vs
 | [],_,h=>h
 | x::xs,vs,h=>by
  simp only [DenL] at h ⊢
  obtain ⟨v,r,e,q,t⟩:=h
  exact ⟨v,r,e,Den.step s x v q,DenL.step s xs r t⟩
end
section
variable {K:Qab} {M N N':Fb} {H H':Hp} {d:D} {v:V} {xs ys:List D} {vs ws:List V} {a:Addr}
theorem Den.same (h:Den K N H d v) (s:Same H H'):Den K N H' d v:=Den.step (M:=N) (Step.of_same s) d v h
theorem DenL.same (h:DenL K N H xs vs) (s:Same H H'):DenL K N H' xs vs:=DenL.step (M:=N) (Step.of_same s) xs vs h
theorem Den.nw (h:Den K N H d v) (z:∀ a,N' a->N a\/H a=none):Den K N' H d v:=Den.step (M:=N) (H':=H) ⟨fun _ _ h _=>h,z⟩ d v h
theorem DenL.nw (h:DenL K N H xs vs) (z:∀ a,N' a->N a\/H a=none):DenL K N' H xs vs:=DenL.step (M:=N) (H':=H) ⟨fun _ _ h _=>h,z⟩ xs vs h
theorem DenL.length:∀ {xs:List D} {vs:List V},DenL K N H xs vs->xs.length=vs.length
 | [],_,h=>by simp only [DenL] at h;subst h;rfl
 | _::xs,_,h=>by simp only [DenL] at h;obtain ⟨v,r,e,_,t⟩:=h;subst e;simp [DenL.length t]
theorem DenL.get:∀ {xs:List D} {vs:List V} {i:Nat} {d:D},DenL K N H xs vs->xs[i]?=some d->∃ v,vs[i]?=some v/\Den K N H d v
 | [],_,i,d,_,e=>by simp at e
 | x::xs,_,0,d,h,e=>by
  simp only [DenL] at h;obtain ⟨v,r,e1,q,_⟩:=h;subst e1
  simp at e;subst e;exact ⟨v,rfl,q⟩
 | x::xs,_,i+1,d,h,e=>by
  simp only [DenL] at h;obtain ⟨v,r,e1,_,t⟩:=h;subst e1
  obtain ⟨w,h1,h2⟩:=DenL.get (i:=i) t (by simpa using e)
  exact ⟨w,by simpa using h1,h2⟩
theorem DenL.append:∀ {xs ys:List D} {vs ws:List V},DenL K N H xs vs->DenL K N H ys ws->DenL K N H (xs++ys) (vs++ws)
 | [],_,_,_,h,h'=>by simp only [DenL] at h;subst h;exact h'
 | x::xs,ys,_,ws,h,h'=>by
  simp only [DenL] at h;obtain ⟨v,r,e,q,t⟩:=h;subst e
  simp only [List.cons_append,DenL]
  exact ⟨v,r++ws,rfl,q,DenL.append t h'⟩
theorem DenL.nil:DenL K N H [] []:=by simp only [DenL]
theorem DenL.cons (h:Den K N H d v) (t:DenL K N H xs vs):DenL K N H (d::xs) (v::vs):=by simp only [DenL];exact ⟨v,vs,rfl,h,t⟩
theorem DenL.take:∀ {xs:List D} {vs:List V} (n:Nat),DenL K N H xs vs->DenL K N H (xs.take n) (vs.take n)
 | _,_,0,_=>by simpa using DenL.nil
 | [],_,n+1,h=>by simp only [DenL] at h;subst h;simpa using DenL.nil
 | x::xs,_,n+1,h=>by
  simp only [DenL] at h;obtain ⟨v,r,e,q,t⟩:=h;subst e
  simpa using DenL.cons q (DenL.take n t)
theorem DenL.drop:∀ {xs:List D} {vs:List V} (n:Nat),DenL K N H xs vs->DenL K N H (xs.drop n) (vs.drop n)
 | _,_,0,h=>by simpa using h
 | [],_,n+1,h=>by simp only [DenL] at h;subst h;simpa using DenL.nil
 | x::xs,_,n+1,h=>by
  simp only [DenL] at h;obtain ⟨v,r,e,q,t⟩:=h;subst e
  simpa using DenL.drop n t
theorem DenL.reverse:∀ {xs:List D} {vs:List V},DenL K N H xs vs->DenL K N H xs.reverse vs.reverse
 | [],_,h=>by simp only [DenL] at h;subst h;simpa using DenL.nil
 | x::xs,_,h=>by
  simp only [DenL] at h;obtain ⟨v,r,e,q,t⟩:=h;subst e
  simpa using DenL.append (DenL.reverse t) (DenL.cons q DenL.nil)
theorem DenL.set:∀ {xs:List D} {vs:List V} (i:Nat),DenL K N H xs vs->Den K N H d v->DenL K N H (xs.set i d) (vs.set i v)
 | [],_,_,h,_=>by simp only [DenL] at h;subst h;simpa using DenL.nil
 | x::xs,_,0,h,q=>by
  simp only [DenL] at h;obtain ⟨v,r,e,_,t⟩:=h;subst e
  simpa using DenL.cons q t
 | x::xs,_,i+1,h,q=>by
  simp only [DenL] at h;obtain ⟨v,r,e,q',t⟩:=h;subst e
  simpa using DenL.cons q' (DenL.set i t q)
theorem DenL.ints:∀ (ns:List Int),DenL K N H (ns.map D.int) (ns.map V.int)
 | []=>DenL.nil
 | n::ns=>DenL.cons (by simp only [Den]) (DenL.ints ns)
end
inductive Sl where
 | no | val (d:D) | own (xs:List D) (b:Bool:=false) | lent (xs:List D) (b:Bool:=false) | exc (c:Str)
def XAt (e C:Addr) (h:Heap):Prop:=∃ o vs,h.get? e=some o/\o.cls=.ref C/\o.data=.fields vs/\vs[2]?=some .none
abbrev VE:=List Sl
def Nf (M:Fb) (ρ:VE) (σ:St):Fb:=fun a=>M a\/∃ (i:Nat) (xs:List D) (b:Bool),ρ[i]?=some (Sl.own xs b)/\σ[i]?=some (some (V.ref a))
def Zti (K:Qab) (M N:Fb) (H0 H:Hp):Sl->Option V->Prop
 | .no,_=>True
 | .val d,o=>∃ v,o=some v/\Den K N H d v
 | .own xs b,o=>∃ a vs,o=some (.ref a)/\H0 a=none/\¬ M a/\H a=some (CO b xs vs)/\DenL K N H xs vs
 | .lent xs b,o=>∃ a vs,o=some (.ref a)/\M a/\Rd H a (CO b xs vs)/\DenL K N H xs vs
 | .exc c,o=>∃ a C,o=some (.ref a)/\Qar K Qak c=some (some (.ref C))/\H a=some (.ext (XAt a C))
structure Rel (K:Qab) (M:Fb) (H0:Hp) (ρ:VE) (σ:St) (H:Hp):Prop where
 len:ρ.length=σ.length
 same:Same H0 H
 mh:∀ a,M a->H a≠none
 slot:∀ (i:Nat) (s:Sl),ρ[i]?=some s->Zti K M (Nf M ρ σ) H0 H s (σ[i]?.join)
 inj:∀ (i j:Nat) (xs ys:List D) (b b':Bool) (a:Addr),ρ[i]?=some (Sl.own xs b)->ρ[j]?=some (Sl.own ys b')->σ[i]?=some (some (V.ref a))->σ[j]?=some (some (V.ref a))->i=j
section
variable {K:Qab} {M N:Fb} {H0 H H':Hp} {ρ:VE} {σ:St}
theorem Rel.nh (R:Rel K M H0 ρ σ H):∀ a,Nf M ρ σ a->H a≠none:=by
 rintro a (h | ⟨i,xs,fl,h1,h2⟩)
 ·exact R.mh a h
 ·obtain ⟨b,vs,e,_,_,q,_⟩:=R.slot i _ h1
  rw [h2] at e
  have e':b=a:=by simpa using e.symm
  rw [<- e',q];exact fun z=>nomatch z
theorem Rel.st (R:Rel K M H0 ρ σ H) (s:Same H H'):Rel K M H0 ρ σ H' where
 len:=R.len
 same:=R.same.trans s
 mh:=fun a h z=>R.mh a h (s.free z)
 slot:=fun i sl e=>by
  have q:=R.slot i sl e
  cases sl with
  | no=>trivial
  | val d=>obtain ⟨v,e,h⟩:=q;exact ⟨v,e,h.same s⟩
  | own xs fl=>obtain ⟨a,vs,e,h1,h2,h3,h4⟩:=q;exact ⟨a,vs,e,h1,h2,s _ _ h3,h4.same s⟩
  | lent xs fl=>obtain ⟨a,vs,e,h1,h2,h3⟩:=q;exact ⟨a,vs,e,h1,h2.same s,h3.same s⟩
  | exc c=>obtain ⟨a,C,e,h1,h2⟩:=q;exact ⟨a,C,e,h1,s _ _ h2⟩
 inj:=R.inj
theorem Rel.fresh (R:Rel K M H0 ρ σ H) {p:Addr} (h:H p=none):¬ Nf M ρ σ p:=fun n=>R.nh p n h
end
def tD (K:Qab) (M:Fb) (H0:Hp) (f:VE->Option D):TE:=fun σ H Q=>∃ ρ d,Rel K M H0 ρ σ H/\f ρ=some d/\∀ v H',Same H H'->Den K (Nf M ρ σ) H' d v->Q v H'
def DenP (K:Qab) (N:Fb) (H:Hp) (d:D) (v:V):Prop:=match d with
 | .lst xs=>∃ a vs,v=.ref a/\SqL K H a vs/\DenL K N H xs vs
 | .lst xs true=>∃ a vs,v=.ref a/\Rd H a (.dct (ZfA xs) vs)/\DenL K N H xs vs
 | d=>Den K N H d v
theorem Den.p {K:Qab} {N:Fb} {H:Hp} {d:D} {v:V} (h:Den K N H d v):DenP K N H d v:=by
 cases d with
 | lst xs fl =>
  simp only [Den] at h
  obtain ⟨a,vs,e,q,r⟩:=h
  cases fl with
  | false=>exact ⟨a,vs,e,LstAt.sq q,r⟩
  | true =>
   rcases q with ⟨_,q⟩ | ⟨ws,z,_⟩
   ·exact ⟨a,vs,e,q,r⟩
   ·cases z
 | _=>exact h
theorem DenP.same {K:Qab} {N:Fb} {H H':Hp} {d:D} {v:V} (h:DenP K N H d v) (s:Same H H'):DenP K N H' d v:=by
 cases d with
 | lst xs fl =>
  cases fl with
  | false=>obtain ⟨a,vs,e,q,r⟩:=h;exact ⟨a,vs,e,s.seq q,r.same s⟩
  | true=>obtain ⟨a,vs,e,q,r⟩:=h;exact ⟨a,vs,e,q.same s,r.same s⟩
 | _=>exact Den.same h s
theorem Zix {K:Qab} {N:Fb} {H:Hp} {xs:List D} {vs:List V} {fl:Bool} {a:Addr} (h:Rd H a (CO fl xs vs)) (r:DenL K N H xs vs):DenP K N H (.lst xs fl) (.ref a):=by
 cases fl with
 | false=>exact ⟨a,vs,rfl,.inl h,r⟩
 | true=>exact ⟨a,vs,rfl,h,r⟩
def tP (K:Qab) (M:Fb) (H0:Hp) (f:VE->Option D):TE:=fun σ H Q=>∃ ρ d,Rel K M H0 ρ σ H/\f ρ=some d/\∀ v H',Same H H'->DenP K (Nf M ρ σ) H' d v->Q v H'
def tFb (fl:Bool) (K:Qab) (M:Fb) (H0:Hp) (f:VE->Option (List D)):TE:=fun σ H Q=>∃ ρ xs,Rel K M H0 ρ σ H/\f ρ=some xs /\
 ∀ a vs H',Same H H'->H a=none->H' a=some (CO fl xs vs)->DenL K (fun b=>Nf M ρ σ b\/b=a) H' xs vs->Q (.ref a) H'
@[reducible] def tF (K:Qab) (M:Fb) (H0:Hp) (f:VE->Option (List D)):TE:=tFb false K M H0 f
def tB' (K:Qab) (M:Fb) (H0:Hp) (f:VE->Option Bool):TT:=fun σ H Q=>∃ ρ b,Rel K M H0 ρ σ H/\f ρ=some b/\∀ H',Same H H'->Q b H'
structure JE (X:Cx) (e:Expr) (t:TE):Prop where h:PE X e t
structure JT (X:Cx) (e:Expr) (t:TT):Prop where h:PT X e t
structure JW (X:Cx) (e:Expr) (t:TT):Prop where h:PW X e t
structure JA (X:Cx) (e:List Expr) (t:TA):Prop where h:PA X e t
structure JS (X:Cx) (e:Stmt) (t:TS):Prop where h:PS X e t
structure JB (X:Cx) (e:List Stmt) (t:TS):Prop where h:PSs X e t
structure JI (X:Cx) (tg e:Expr) (t:TI):Prop where h:PI X tg e t
structure JG (X:Cx) (e:Expr) (t:TG):Prop where h:PG X e t
structure JK (X:Cx) (e:List Expr) (t:TGs):Prop where h:PGs X e t
structure JO (X:Cx) (e:Option Expr) (t:TO):Prop where h:PO X e t
structure JF (X:Cx) (e:List Expr) (t:TT):Prop where h:PFs X e t
theorem PE.mono {X:Cx} {e:Expr} {t t':TE} (h:PE X e t) (m:∀ σ H Q,t' σ H Q->t σ H Q):PE X e t':=fun pins s σ H Q I q=>h pins s σ H Q I (m σ H Q q)
theorem PT.mono {X:Cx} {e:Expr} {t t':TT} (h:PT X e t) (m:∀ σ H Q,t' σ H Q->t σ H Q):PT X e t':=fun pins s σ H Q I q=>h pins s σ H Q I (m σ H Q q)
theorem PW.mono {X:Cx} {e:Expr} {t t':TT} (h:PW X e t) (m:∀ σ H Q,t' σ H Q->t σ H Q):PW X e t':=fun wh pins s σ H Q I q=>h wh pins s σ H Q I (m σ H Q q)
theorem PA.mono {X:Cx} {e:List Expr} {t t':TA} (h:PA X e t) (m:∀ σ H Q,t' σ H Q->t σ H Q):PA X e t':=fun pos pins s σ H Q I q=>h pos pins s σ H Q I (m σ H Q q)
theorem PS.mono {X:Cx} {e:Stmt} {t t':TS} (h:PS X e t) (m:∀ D σ H,t' D σ H->t D σ H):PS X e t':=fun pins s σ H D I q=>h pins s σ H D I (m D σ H q)
theorem PSs.mono {X:Cx} {e:List Stmt} {t t':TS} (h:PSs X e t) (m:∀ D σ H,t' D σ H->t D σ H):PSs X e t':=fun pins s σ H D I q=>h pins s σ H D I (m D σ H q)
section
variable {X:Cx} {K:Qab} {M:Fb} {H0:Hp} {e a b:Expr} {f g:VE->Option D} {pos:Pos}
theorem PE.p (h:PE X e (tD K M H0 f)):PE X e (tP K M H0 f):=h.mono fun σ H Q ⟨ρ,d,R,e,q⟩=>⟨ρ,d,R,e,fun v H' s z=>q v H' s z.p⟩
theorem j_p (h:JE X e (tD K M H0 f)):JE X e (tP K M H0 f):=⟨PE.p h.h⟩
@[simp] def ZR (o:Option (List D)):Option D:=o.map D.lst
@[simp] def Zwe (o:Option (List D)):Option D:=o.map fun l=>D.lst l true
theorem PE.fd {f:VE->Option (List D)} (h:PE X e (tF K M H0 f)):PE X e (tD K M H0 fun ρ=>ZR (f ρ)):=h.mono fun σ H Q ⟨ρ,d,R,e,q⟩=>by
 try dsimp only at e q
 cases hf:f ρ with
 | none=>rw [hf] at e;cases e
 | some xs =>
  rw [hf] at e
  cases e
  refine ⟨ρ,xs,R,hf,fun a vs H' s z1 z2 z3=>q _ _ s ?_⟩
  simp only [Den]
  refine ⟨a,vs,rfl,.of (R.fresh z1) z2,z3.nw fun b hb=>.inl (.inl hb)⟩
theorem ZaI {f:VE->Option (List D)} (h:JE X e (tF K M H0 f)):JE X e (tD K M H0 fun ρ=>ZR (f ρ)):=⟨PE.fd h.h⟩
@[simp] def rdV (ρ:VE) (i:Nat):Option D:=match ρ[i]? with
  | some (.val d)=>some d
  | _=>none
@[simp] def rdP (ρ:VE) (i:Nat):Option D:=match ρ[i]? with
  | some (.val d)=>some d
  | some (.own xs b)=>some (.lst xs b)
  | some (.lent xs b)=>some (.lst xs b)
  | _=>none
theorem Zpd {ρ:VE} {i:Nat} {d:D} (h:rdV ρ i=some d):ρ[i]?=some (.val d):=by
 unfold rdV at h
 split at h
 ·cases h;assumption
 ·cases h
theorem Zth {i:Nat} {x:Str} (hN:X.N[i]?=some x) (hv:Vis X.env.scope x) (hd:(x==("__debug__":Str))=false:=by decide) (hcd:(x==("__classdict__":Str))=false:=by decide):PE X (.Name x pos) (tD K M H0 fun ρ=>rdV ρ i) :=
 (Zcn hN hv hd hcd).mono fun σ H Q ⟨ρ,d,R,e,q⟩=>by
  try dsimp only at e q
  obtain ⟨v,e1,h⟩:=R.slot i _ (Zpd e)
  refine ⟨v,?_,q v H (Same.refl H) h⟩
  cases z:σ[i]? with
  | none=>rw [z] at e1;cases e1
  | some o=>rw [z] at e1;cases e1;rfl
theorem Ztu {i:Nat} {x:Str} (hN:X.N[i]?=some x) (hv:Vis X.env.scope x) (hd:(x==("__debug__":Str))=false:=by decide) (hcd:(x==("__classdict__":Str))=false:=by decide):PE X (.Name x pos) (tP K M H0 fun ρ=>rdP ρ i) :=
 (Zcn hN hv hd hcd).mono fun σ H Q ⟨ρ,d,R,e,q⟩=>by
  try dsimp only at e q
  have fin:∀ v,σ[i]?.join=some v->DenP K (Nf M ρ σ) H d v->∃ v,σ[i]?=some (some v)/\Q v H:=fun v e1 h=>by
   refine ⟨v,?_,q v H (Same.refl H) h⟩
   cases z:σ[i]? with
   | none=>rw [z] at e1;cases e1
   | some o=>rw [z] at e1;cases e1;rfl
  unfold rdP at e
  split at e
  ·next h=>cases e;obtain ⟨v,e1,h⟩:=R.slot i _ h;exact fin v e1 h.p
  ·next h=>cases e;obtain ⟨a,vs,e1,_,_,h3,h4⟩:=R.slot i _ h;exact fin _ e1 (Zix (.inl h3) h4)
  ·next h=>cases e;obtain ⟨a,vs,e1,_,h3,h4⟩:=R.slot i _ h;exact fin _ e1 (Zix h3 h4)
  ·cases e
theorem ZjR {d:D} {v:V} {e:Expr} (h:PE X e (tC v)) (hd:∀ N H,Den K N H d v):PE X e (tD K M H0 fun _=>some d) :=
 h.mono fun σ H Q ⟨ρ,d',R,e,q⟩=>by (try dsimp only at e q);cases e;exact q v H (Same.refl H) (hd _ _)
theorem Zd {i j pos}:JE X (.Constant (.int i) j pos) (tD K M H0 fun _=>some (.int i)):=⟨ZjR Ztx fun _ _=>by simp only [Den]⟩
theorem Zc9 {i j pos}:JE X (.Constant (.bool i) j pos) (tD K M H0 fun _=>some (.bl i)):=⟨ZjR Zt6 fun _ _=>by simp only [Den]⟩
theorem Zhq {j pos}:JE X (.Constant .none j pos) (tD K M H0 fun _=>some .non):=⟨ZjR Zs2 fun _ _=>by simp only [Den]⟩
theorem Zd7 {i j pos}:JE X (.Constant (.str i) j pos) (tD K M H0 fun _=>some (.str i)):=⟨ZjR Ztj fun _ _=>by simp only [Den]⟩
def R2D (K:Qab) (r:R2) (F:D->D->Option D):Prop:=∀ (N:Fb) (H:Hp) (x y:V) (d1 d2 d:D) (Q:VK),(∀ a,N a->H a≠none)->DenP K N H d1 x->DenP K N H d2 y->F d1 d2=some d ->
 (∀ v H',Same H H'->Den K N H' d v->Q v H')->r x y H Q
@[simp] def Zf (F:D->D->Option D) (f g:VE->Option D):VE->Option D:=fun ρ=>(f ρ).bind fun x=>(g ρ).bind fun y=>F x y
theorem Zpb {F:D->D->Option D} {f g:VE->Option D} {ρ:VE} {d:D} (h:Zf F f g ρ=some d):∃ x y,f ρ=some x/\g ρ=some y/\F x y=some d:=by
 unfold Zf at h
 cases hf:f ρ with
 | none=>rw [hf] at h;cases h
 | some x =>
  cases hg:g ρ with
  | none=>rw [hf,hg] at h;cases h
  | some y=>rw [hf,hg] at h;exact ⟨x,y,rfl,rfl,h⟩
theorem Zjx {r:R2} {F:D->D->Option D} (hr:R2D K r F) {σ:St} {H:Hp} {Q:VK} (h:tD K M H0 (Zf F f g) σ H Q):tOp r (tP K M H0 f) (tP K M H0 g) σ H Q:=by
 obtain ⟨ρ,d,R,e,q⟩:=h
 try dsimp only at e q
 obtain ⟨x,y,e1,e2,e3⟩:=Zpb e
 refine ⟨ρ,x,R,e1,fun v H1 s1 h1=>⟨ρ,y,R.st s1,e2,fun u H2 s2 h2=>?_⟩⟩
 exact hr (Nf M ρ σ) H2 v u x y d Q ((R.st s1).st s2).nh (h1.same s2) h2 e3 fun w H3 s3 h3=>q w H3 ((s1.trans s2).trans s3) h3
theorem ZgY {op:Operator} {r:R2} {F:D->D->Option D} (ho:OpR X (Qco op) r) (hr:R2D K r F) (ha:PE X a (tP K M H0 f)) (hb:PE X b (tP K M H0 g)):PE X (.BinOp a op b pos) (tD K M H0 (Zf F f g)) :=
 (ZtQ ho ha hb).mono fun _ _ _ h=>Zjx hr h
theorem ZhL {op:CmpOp} {r:R2} {F:D->D->Option D} (ho:OpR X (QbG op) r) (hr:R2D K r F) (ha:PE X a (tP K M H0 f)) (hb:PE X b (tP K M H0 g)) (hm:QbZ op b=false):PE X (.Compare a [op] [b] pos) (tD K M H0 (Zf F f g)) :=
 (ZqL ho ha hb hm).mono fun _ _ _ h=>Zjx hr h
theorem ZqB {r:R2} {F:D->D->Option D} (ho:IxR X r) (hr:R2D K r F) (ha:PE X a (tP K M H0 f)) (hb:PE X b (tP K M H0 g)) (hs:Zg0 b):PE X (.Subscript a b pos) (tD K M H0 (Zf F f g)) :=
 (Zt7 ho ha hb hs).mono fun _ _ _ h=>Zjx hr h
@[simp] def orO {α:Type} (a b:Option α):Option α:=match a with
  | some x=>some x
  | none=>b
theorem R2D.or {r r':R2} {F F':D->D->Option D} (h:R2D K r F) (h':R2D K r' F'):R2D K (fun x y H Q=>r x y H Q\/r' x y H Q) (fun x y=>orO (F x y) (F' x y)):=by
 intro N H x y d1 d2 d Q nh h1 h2 e q
 cases hF:F d1 d2 with
 | some z=>simp only [hF,orO] at e;cases e;exact .inl (h N H x y d1 d2 d Q nh h1 h2 hF q)
 | none=>simp only [hF,orO] at e;exact .inr (h' N H x y d1 d2 d Q nh h1 h2 e q)
@[simp] def asB:Option D->Option Bool
  | some (.bl b)=>some b
  | _=>none
theorem ZfR {o:Option D} {b:Bool} (h:asB o=some b):o=some (.bl b):=by
 unfold asB at h
 split at h
 ·cases h;rfl
 ·cases h
theorem ZrB {t:TE} {σ:St} {H:Hp} {Q:Bool->Hp->Prop} (ht:∀ σ H Q,tD K M H0 f σ H Q->t σ H Q) (h:tB' K M H0 (fun ρ=>asB (f ρ)) σ H Q):tB t σ H Q:=by
 obtain ⟨ρ,b,R,e,q⟩:=h
 try dsimp only at e q
 refine ht σ H _ ⟨ρ,.bl b,R,ZfR e,fun v H' s hv=>?_⟩
 simp only [Den] at hv
 exact ⟨b,hv,q H' s⟩
theorem Zf7 {op:CmpOp} {r:R2} {F:D->D->Option D} (ho:OpR X (QbG op) r) (hr:R2D K r F) (ha:PE X a (tP K M H0 f)) (hb:PE X b (tP K M H0 g)) (hm:QbZ op b=false):PT X (.Compare a [op] [b] pos) (tB' K M H0 fun ρ=>asB (Zf F f g ρ)) :=
 (ZqZ ho ha hb hm).mono fun _ _ _ q=>ZrB (t:=tOp r (tP K M H0 f) (tP K M H0 g)) (fun _ _ _ z=>Zjx hr z) q
@[simp] def Zbu (o:Option Bool):Option Bool:=o.map (!·)
@[simp] def Zgv (o p:Option Bool):Option Bool:=match o with
  | some true=>p
  | some false=>some false
  | none=>none
@[simp] def orB (o p:Option Bool):Option Bool:=match o with
  | some true=>some true
  | some false=>p
  | none=>none
section
variable {c c':VE->Option Bool} {Zaa:List Expr}
theorem ZbZ (h:JT X a (tB' K M H0 c)):JT X (.UnaryOp .Not a pos) (tB' K M H0 fun ρ=>Zbu (c ρ)):=⟨have h:=h.h;(ZtH h).mono fun σ H Q ⟨ρ,b,R,e,q⟩=>by
 try dsimp only at e q
 cases hc:c ρ with
 | none=>rw [hc] at e;cases e
 | some k=>rw [hc] at e;cases e;exact ⟨ρ,k,R,hc,q⟩⟩
theorem ZfF (h:JT X a (tB' K M H0 c)):JW X (.BoolOp .Or [a] pos) (tB' K M H0 c):=⟨have h:=h.h;ZsV h⟩
theorem ZtZ {σ:St} {H:Hp} {Q:Bool->Hp->Prop} (h:tB' K M H0 (fun ρ=>orB (c ρ) (c' ρ)) σ H Q):tOr (tB' K M H0 c) (tB' K M H0 c') σ H Q:=by
 obtain ⟨ρ,b,R,e,q⟩:=h
 try dsimp only at e q
 cases hc:c ρ with
 | none=>rw [hc] at e;cases e
 | some k =>
  cases k with
  | false=>rw [hc] at e;exact ⟨ρ,false,R,hc,fun H1 s=>by refine Zh4 ?_;exact ⟨ρ,b,R.st s,e,fun H2 s2=>q H2 (s.trans s2)⟩⟩
  | true=>rw [hc] at e;cases e;exact ⟨ρ,true,R,hc,fun H1 s=>by refine Zh5 ?_;exact q H1 s⟩
theorem ZdT (h:JT X a (tB' K M H0 c)) (h':JW X (.BoolOp .Or (b::Zaa) pos) (tB' K M H0 c')):JW X (.BoolOp .Or (a::b::Zaa) pos) (tB' K M H0 fun ρ=>orB (c ρ) (c' ρ)):=⟨have h:=h.h;have h':=h'.h;(Zt8 h h').mono fun _ _ _ q=>ZtZ q⟩
@[simp] def blO (o:Option Bool):Option D:=o.map D.bl
theorem Znc {σ:St} {H:Hp} {Q:VK} (h:tD K M H0 (fun ρ=>blO (c ρ)) σ H Q):∃ ρ b,Rel K M H0 ρ σ H/\c ρ=some b/\∀ H',Same H H'->Q (.bl b) H':=by
 obtain ⟨ρ,d,R,e,q⟩:=h
 try dsimp only at e q
 cases hc:c ρ with
 | none=>rw [hc] at e;cases e
 | some k=>rw [hc] at e;cases e;exact ⟨ρ,k,R,hc,fun H' s=>q _ H' s (by simp only [Den])⟩
theorem Zlh (h:JE X a (tD K M H0 f)):JE X (.UnaryOp .Not a pos) (tD K M H0 fun ρ=>blO (Zbu (asB (f ρ)))):=⟨have h:=h.h;(Zto h).mono fun σ H Q q=>by
 obtain ⟨ρ,b,R,e,q⟩:=Znc q
 try dsimp only at e q
 cases hc:asB (f ρ) with
 | none=>rw [hc] at e;cases e
 | some k =>
  rw [hc] at e;cases e
  refine ⟨ρ,.bl k,R,ZfR hc,fun v H' s hv=>?_⟩
  simp only [Den] at hv
  exact ⟨k,hv,q H' s⟩⟩
theorem Zhu {op} (h:JE X a (tD K M H0 f)):JE X (.BoolOp op [a] pos) (tD K M H0 fun ρ=>blO (asB (f ρ))):=⟨have h:=h.h;(Zs4 h).mono fun σ H Q q=>by
 obtain ⟨ρ,b,R,e,q⟩:=Znc q
 try dsimp only at e q
 exact ⟨ρ,.bl b,R,ZfR e,fun v H' s hv=>by simp only [Den] at hv;subst hv;exact q H' s⟩⟩
theorem Zfs (h:JE X a (tD K M H0 f)) (h':JE X (.BoolOp .And (b::Zaa) pos) (tD K M H0 fun ρ=>blO (c' ρ))):JE X (.BoolOp .And (a::b::Zaa) pos) (tD K M H0 fun ρ=>blO (Zgv (asB (f ρ)) (c' ρ))):=⟨have h:=h.h;have h':=h'.h;(ZrX h h').mono fun σ H Q q=>by
 obtain ⟨ρ,b,R,e,q⟩:=Znc q
 try dsimp only at e q
 cases hc:asB (f ρ) with
 | none=>rw [hc] at e;cases e
 | some k =>
  refine ⟨ρ,.bl k,R,ZfR hc,fun v H' s hv=>?_⟩
  simp only [Den] at hv
  refine ⟨k,hv,?_⟩
  cases k with
  | true =>
   rw [hc] at e;refine Zh5 ?_
   have e':c' ρ=some b:=e
   exact ⟨ρ,.bl b,R.st s,by show blO (c' ρ)=_;rw [e'];rfl,fun w H2 s2 hw=>by simp only [Den] at hw;subst hw;exact q H2 (s.trans s2)⟩
  | false=>rw [hc] at e;cases e;refine Zh4 ?_;exact q H' s⟩
@[simp] def Zlb {α:Type} (c:Option Bool) (a b:Option α):Option α:=match c with
  | some true=>a
  | some false=>b
  | none=>none
theorem ZhU {k:Expr} (hc:JT X k (tB' K M H0 c)) (ha:JE X a (tD K M H0 f)) (hb:JE X b (tD K M H0 g)):JE X (.IfExp k a b pos) (tD K M H0 fun ρ=>Zlb (c ρ) (f ρ) (g ρ)):=⟨have hc:=hc.h;have ha:=ha.h;have hb:=hb.h;(Zo3 hc ha hb).mono fun σ H Q ⟨ρ,d,R,e,q⟩=>by
 try dsimp only at e q
 cases hc:c ρ with
 | none=>rw [hc] at e;cases e
 | some k =>
  refine ⟨ρ,k,R,hc,fun H1 s=>?_⟩
  cases k with
  | true=>rw [hc] at e;refine Zh5 ?_;exact ⟨ρ,d,R.st s,e,fun w H2 s2 hw=>q w H2 (s.trans s2) hw⟩
  | false=>rw [hc] at e;refine Zh4 ?_;exact ⟨ρ,d,R.st s,e,fun w H2 s2 hw=>q w H2 (s.trans s2) hw⟩⟩
@[simp] def isN:D->Bool
  | .non=>true
  | _=>false
@[simp] def ZpS (o:Option D):Option Bool:=o.map isN
theorem DenP.isN {K:Qab} {N:Fb} {H:Hp} {d:D} {v:V} (h:DenP K N H d v):decide (v=.non)=L2.isN d:=by
 cases d with
 | non=>simp only [DenP,Den] at h;subst h;rfl
 | bl _=>simp only [DenP,Den] at h;subst h;rfl
 | int _=>simp only [DenP,Den] at h;subst h;rfl
 | str _=>simp only [DenP,Den] at h;subst h;rfl
 | ty _=>simp only [DenP,Den] at h;subst h;rfl
 | tup _=>simp only [DenP,Den] at h;obtain ⟨a,vs,e,_⟩:=h;subst e;rfl
 | lst _ fl=>cases fl<;>(obtain ⟨a,vs,e,_⟩:=h;subst e;rfl)
theorem ZjH {j pos'} (h:JE X a (tP K M H0 f)):JT X (.Compare a [.Is] [.Constant .none j pos'] pos) (tB' K M H0 fun ρ=>ZpS (f ρ)):=⟨have h:=h.h;(Ztt (Zse h)).mono fun σ H Q ⟨ρ,b,R,e,q⟩=>by
 try dsimp only at e q
 cases hf:f ρ with
 | none=>rw [hf] at e;cases e
 | some d=>rw [hf] at e;cases e;exact ⟨ρ,d,R,hf,fun v H' s hv=>⟨_,rfl,by rw [hv.isN];exact q H' s⟩⟩⟩
end
end
end L2
namespace L2
open PySem PySem.Spec PyProof.Rows
theorem ZaM {e:Expr} {es:List Expr} {env:Env} (h:∀ x p,e≠.Starred x p):Qas (e::es) env=(false,eval e env)::Qas es env:=by
 cases e with
 | Starred x p=>exact absurd rfl (h x p)
 | _=>rfl
def ArgOk (K:Qab) (N:Fb) (H:Hp):Sl->V->Prop
 | .val d,v=>Den K N H d v
 | .lent xs b,v=>∃ a vs,v=.ref a/\N a/\Rd H a (CO b xs vs)/\DenL K N H xs vs
 | _,_=>False
def ArgsOk (K:Qab) (N:Fb) (H:Hp):List Sl->List V->Prop
 | [],vs=>vs=[]
 | s::ss,vs=>∃ v r,vs=v::r/\ArgOk K N H s v/\ArgsOk K N H ss r
@[simp] def pk:Sl->Option D
  | .val d=>some d
  | .lent xs b=>some (.lst xs b)
  | .own xs b=>some (.lst xs b)
  | .no=>none
  | .exc _=>none
theorem ArgOk.same {K:Qab} {N:Fb} {H H':Hp} {s:Sl} {v:V} (h:ArgOk K N H s v) (sm:Same H H'):ArgOk K N H' s v:=by
 cases s with
 | val d=>exact Den.same h sm
 | lent xs fl=>obtain ⟨a,vs,e,n,q,r⟩:=h;exact ⟨a,vs,e,n,q.same sm,r.same sm⟩
 | no=>exact h
 | own xs fl=>exact h
 | exc c=>exact h
theorem ArgsOk.same {K:Qab} {N:Fb} {H H':Hp} (sm:Same H H'):∀ {ss:List Sl} {vs:List V},ArgsOk K N H ss vs->ArgsOk K N H' ss vs
 | [],_,h=>h
 | s::ss,_,⟨v,r,e,h,t⟩=>⟨v,r,e,h.same sm,ArgsOk.same sm t⟩
theorem ArgOk.p {K:Qab} {N:Fb} {H:Hp} {s:Sl} {v:V} (h:ArgOk K N H s v):∃ d,pk s=some d/\DenP K N H d v:=by
 cases s with
 | val d=>exact ⟨d,rfl,Den.p h⟩
 | lent xs fl=>obtain ⟨a,vs,e,n,q,r⟩:=h;subst e;exact ⟨_,rfl,Zix q r⟩
 | no=>exact QaJ h
 | own xs fl=>exact QaJ h
 | exc c=>exact QaJ h
theorem ArgsOk.length {K:Qab} {N:Fb} {H:Hp}:∀ {ss:List Sl} {vs:List V},ArgsOk K N H ss vs->ss.length=vs.length
 | [],_,h=>by cases h;rfl
 | s::ss,_,⟨v,r,e,h,t⟩=>by subst e;simp [ArgsOk.length t]
theorem ArgsOk.get {K:Qab} {N:Fb} {H:Hp}:∀ {ss:List Sl} {vs:List V} {i:Nat} {s:Sl},ArgsOk K N H ss vs->ss[i]?=some s->∃ v,vs[i]?=some v/\ArgOk K N H s v
 | [],_,i,s,h,e=>by simp at e
 | _::ss,_,0,s,⟨v,r,e1,h,t⟩,e=>by subst e1;simp at e;subst e;exact ⟨v,rfl,h⟩
 | _::ss,_,i+1,s,⟨v,r,e1,h,t⟩,e=>by
  subst e1
  obtain ⟨w,h1,h2⟩:=ArgsOk.get (i:=i) t (by simpa using e)
  exact ⟨w,by simpa using h1,h2⟩
def tA' (K:Qab) (M:Fb) (H0:Hp) (f:VE->Option (List Sl)):TA:=fun σ H Q=>∃ ρ ss,Rel K M H0 ρ σ H/\f ρ=some ss/\∀ vs H',Same H H'->ArgsOk K (Nf M ρ σ) H' ss vs->Q vs H'
def tS1 (K:Qab) (M:Fb) (H0:Hp) (f:VE->Option Sl):TE:=fun σ H Q=>∃ ρ s,Rel K M H0 ρ σ H/\f ρ=some s/\∀ v H',Same H H'->ArgOk K (Nf M ρ σ) H' s v->Q v H'
@[simp] def rdA (ρ:VE) (i:Nat):Option Sl:=match ρ[i]? with
  | some (.val d)=>some (.val d)
  | some (.own xs b)=>some (.lent xs b)
  | some (.lent xs b)=>some (.lent xs b)
  | _=>none
@[simp] def Zk (o:Option D):Option Sl:=o.map Sl.val
@[simp] def Zb {α:Type} (a:Option α) (b:Option (List α)):Option (List α):=a.bind fun x=>b.bind fun y=>some (x::y)
theorem Zeu {α:Type} {a:Option α} {b:Option (List α)} {l:List α} (h:Zb a b=some l):∃ x y,a=some x/\b=some y/\l=x::y:=by
 cases a with
 | none=>cases h
 | some x =>
  cases b with
  | none=>cases h
  | some y=>cases h;exact ⟨x,y,rfl,rfl,rfl⟩
section
variable {X:Cx} {K:Qab} {M:Fb} {H0:Hp} {e a b:Expr} {es:List Expr} {f g:VE->Option D} {fa:VE->Option (List Sl)} {f1:VE->Option Sl} {pos:Pos}
theorem ZrS {i:Nat} {x:Str} (hN:X.N[i]?=some x) (hv:Vis X.env.scope x) (hd:(x==("__debug__":Str))=false:=by decide) (hcd:(x==("__classdict__":Str))=false:=by decide):PE X (.Name x pos) (tS1 K M H0 fun ρ=>rdA ρ i) :=
 (Zcn hN hv hd hcd).mono fun σ H Q ⟨ρ,d,R,e,q⟩=>by
  try dsimp only at e q
  have fin:∀ v,σ[i]?.join=some v->ArgOk K (Nf M ρ σ) H d v->∃ v,σ[i]?=some (some v)/\Q v H:=fun v e1 h=>by
   refine ⟨v,?_,q v H (Same.refl H) h⟩
   cases z:σ[i]? with
   | none=>rw [z] at e1;cases e1
   | some o=>rw [z] at e1;cases e1;rfl
  unfold rdA at e
  split at e
  ·next h=>cases e;obtain ⟨v,e1,h⟩:=R.slot i _ h;exact fin v e1 h
  ·next h =>
   cases e
   obtain ⟨a,vs,e1,_,_,h3,h4⟩:=R.slot i _ h
   refine fin _ e1 ⟨a,vs,rfl,.inr ⟨i,_,_,h,?_⟩,.inl h3,h4⟩
   cases z:σ[i]? with
   | none=>rw [z] at e1;cases e1
   | some o=>rw [z] at e1;cases e1;rfl
  ·next h=>cases e;obtain ⟨a,vs,e1,h2,h3,h4⟩:=R.slot i _ h;exact fin _ e1 ⟨a,vs,rfl,.inl h2,h3,h4⟩
  ·cases e
theorem Zi (h:JE X e (tD K M H0 f)):JE X e (tS1 K M H0 fun ρ=>Zk (f ρ)):=⟨have h:=h.h;h.mono fun σ H Q ⟨ρ,s,R,e,q⟩=>by
 try dsimp only at e q
 cases hf:f ρ with
 | none=>rw [hf] at e;cases e
 | some d=>rw [hf] at e;cases e;exact ⟨ρ,d,R,hf,fun v H' s hv=>q v H' s hv⟩⟩
theorem Ze :JA X [] (tA' K M H0 fun _=>some []):=⟨pa_nil.mono fun σ H Q ⟨ρ,ss,R,e,q⟩=>by
 try dsimp only at e q
 cases e;exact q [] H (Same.refl H) rfl⟩
theorem Za (h:JE X e (tS1 K M H0 f1)) (hr:JA X es (tA' K M H0 fa)) (hs:Qas (e::es) X.env=(false,eval e X.env)::Qas es X.env:=by exact ZaM (fun _ _ z=>nomatch z)):JA X (e::es) (tA' K M H0 fun ρ=>Zb (f1 ρ) (fa ρ)):=⟨have h:=h.h;have hr:=hr.h;(ZaC h hr hs).mono fun σ H Q ⟨ρ,ss,R,e,q⟩=>by
 try dsimp only at e q
 obtain ⟨s,r,e1,e2,e3⟩:=Zeu e
 subst e3
 exact ⟨ρ,s,R,e1,fun v H1 s1 h1=>⟨ρ,r,R.st s1,e2,fun vs H2 s2 h2=>q (v::vs) H2 (s1.trans s2) ⟨v,vs,rfl,h1.same s2,h2⟩⟩⟩⟩
@[simp] def Zz:List Sl->Option (List D)
  | []=>some []
  | .val d::r=>Zb (some d) (Zz r)
  | _=>none
theorem Zeb {K:Qab} {N:Fb} {H:Hp}:∀ {ss:List Sl} {vs:List V} {ds:List D},ArgsOk K N H ss vs->Zz ss=some ds->DenL K N H ds vs
 | [],_,_,h,e=>by cases e;cases h;exact DenL.nil
 | .val d::r,_,_,⟨v,t,e1,h,ht⟩,e=>by
  obtain ⟨x,y,e2,e3,e4⟩:=Zeu e
  cases e2;subst e1 e4
  exact DenL.cons h (Zeb ht e3)
 | .no::_,_,_,_,e=>nomatch e
 | .own _ _::_,_,_,_,e=>nomatch e
 | .lent _ _::_,_,_,_,e=>nomatch e
@[simp] def Zu {α:Type} (o:Option (List α)):Option (List α):=o.bind fun l=>if l.length<=Qaj then some l else none
theorem ZfP {α:Type} {o:Option (List α)} {l:List α} (h:Zu o=some l):o=some l/\l.length<=Qaj:=by
 cases o with
 | none=>cases h
 | some x =>
  have h':(if x.length<=Qaj then some x else none)=some l:=h
  split at h'
  ·cases h';exact ⟨rfl,by assumption⟩
  ·cases h'
theorem ZaS {H:Hp} {p:Addr} {o:HO} (h:H p=none):Same H (upd H p o):=fun b u e=>by rw [Zt (Z1 e h)];exact e
theorem Zgx {fl:Bool} {ρ:VE} {σ:St} {H H1:Hp} {Q:VK} {xs:List D} {vs:List V} {p:Addr} (s:Same H H1) (hp:H1 p=none) (h:DenL K (Nf M ρ σ) H1 xs vs)
  (q:∀ a vs H',Same H H'->H a=none->H' a=some (CO fl xs vs)->DenL K (fun b=>Nf M ρ σ b\/b=a) H' xs vs->Q (.ref a) H'):Q (.ref p) (upd H1 p (CO fl xs vs)):=by
 refine q p vs _ (s.trans (ZaS hp)) (s.free hp) Zad ?_
 refine (h.nw fun b hb=>?_).same (ZaS hp)
 rcases hb with hb | hb
 ·exact .inl hb
 ·subst hb;exact .inr hp
theorem ZaB (h:JA X es (tA' K M H0 fa)):JE X (.List es pos) (tF K M H0 fun ρ=>Zu ((fa ρ).bind Zz)):=⟨have h:=h.h;(ZsI h).mono fun σ H Q ⟨ρ,xs,R,e,q⟩=>by
 try dsimp only at e q
 obtain ⟨e,hz⟩:=ZfP e
 cases hf:fa ρ with
 | none=>rw [hf] at e;cases e
 | some ss =>
  rw [hf] at e
  refine ⟨ρ,ss,R,hf,fun vs H1 s1 h1=>?_⟩
  have hd:=Zeb h1 e
  exact ⟨by rw [<- hd.length];exact hz,fun p hp=>Zgx s1 hp hd q⟩⟩
theorem Zas {x1} (h:JA X es (tA' K M H0 fa)):JE X (.Tuple es x1 pos) (tD K M H0 fun ρ=>(Zu ((fa ρ).bind Zz)).map D.tup):=⟨have h:=h.h;(Zsd h).mono fun σ H Q ⟨ρ,d,R,e,q⟩=>by
 try dsimp only at e q
 cases hz:Zu ((fa ρ).bind Zz) with
 | none=>rw [hz] at e;cases e
 | some xs =>
  rw [hz] at e;cases e
  obtain ⟨e,hz⟩:=ZfP hz
  cases hf:fa ρ with
  | none=>rw [hf] at e;cases e
  | some ss =>
   rw [hf] at e
   refine ⟨ρ,ss,R,hf,fun vs H1 s1 h1=>?_⟩
   have hd:=Zeb h1 e
   refine ⟨by rw [<- hd.length];exact hz,fun p hp=>q _ _ (s1.trans (ZaS hp)) ?_⟩
   simp only [Den]
   exact ⟨p,vs,rfl,SqT.of Zad,hd.same (ZaS hp)⟩⟩
end
inductive Rv where
 | val (d:D) | own (xs:List D) (b:Bool:=false)
def Znf (K:Qab) (N:Fb) (H0 H':Hp):Rv->V->Prop
 | .val d,v=>Den K N H' d v
 | .own xs b,v=>∃ a vs,v=.ref a/\H0 a=none/\H' a=some (CO b xs vs)/\DenL K (fun b=>N b\/b=a) H' xs vs
def spD (K:Qab) (F:List Sl->Option Rv):Sp:=fun vs H Q _=>∃ N ss r,(∀ a,N a->H a≠none)/\ArgsOk K N H ss vs/\F ss=some r/\∀ v H',Same H H'->Znf K N H H' r v->Q v H'
@[simp] def rvD:Rv->D
  | .val d=>d
  | .own xs b=>.lst xs b
@[simp] def rvF:Rv->Option (List D)
  | .own xs=>some xs
  | _=>none
@[simp] def rvG:Rv->Option (List D)
  | .own xs true=>some xs
  | _=>none
section
variable {X:Cx} {K:Qab} {M:Fb} {H0:Hp} {e:Expr} {es:List Expr} {fa:VE->Option (List Sl)} {F:List Sl->Option Rv} {CX:CXT} {k:Nat} {fn:Addr} {fd:QaH} {ps:List Str} {x:Str} {p pos:Pos} {E:XK}
@[simp] def Zs (F:List Sl->Option Rv) (fa:VE->Option (List Sl)):VE->Option D:=fun ρ=>(fa ρ).bind fun ss=>(F ss).map rvD
@[simp] def ZfB (F:List Sl->Option Rv) (fa:VE->Option (List Sl)):VE->Option (List D):=fun ρ=>(fa ρ).bind fun ss=>(F ss).bind rvF
theorem Zro {σ:St} {H:Hp} {Q:VK} (h:tD K M H0 (Zs F fa) σ H Q):ZmT (spD K F) [] E (tA' K M H0 fa) σ H Q:=by
 obtain ⟨ρ,d,R,e,q⟩:=h
 try dsimp only at e q
 unfold Zs at e
 cases hf:fa ρ with
 | none=>rw [hf] at e;cases e
 | some ss =>
  rw [hf] at e
  cases hF:F ss with
  | none=>simp only [Qah,hF] at e;cases e
  | some r =>
   simp only [Qah,hF] at e;cases e
   refine ⟨ρ,ss,R,hf,fun vs H1 s1 h1=>⟨Nf M ρ σ,ss,r,(R.st s1).nh,by rw [Qa9];exact h1,hF,fun v H2 s2 h2=>q v H2 (s1.trans s2) ?_⟩⟩
   cases r with
   | val d=>exact h2
   | own xs fl =>
    obtain ⟨a,ws,e1,z1,z2,z3⟩:=h2
    simp only [rvD,Den]
    exact ⟨a,ws,e1,.of (fun z=>(R.st s1).fresh z1 z) z2,z3.nw fun b hb=>.inl (.inl hb)⟩
@[simp] def Zv2 (F:List Sl->Option Rv) (fa:VE->Option (List Sl)):VE->Option (List D):=fun ρ=>(fa ρ).bind fun ss=>(F ss).bind rvG
theorem Zq5 {σ:St} {H:Hp} {Q:VK} (h:tF K M H0 (ZfB F fa) σ H Q):ZmT (spD K F) [] E (tA' K M H0 fa) σ H Q:=by
 obtain ⟨ρ,d,R,e,q⟩:=h
 try dsimp only at e q
 unfold ZfB at e
 cases hf:fa ρ with
 | none=>rw [hf] at e;cases e
 | some ss =>
  rw [hf] at e
  cases hF:F ss with
  | none=>simp only [Qah,hF] at e;cases e
  | some r =>
   simp only [Qah,hF] at e
   cases r with
   | val d=>cases e
   | own xs fl =>
    cases fl with
    | true=>cases e
    | false =>
     cases e
     refine ⟨ρ,ss,R,hf,fun vs H1 s1 h1=>⟨Nf M ρ σ,ss,_,(R.st s1).nh,by rw [Qa9];exact h1,hF,fun v H2 s2 h2=>?_⟩⟩
     obtain ⟨a,ws,e1,z1,z2,z3⟩:=h2
     subst e1
     exact q a ws H2 (s1.trans s2) (s1.free z1) z2 z3
theorem Zr (G:FnOk X.prog X.w X.K X.mg X.base CX k fn fd ps (spD K F)) (hr:Room k X.A) (hg:Gl X x) (hm:X.mg x=some (.ref fn)) (hk:QaC X.K (.ref fn)=true) (hb:Binds X.K fd ps []) (hx:Zgf CX X E) (ha:JA X (e::es) (tA' K M H0 fa)) (hdb:(x==("__debug__":Str))=false:=by decide) (he:Qas (e::es) X.env=(false,eval e X.env)::Qas es X.env:=by exact ZaM (fun _ _ z=>nomatch z)) (hpl:(backTo pos (Qas es X.env)).any (·.1)=false:=by rfl):JE X (.Call (.Name x p) (e::es) [] pos) (tD K M H0 (Zs F fa)):=⟨have ha:=ha.h;(Zmg G hr hg hm hk hb .nil hx ha hdb he hpl).mono fun _ _ _ h=>Zro h⟩
theorem Zi2 (G:FnOk X.prog X.w X.K X.mg X.base CX k fn fd ps (spD K F)) (hr:Room k X.A) (hg:Gl X x) (hm:X.mg x=some (.ref fn)) (hk:QaC X.K (.ref fn)=true) (hb:Binds X.K fd ps []) (hx:Zgf CX X E) (ha:JA X (e::es) (tA' K M H0 fa)) (hdb:(x==("__debug__":Str))=false:=by decide) (he:Qas (e::es) X.env=(false,eval e X.env)::Qas es X.env:=by exact ZaM (fun _ _ z=>nomatch z)) (hpl:(backTo pos (Qas es X.env)).any (·.1)=false:=by rfl):JE X (.Call (.Name x p) (e::es) [] pos) (tF K M H0 (ZfB F fa)):=⟨have ha:=ha.h;(Zmg G hr hg hm hk hb .nil hx ha hdb he hpl).mono fun _ _ _ h=>Zq5 h⟩
end
def RcD (K:Qab) (r:List V->Hp->VK->Prop) (F:List D->Option D):Prop:=∀ (N:Fb) (H:Hp) (vs:List V) (ds:List D) (d:D) (Q:VK),(∀ a,N a->H a≠none)->Paired (DenP K N H) ds vs->F ds=some d ->
 (∀ v H',Same H H'->Den K N H' d v->Q v H')->r vs H Q
def RcF (K:Qab) (r:List V->Hp->VK->Prop) (F:List D->Option (List D)):Prop:=∀ (N:Fb) (H:Hp) (vs:List V) (ds:List D) (xs:List D) (Q:VK),(∀ a,N a->H a≠none)->Paired (DenP K N H) ds vs->F ds=some xs ->
 (∀ ws p,H p=none->DenL K N H xs ws->Q (.ref p) (upd H p (.lst ws)))->r vs H Q
@[simp] def pks:List Sl->Option (List D)
  | []=>some []
  | s::r=>Zb (pk s) (pks r)
theorem Zg1 {K:Qab} {N:Fb} {H:Hp}:∀ {ss:List Sl} {vs:List V} {ds:List D},ArgsOk K N H ss vs->pks ss=some ds->Paired (DenP K N H) ds vs
 | [],_,_,h,e=>by cases e;cases h;exact .nil
 | s::r,_,_,⟨v,t,e1,h,ht⟩,e=>by
  obtain ⟨x,y,e2,e3,e4⟩:=Zeu e
  subst e1 e4
  obtain ⟨d,hd,hp⟩:=h.p
  rw [hd] at e2;cases e2
  exact .cons hp (Zg1 ht e3)
section
variable {X:Cx} {K:Qab} {M:Fb} {H0:Hp} {e:Expr} {es:List Expr} {fa:VE->Option (List Sl)} {x:Str} {p pos:Pos} {r:List V->Hp->VK->Prop} {F:List D->Option D} {G:List D->Option (List D)} {id:String}
@[simp] def ZH (F:List D->Option D) (fa:VE->Option (List Sl)):VE->Option D:=fun ρ=>((fa ρ).bind pks).bind F
@[simp] def Zed (F:List D->Option (List D)) (fa:VE->Option (List Sl)):VE->Option (List D):=fun ρ=>((fa ρ).bind pks).bind F
theorem Zqu (hr:RcD K r F) {σ:St} {H:Hp} {Q:VK} (h:tD K M H0 (ZH F fa) σ H Q):tCB r (tA' K M H0 fa) σ H Q:=by
 obtain ⟨ρ,d,R,e,q⟩:=h
 try dsimp only at e q
 unfold ZH at e
 cases hf:fa ρ with
 | none=>rw [hf] at e;cases e
 | some ss =>
  rw [hf] at e
  cases hp:pks ss with
  | none=>simp only [Qah,hp] at e;cases e
  | some ds =>
   simp only [Qah,hp] at e
   exact ⟨ρ,ss,R,hf,fun vs H1 s1 h1=>hr (Nf M ρ σ) H1 vs ds d Q (R.st s1).nh (Zg1 h1 hp) e fun v H' s hv=>q v H' (s1.trans s) hv⟩
theorem Zqx (hr:RcF K r G) {σ:St} {H:Hp} {Q:VK} (h:tF K M H0 (Zed G fa) σ H Q):tCB r (tA' K M H0 fa) σ H Q:=by
 obtain ⟨ρ,d,R,e,q⟩:=h
 try dsimp only at e q
 unfold Zed at e
 cases hf:fa ρ with
 | none=>rw [hf] at e;cases e
 | some ss =>
  rw [hf] at e
  cases hp:pks ss with
  | none=>simp only [Qah,hp] at e;cases e
  | some ds =>
   simp only [Qah,hp] at e
   exact ⟨ρ,ss,R,hf,fun vs H1 s1 h1=>hr (Nf M ρ σ) H1 vs ds d Q (R.st s1).nh (Zg1 h1 hp) e fun ws p hp hv=>Zgx s1 hp hv q⟩
theorem ZC (hc:CallR X (.builtin id) r) (hF:RcD K r F) (hg:Gl X x) (hm:X.mg x=none) (hv:Qbe x=some (.builtin id)) (ha:JA X (e::es) (tA' K M H0 fa)) (hn:x≠"__name__":=by decide) (hdb:(x==("__debug__":Str))=false:=by decide) (he:Qas (e::es) X.env=(false,eval e X.env)::Qas es X.env:=by exact ZaM (fun _ _ z=>nomatch z)) (hpl:(backTo pos (Qas es X.env)).any (·.1)=false:=by rfl):JE X (.Call (.Name x p) (e::es) [] pos) (tD K M H0 (ZH F fa)):=⟨have ha:=ha.h;(Zhg hc hg hm hv ha hn hdb he hpl).mono fun _ _ _ h=>Zqu hF h⟩
theorem Zmy (hc:CallR X (.builtin id) r) (hF:RcF K r G) (hg:Gl X x) (hm:X.mg x=none) (hv:Qbe x=some (.builtin id)) (ha:JA X (e::es) (tA' K M H0 fa)) (hn:x≠"__name__":=by decide) (hdb:(x==("__debug__":Str))=false:=by decide) (he:Qas (e::es) X.env=(false,eval e X.env)::Qas es X.env:=by exact ZaM (fun _ _ z=>nomatch z)) (hpl:(backTo pos (Qas es X.env)).any (·.1)=false:=by rfl):JE X (.Call (.Name x p) (e::es) [] pos) (tF K M H0 (Zed G fa)):=⟨have ha:=ha.h;(Zhg hc hg hm hv ha hn hdb he hpl).mono fun _ _ _ h=>Zqx hF h⟩
theorem Zal (hc:CallR X (.type id) r) (hF:RcD K r F) (hg:Gl X x) (hm:X.mg x=none) (hv:Qbe x=some (.type id)) (ha:JA X (e::es) (tA' K M H0 fa)) (hn:x≠"__name__":=by decide) (hdb:(x==("__debug__":Str))=false:=by decide) (he:Qas (e::es) X.env=(false,eval e X.env)::Qas es X.env:=by exact ZaM (fun _ _ z=>nomatch z)) (hpl:(backTo pos (Qas es X.env)).any (·.1)=false:=by rfl):JE X (.Call (.Name x p) (e::es) [] pos) (tD K M H0 (ZH F fa)):=⟨have ha:=ha.h;(Zi6 hc hg hm hv ha hn hdb he hpl).mono fun _ _ _ h=>Zqu hF h⟩
theorem ZeL (hc:CallR X (.type id) r) (hF:RcF K r G) (hg:Gl X x) (hm:X.mg x=none) (hv:Qbe x=some (.type id)) (ha:JA X (e::es) (tA' K M H0 fa)) (hn:x≠"__name__":=by decide) (hdb:(x==("__debug__":Str))=false:=by decide) (he:Qas (e::es) X.env=(false,eval e X.env)::Qas es X.env:=by exact ZaM (fun _ _ z=>nomatch z)) (hpl:(backTo pos (Qas es X.env)).any (·.1)=false:=by rfl):JE X (.Call (.Name x p) (e::es) [] pos) (tF K M H0 (Zed G fa)):=⟨have ha:=ha.h;(Zi6 hc hg hm hv ha hn hdb he hpl).mono fun _ _ _ h=>Zqx hF h⟩
theorem RcD.or {r r':List V->Hp->VK->Prop} {F F':List D->Option D} (h:RcD K r F) (h':RcD K r' F'):RcD K (fun xs H Q=>r xs H Q\/r' xs H Q) (fun ds=>orO (F ds) (F' ds)):=by
 intro N H vs ds d Q nh h1 e q
 cases hF:F ds with
 | some z=>simp only [hF,orO] at e;cases e;exact .inl (h N H vs ds d Q nh h1 hF q)
 | none=>simp only [hF,orO] at e;exact .inr (h' N H vs ds d Q nh h1 e q)
end
inductive Res where
 | fail | next (ρ:VE) | brk (ρ:VE) | cont (ρ:VE) | ret (r:Rv)
def Beh (K:Qab) (M:Fb) (H0:Hp) (ρ:VE) (σ:St) (H:Hp) (ρ':VE) (Q:St->Hp->Prop):Prop:=∀ σ' H',Rel K M H0 ρ' σ' H'->Step M (Nf M ρ σ) (Nf M ρ' σ') H H'->Q σ' H'
def resOk (K:Qab) (M:Fb) (H0:Hp) (ρ:VE) (σ:St) (H:Hp) (D:Ends):Res->Prop
 | .fail=>False
 | .next ρ'=>Beh K M H0 ρ σ H ρ' D.nx
 | .brk ρ'=>Beh K M H0 ρ σ H ρ' D.bk
 | .cont ρ'=>Beh K M H0 ρ σ H ρ' D.ct
 | .ret r=>∀ v H',Same H0 H'->Znf K M H0 H' r v->D.rt v H'
def tS (K:Qab) (M:Fb) (H0:Hp) (g:VE->Res):TS:=fun D σ H=>∃ ρ,Rel K M H0 ρ σ H/\resOk K M H0 ρ σ H D (g ρ)
@[simp] def Zh (a:Res) (g:VE->Res):Res:=match a with
  | .next ρ=>g ρ
  | r=>r
theorem Beh.from {K:Qab} {M:Fb} {H0:Hp} {ρ ρ1 ρ':VE} {σ σ1:St} {H H1:Hp} {Q:St->Hp->Prop} (s:Step M (Nf M ρ σ) (Nf M ρ1 σ1) H H1) (h:Beh K M H0 ρ σ H ρ' Q):Beh K M H0 ρ1 σ1 H1 ρ' Q :=
 fun σ' H' R s'=>h σ' H' R (s.trans s')
theorem resOk.from {K:Qab} {M:Fb} {H0:Hp} {ρ ρ1:VE} {σ σ1:St} {H H1:Hp} {D:Ends} {r:Res} (s:Step M (Nf M ρ σ) (Nf M ρ1 σ1) H H1) (h:resOk K M H0 ρ σ H D r):resOk K M H0 ρ1 σ1 H1 D r:=by
 cases r with
 | fail=>exact h
 | next ρ'=>exact Beh.from s h
 | brk ρ'=>exact Beh.from s h
 | cont ρ'=>exact Beh.from s h
 | ret r=>exact h
section
variable {X:Cx} {K:Qab} {M:Fb} {H0:Hp} {st:Stmt} {Zaa:List Stmt} {g g1 g2:VE->Res} {pos:Pos} {e:Expr} {f:VE->Option D}
theorem Zj :JB X [] (tS K M H0 fun ρ=>.next ρ):=⟨pss_nil.mono fun D σ H ⟨ρ,R,q⟩=>q σ H R Step.refl⟩
theorem Zc (h1:JS X st (tS K M H0 g1)) (h2:JB X Zaa (tS K M H0 g2)):JB X (st::Zaa) (tS K M H0 fun ρ=>Zh (g1 ρ) g2):=⟨have h1:=h1.h;have h2:=h2.h;(Zpr h1 h2).mono fun D σ H ⟨ρ,R,q⟩=>by
 try dsimp only at q
 refine ⟨ρ,R,?_⟩
 cases hg:g1 ρ with
 | fail=>rw [hg] at q;exact q
 | next ρ1=>rw [hg] at q;exact fun σ1 H1 R1 s1=>⟨ρ1,R1,q.from s1⟩
 | brk ρ1=>rw [hg] at q;exact q
 | cont ρ1=>rw [hg] at q;exact q
 | ret r=>rw [hg] at q;exact q⟩
@[simp] def ZS (o:Option D):Res:=match o with
  | some d=>.ret (.val d)
  | none=>.fail
theorem Zw (h:JE X e (tD K M H0 f)):JS X (.Return (some e) pos) (tS K M H0 fun ρ=>ZS (f ρ)):=⟨have h:=h.h;(ZhD h).mono fun D σ H ⟨ρ,R,q⟩=>by
 try dsimp only at q
 cases hf:f ρ with
 | none=>rw [hf] at q;exact QaJ q
 | some d =>
  rw [hf] at q
  exact ⟨ρ,d,R,hf,fun v H' s hv=>q v H' (R.same.trans s) (hv.nw fun a ha=>.inl (.inl ha))⟩⟩
@[simp] def Zbm (o:Option (List D)):Res:=match o with
  | some xs=>.ret (.own xs)
  | none=>.fail
@[simp] def Zo2 (o:Option (List D)):Res:=match o with
  | some xs=>.ret (.own xs true)
  | none=>.fail
theorem Zn8 {f:VE->Option (List D)} (h:JE X e (tFb true K M H0 f)):JS X (.Return (some e) pos) (tS K M H0 fun ρ=>Zo2 (f ρ)):=⟨have h:=h.h;(ZhD h).mono fun D σ H ⟨ρ,R,q⟩=>by
 try dsimp only at q
 cases hf:f ρ with
 | none=>rw [hf] at q;exact QaJ q
 | some xs =>
  rw [hf] at q
  exact ⟨ρ,xs,R,hf,fun a vs H' s z1 z2 z3=>q (.ref a) H' (R.same.trans s) ⟨a,vs,rfl,R.same.free z1,z2,z3.nw fun b hb=>by
   rcases hb with hb | hb
   ·exact .inl (.inl (.inl hb))
   ·exact .inl (.inr hb)⟩⟩⟩
theorem ZcF {f:VE->Option (List D)} (h:JE X e (tF K M H0 f)):JS X (.Return (some e) pos) (tS K M H0 fun ρ=>Zbm (f ρ)):=⟨have h:=h.h;(ZhD h).mono fun D σ H ⟨ρ,R,q⟩=>by
 try dsimp only at q
 cases hf:f ρ with
 | none=>rw [hf] at q;exact QaJ q
 | some xs =>
  rw [hf] at q
  exact ⟨ρ,xs,R,hf,fun a vs H' s z1 z2 z3=>q (.ref a) H' (R.same.trans s) ⟨a,vs,rfl,R.same.free z1,z2,z3.nw fun b hb=>by
   rcases hb with hb | hb
   ·exact .inl (.inl (.inl hb))
   ·exact .inl (.inr hb)⟩⟩⟩
@[simp] def rdO (ρ:VE) (i:Nat):Option (List D):=match ρ[i]? with
  | some (.own xs)=>some xs
  | _=>none
theorem Zfl {ρ:VE} {i:Nat} {xs:List D} (h:rdO ρ i=some xs):ρ[i]?=some (.own xs):=by
 unfold rdO at h
 split at h
 ·cases h;assumption
 ·cases h
@[simp] def rdG (ρ:VE) (i:Nat):Option (List D):=match ρ[i]? with
  | some (.own xs true)=>some xs
  | _=>none
theorem Zj0 {ρ:VE} {i:Nat} {xs:List D} (h:rdG ρ i=some xs):ρ[i]?=some (.own xs true):=by
 unfold rdG at h
 split at h
 ·cases h;assumption
 ·cases h
theorem join_some {σ:St} {i:Nat} {v:V} (e1:σ[i]?.join=some v):σ[i]?=some (some v):=by
 cases z:σ[i]? with
 | none=>rw [z] at e1;cases e1
 | some o=>rw [z] at e1;cases e1;rfl
theorem Zq4 {i:Nat} {x:Str} {vpos:Pos} (hN:X.N[i]?=some x) (hv:Vis X.env.scope x) (hd:(x==("__debug__":Str))=false:=by decide) (hcd:(x==("__classdict__":Str))=false:=by decide) :
  PS X (.Return (some (.Name x vpos)) pos) (tS K M H0 fun ρ=>Zbm (rdO ρ i)):=(ZhD (Zcn hN hv hd hcd)).mono fun D σ H ⟨ρ,R,q⟩=>by
 try dsimp only at q
 cases hf:rdO ρ i with
 | none=>rw [hf] at q;exact QaJ q
 | some xs =>
  rw [hf] at q
  obtain ⟨a,vs,e1,z1,z2,z3,z4⟩:=R.slot i _ (Zfl hf)
  refine ⟨.ref a,join_some e1,q (.ref a) H R.same ⟨a,vs,rfl,z1,z3,z4.nw fun b hb=>.inl ?_⟩⟩
  rcases hb with hb | hb
  ·exact .inl hb
  ·subst hb;exact .inr ⟨i,xs,_,Zfl hf,join_some e1⟩
@[simp] def Z4 (c:Option Bool) (a b:Res):Res:=match c with
  | some true=>a
  | some false=>b
  | none=>.fail
theorem Z5 {c:Expr} {a b:List Stmt} {t:VE->Option Bool} (hc:JT X c (tB' K M H0 t)) (ha:JB X a (tS K M H0 g1)) (hb:JB X b (tS K M H0 g2)):JS X (.If c a b pos) (tS K M H0 fun ρ=>Z4 (t ρ) (g1 ρ) (g2 ρ)):=⟨have hc:=hc.h;have ha:=ha.h;have hb:=hb.h;(ZtL hc ha hb).mono fun D σ H ⟨ρ,R,q⟩=>by
 try dsimp only at q
 cases ht:t ρ with
 | none=>rw [ht] at q;exact QaJ q
 | some k =>
  rw [ht] at q
  refine ⟨ρ,k,R,ht,fun H1 s=>?_⟩
  cases k with
  | true=>refine Zh5 ?_;exact ⟨ρ,R.st s,resOk.from (Step.of_same s) q⟩
  | false=>refine Zh4 ?_;exact ⟨ρ,R.st s,resOk.from (Step.of_same s) q⟩⟩
theorem ZcI {α:Type} {l:List α} {i:Nat} {x y:α} (h:(l.set i x)[i]?=some y):i<l.length/\x=y:=by
 by_cases hi:i<l.length
 ·rw [QbK hi] at h;exact ⟨hi,Qbr h⟩
 ·rw [QcK (by simpa using QcS hi)] at h;cases h
theorem Ze7 {M:Fb} {ρ:VE} {σ:St} {i:Nat} {s:Sl} {v:V} {b:Addr} (hl:ρ.length=σ.length) (h:Nf M (ρ.set i s) (σ.set i (some v)) b):Nf M ρ σ b\/∃ xs fl,s=.own xs fl/\v=.ref b:=by
 rcases h with h | ⟨j,xs,fl,h1,h2⟩
 ·exact .inl (.inl h)
 ·by_cases e:i=j
  ·subst e
   have q1:=(ZcI h1).2
   have q2:=(ZcI h2).2
   cases q1;cases q2;exact .inr ⟨xs,fl,rfl,rfl⟩
  ·rw [Qa7 e] at h1 h2
   exact .inl (.inr ⟨j,xs,fl,h1,h2⟩)
theorem Rel.put {ρ:VE} {σ:St} {H H':Hp} {i:Nat} {s:Sl} {v:V} (R:Rel K M H0 ρ σ H) (S:Step M (Nf M ρ σ) (Nf M (ρ.set i s) (σ.set i (some v))) H H') (sm:Same H0 H')
  (ow:∀ j a vs xs fl,j≠i->ρ[j]?=some (.own xs fl)->σ[j]?=some (some (.ref a))->H a=some (CO fl xs vs)->H' a=some (CO fl xs vs))
  (hs:i<ρ.length->Zti K M (Nf M (ρ.set i s) (σ.set i (some v))) H0 H' s (some v))
  (hinj:∀ xs fl a j ys fl',s=.own xs fl->v=.ref a->j≠i->ρ[j]?=some (.own ys fl')->σ[j]?≠some (some (.ref a))):Rel K M H0 (ρ.set i s) (σ.set i (some v)) H' where
 len:=by rw [List.length_set,List.length_set];exact R.len
 same:=sm
 mh:=fun a h z=>by
  cases e:H a with
  | none=>exact R.mh a h e
  | some o=>rw [S.kp a o e (.inr (.inl h))] at z;cases z
 slot:=fun j sl e=>by
  by_cases eij:i=j
  ·subst eij
   obtain ⟨hi,e⟩:=ZcI e
   subst e
   rw [QbK (by rw [<- R.len];exact hi)]
   exact hs hi
  ·rw [Qa7 eij] at e ⊢
   have q:=R.slot j sl e
   cases sl with
   | no=>trivial
   | val d=>obtain ⟨u,e1,h⟩:=q;exact ⟨u,e1,Den.step S d u h⟩
   | own xs fl=>obtain ⟨a,vs,e1,h1,h2,h3,h4⟩:=q;exact ⟨a,vs,e1,h1,h2,ow j a vs xs fl (QaD eij) e (join_some e1) h3,DenL.step S xs vs h4⟩
   | lent xs fl=>obtain ⟨a,vs,e1,h1,h2,h3⟩:=q;exact ⟨a,vs,e1,h1,h2.step S (.inr (.inl h1)),DenL.step S xs vs h3⟩
   | exc c=>obtain ⟨a,C,e1,h1,h2⟩:=q;exact ⟨a,C,e1,h1,S.kp _ _ h2 (.inr (.inr rfl))⟩
 inj:=fun j k xs ys fl fl' a h1 h2 h3 h4=>by
  by_cases ej:i=j
  ·by_cases ek:i=k
   ·rw [<- ej,ek]
   ·subst ej
    rw [Qa7 ek] at h2 h4
    have q1:=(ZcI h1).2
    have q3:=(ZcI h3).2
    cases q1;cases q3;exact absurd h4 (hinj xs fl a k ys fl' rfl rfl (QaD ek) h2)
  ·rw [Qa7 ej] at h1 h3
   by_cases ek:i=k
   ·subst ek
    have q2:=(ZcI h2).2
    have q4:=(ZcI h4).2
    cases q2;cases q4;exact absurd h3 (hinj ys fl' a j xs fl rfl rfl (QaD ej) h1)
   ·rw [Qa7 ek] at h2 h4
    exact R.inj j k xs ys fl fl' a h1 h2 h3 h4
theorem Rel.setV {ρ:VE} {σ:St} {H H':Hp} {i:Nat} {d:D} {v:V} (R:Rel K M H0 ρ σ H) (s:Same H H') (h:Den K (Nf M ρ σ) H' d v) :
  Rel K M H0 (ρ.set i (.val d)) (σ.set i (some v)) H'/\Step M (Nf M ρ σ) (Nf M (ρ.set i (.val d)) (σ.set i (some v))) H H':=by
 have S:Step M (Nf M ρ σ) (Nf M (ρ.set i (.val d)) (σ.set i (some v))) H H':=⟨fun a o e _=>s a o e,fun b hb=>by
  rcases Ze7 R.len hb with q | ⟨xs,_,e,_⟩
  ·exact .inl q
  ·cases e⟩
 refine ⟨R.put S (R.same.trans s) (fun j a vs xs fl _ _ _ e=>s _ _ e) (fun _=>⟨v,rfl,h.nw fun b hb=>?_⟩) (fun xs fl a j ys fl' e=>nomatch e),S⟩
 rcases Ze7 R.len hb with q | ⟨xs,_,e,_⟩
 ·exact .inl q
 ·cases e
theorem Rel.setO {fl:Bool} {ρ:VE} {σ:St} {H H':Hp} {i:Nat} {xs:List D} {a:Addr} {vs:List V} (R:Rel K M H0 ρ σ H) (s:Same H H') (hn:H a=none) (ha:H' a=some (CO fl xs vs)) (h:DenL K (fun b=>Nf M ρ σ b\/b=a) H' xs vs) :
  Rel K M H0 (ρ.set i (.own xs fl)) (σ.set i (some (.ref a))) H'/\Step M (Nf M ρ σ) (Nf M (ρ.set i (.own xs fl)) (σ.set i (some (.ref a)))) H H':=by
 have nf:∀ b,Nf M (ρ.set i (.own xs fl)) (σ.set i (some (.ref a))) b->Nf M ρ σ b\/b=a:=fun b hb=>by
  rcases Ze7 R.len hb with q | ⟨xs,fl,e,e'⟩
  ·exact .inl q
  ·cases e';exact .inr rfl
 have S:Step M (Nf M ρ σ) (Nf M (ρ.set i (.own xs fl)) (σ.set i (some (.ref a)))) H H':=⟨fun a o e _=>s a o e,fun b hb=>by
  rcases nf b hb with q | q
  ·exact .inl q
  ·subst q;exact .inr hn⟩
 refine ⟨R.put S (R.same.trans s) (fun j a vs xs fl _ _ _ e=>s _ _ e) (fun _=>⟨a,vs,rfl,R.same.free hn,fun hm=>R.fresh hn (.inl hm),ha,h.nw fun b hb=>.inl (nf b hb)⟩) (fun xs' fl' a' j ys fl2 e e' hj h1 h2=>?_),S⟩
 cases e'
 exact R.fresh hn (.inr ⟨j,ys,fl2,h1,h2⟩)
theorem Rel.chg {fl fl2:Bool} {ρ:VE} {σ:St} {H:Hp} {i:Nat} {xs ys:List D} {a:Addr} {ws:List V} (R:Rel K M H0 ρ σ H) (hi:ρ[i]?=some (.own xs fl)) (ha:σ[i]?=some (some (.ref a))) (h:DenL K (Nf M ρ σ) H ys ws) :
  Rel K M H0 (ρ.set i (.own ys fl2)) σ (upd H a (CO fl2 ys ws))/\Step M (Nf M ρ σ) (Nf M (ρ.set i (.own ys fl2)) σ) H (upd H a (CO fl2 ys ws)):=by
 obtain ⟨a',vs,e1,z1,z2,z3,z4⟩:=R.slot i _ hi
 rw [ha] at e1
 have ea:a=a':=by simpa using e1
 subst ea
 have hσ:σ.set i (some (.ref a))=σ:=by
  apply QbY
  intro j
  by_cases e:i=j
  ·subst e
   rw [QbK (List.getElem?_eq_some_iff.mp ha).1,ha]
  ·rw [Qa7 e]
 have na:Nf M ρ σ a:=.inr ⟨i,xs,fl,hi,ha⟩
 have nf:∀ b,Nf M (ρ.set i (.own ys fl2)) (σ.set i (some (.ref a))) b->Nf M ρ σ b:=fun b hb=>by
  rcases Ze7 R.len hb with q | ⟨xs,_,e,e'⟩
  ·exact q
  ·cases e';exact na
 have S:Step M (Nf M ρ σ) (Nf M (ρ.set i (.own ys fl2)) (σ.set i (some (.ref a)))) H (upd H a (CO fl2 ys ws)):=⟨fun b o e z=>by
   have ne:b≠a:=by
    rintro rfl
    rcases z with z | z | z
    ·exact z na
    ·exact z2 z
    ·rw [z3] at e;cases e;rw [Zsj] at z;cases z
   rw [Zt ne];exact e,fun b hb=>.inl (nf b hb)⟩
 have key:Rel K M H0 (ρ.set i (.own ys fl2)) (σ.set i (some (.ref a))) (upd H a (CO fl2 ys ws)):=by
  refine R.put S (fun b o e=>?_) (fun j b us xs' fl' hj h1 h2 h3=>?_) (fun _=>⟨a,ws,rfl,z1,z2,Zad,DenL.step S ys ws h⟩) (fun xs' fl3 b j ys' fl' e e' hj h1 h2=>?_)
  ·have ne:b≠a:=by
    rintro rfl
    rw [z1] at e;cases e
   rw [Zt ne];exact R.same b o e
  ·have ne:b≠a:=by
    rintro rfl
    exact hj (R.inj j i xs' xs fl' fl b h1 hi h2 ha)
   rw [Zt ne];exact h3
  ·cases e'
   exact hj (R.inj j i ys' xs fl' fl _ h1 hi h2 ha)
 rw [hσ] at key S
 exact ⟨key,S⟩
theorem Rel.frz {fl:Bool} {ρ:VE} {σ:St} {H:Hp} {i:Nat} {xs:List D} (R:Rel K M H0 ρ σ H) (hi:ρ[i]?=some (.own xs fl)) :
  Rel K M H0 (ρ.set i (.val (.lst xs fl))) σ H/\Step M (Nf M ρ σ) (Nf M (ρ.set i (.val (.lst xs fl))) σ) H H:=by
 obtain ⟨a,vs,e1,z1,z2,z3,z4⟩:=R.slot i _ hi
 have ha:=join_some e1
 have hσ:σ.set i (some (.ref a))=σ:=by
  apply QbY
  intro j
  by_cases e:i=j
  ·subst e
   rw [QbK (List.getElem?_eq_some_iff.mp ha).1,ha]
  ·rw [Qa7 e]
 have nf:∀ b,Nf M (ρ.set i (.val (.lst xs fl))) (σ.set i (some (.ref a))) b->Nf M ρ σ b:=fun b hb=>by
  rcases Ze7 R.len hb with q | ⟨xs,_,e,e'⟩
  ·exact q
  ·cases e
 have nna:¬ Nf M (ρ.set i (.val (.lst xs fl))) (σ.set i (some (.ref a))) a:=by
  rintro (h | ⟨j,ys,fl',h1,h2⟩)
  ·exact z2 h
  ·by_cases e:i=j
   ·subst e
    have q1:=(ZcI h1).2
    cases q1
   ·rw [Qa7 e] at h1 h2
    exact e (R.inj i j xs ys _ _ a hi h1 ha h2)
 have S:Step M (Nf M ρ σ) (Nf M (ρ.set i (.val (.lst xs fl))) (σ.set i (some (.ref a)))) H H:=⟨fun _ _ e _=>e,fun b hb=>.inl (nf b hb)⟩
 have key:Rel K M H0 (ρ.set i (.val (.lst xs fl))) (σ.set i (some (.ref a))) H:=by
  refine R.put S R.same (fun _ _ _ _ _ _ _ _ h=>h) (fun _=>⟨.ref a,rfl,?_⟩) (fun xs' _ b j ys' _ e=>nomatch e)
  simp only [Den]
  exact ⟨a,vs,rfl,.of nna z3,DenL.step S xs vs z4⟩
 rw [hσ] at key S
 exact ⟨key,S⟩
@[simp] def ZP (i:Nat) (o:Option D) (ρ:VE):Res:=match o with
  | some d=>.next (ρ.set i (.val d))
  | none=>.fail
@[simp] def Zba (i:Nat) (o:Option (List D)) (ρ:VE):Res:=match o with
  | some xs=>.next (ρ.set i (.own xs))
  | none=>.fail
@[simp] def Zen (i:Nat) (o:Option (List D)) (ρ:VE):Res:=match o with
  | some xs=>.next (ρ.set i (.own xs true))
  | none=>.fail
theorem ZrW {f:VE->Option (List D)} {i:Nat} {D':Ends} {σ:St} {H:Hp} (h:tS K M H0 (fun ρ=>Zen i (f ρ) ρ) D' σ H):Zkg (tFb true K M H0 f) (Zhx i) D' σ H:=by
 obtain ⟨ρ,R,q⟩:=h
 try dsimp only at q
 cases hf:f ρ with
 | none=>simp only [hf,Zen] at q;exact QaJ q
 | some d =>
  simp only [hf,Zen] at q
  refine ⟨ρ,d,R,hf,fun a vs H1 s z1 z2 z3=>?_⟩
  obtain ⟨R1,S1⟩:=R.setO (i:=i) s z1 z2 z3
  exact q _ _ R1 S1
theorem ZiT {f:VE->Option (List D)} {i:Nat} {x:Str} {pos':Pos} (hN:X.N.Nodup) (hi:X.N[i]?=some x) (hx:Loc X.env.scope x) (he:JE X e (tFb true K M H0 f)) (hs:swapsWith e (some (.Name x pos')) pos.line X.env=pure false:=by rfl) (hf:X.fn x=true\/X.env.scope.names.lookup x=some .local:=by first | exact .inl rfl | exact .inr rfl | assumption):JS X (.Assign [.Name x pos'] e pos) (tS K M H0 fun ρ=>Zen i (f ρ) ρ):=⟨have he:=he.h;(Zj1 hN hi hx he hs hf).mono fun _ _ _ q=>ZrW q⟩
theorem Ztw {i:Nat} {D':Ends} {σ:St} {H:Hp} (h:tS K M H0 (fun ρ=>ZP i (f ρ) ρ) D' σ H):Zkg (tD K M H0 f) (Zhx i) D' σ H:=by
 obtain ⟨ρ,R,q⟩:=h
 try dsimp only at q
 cases hf:f ρ with
 | none=>simp only [hf,ZP] at q;exact QaJ q
 | some d =>
  simp only [hf,ZP] at q
  refine ⟨ρ,d,R,hf,fun v H1 s hv=>?_⟩
  obtain ⟨R1,S1⟩:=R.setV (i:=i) s hv
  exact q _ _ R1 S1
theorem ZsA {f:VE->Option (List D)} {i:Nat} {D':Ends} {σ:St} {H:Hp} (h:tS K M H0 (fun ρ=>Zba i (f ρ) ρ) D' σ H):Zkg (tF K M H0 f) (Zhx i) D' σ H:=by
 obtain ⟨ρ,R,q⟩:=h
 try dsimp only at q
 cases hf:f ρ with
 | none=>simp only [hf,Zba] at q;exact QaJ q
 | some d =>
  simp only [hf,Zba] at q
  refine ⟨ρ,d,R,hf,fun a vs H1 s z1 z2 z3=>?_⟩
  obtain ⟨R1,S1⟩:=R.setO (i:=i) s z1 z2 z3
  exact q _ _ R1 S1
theorem ZA {i:Nat} {x:Str} {pos':Pos} (hN:X.N.Nodup) (hi:X.N[i]?=some x) (hx:Loc X.env.scope x) (he:JE X e (tD K M H0 f)) (hs:swapsWith e (some (.Name x pos')) pos.line X.env=pure false:=by rfl) (hf:X.fn x=true\/X.env.scope.names.lookup x=some .local:=by first | exact .inl rfl | exact .inr rfl | assumption):JS X (.Assign [.Name x pos'] e pos) (tS K M H0 fun ρ=>ZP i (f ρ) ρ):=⟨have he:=he.h;(Zj1 hN hi hx he hs hf).mono fun _ _ _ q=>Ztw q⟩
theorem Zbx {f:VE->Option (List D)} {i:Nat} {x:Str} {pos':Pos} (hN:X.N.Nodup) (hi:X.N[i]?=some x) (hx:Loc X.env.scope x) (he:JE X e (tF K M H0 f)) (hs:swapsWith e (some (.Name x pos')) pos.line X.env=pure false:=by rfl) (hf:X.fn x=true\/X.env.scope.names.lookup x=some .local:=by first | exact .inl rfl | exact .inr rfl | assumption):JS X (.Assign [.Name x pos'] e pos) (tS K M H0 fun ρ=>Zba i (f ρ) ρ):=⟨have he:=he.h;(Zj1 hN hi hx he hs hf).mono fun _ _ _ q=>ZsA q⟩
@[simp] def Zv5 (i:Nat) (ρ:VE):VE:=match ρ[i]? with
  | some (.own xs b)=>ρ.set i (.val (.lst xs b))
  | _=>ρ
@[simp] def ZbO (i:Nat) (o:Option D) (ρ:VE):Res:=match rdO ρ i,o with
  | some xs,some d=>if xs.length<Qaj then .next (ρ.set i (.own (xs++[d]))) else .fail
  | _,_=>.fail
theorem Zbk {i:Nat} {x:Str} {vpos apos cpos:Pos} (hN:X.N[i]?=some x) (hv:Vis X.env.scope x) (he:JE X e (tD K M H0 f)) (hd:(x==("__debug__":Str))=false:=by decide) (hcd:(x==("__classdict__":Str))=false:=by decide) (hs:swapsWith (.Call (.Attribute (.Name x vpos) "append" apos) [e] [] cpos) none pos.line X.env=pure false:=by rfl) (hbase:QcZ (.Name x vpos) "append" X.env (eval (.Name x vpos) X.env)=eval (.Name x vpos) X.env:=by rfl) (hfew:((backTo cpos (Qas [e] X.env)).all (fun x=>!x.1)&&(backToKw cpos (keywordEach [] X.env)).all (fun x=>x.1.isSome)
   && decide ([e].length+([]:List Keyword).length+(if ([]:List Keyword).isEmpty then 0 else 1)<30))=true:=by rfl) (hline:(apos.endLine==cpos.line)=true:=by rfl) (hst:Qas [e] X.env=(false,eval e X.env)::Qas [] X.env:=by rfl) (hpl:(backTo cpos (Qas [] X.env)).any (·.1)=false:=by rfl):JS X (.Expr (.Call (.Attribute (.Name x vpos) "append" apos) [e] [] cpos) pos) (tS K M H0 fun ρ=>ZbO i (f ρ) ρ):=⟨have he:=he.h;(Zic (ZmD PySem.F.plainAttrs_list PySem.F.slot_list_append PySem.F.type_list_append Zou (Zcn hN hv hd hcd) (ZaC he pa_nil hst) hbase hfew hline hst hpl) hs).mono fun D' σ H ⟨ρ,R,q⟩=>by
  try dsimp only at q
  cases hr:rdO ρ i with
  | none=>simp only [hr,ZbO] at q;exact QaJ q
  | some xs =>
   cases hf:f ρ with
   | none=>simp only [hr,hf,ZbO] at q;exact QaJ q
   | some d =>
    simp only [hr,hf,ZbO] at q
    split at q
    ·next hz =>
     have hi:=Zfl hr
     obtain ⟨a,vs,e1,z1,z2,z3,z4⟩:=R.slot i _ hi
     have ha:=join_some e1
     refine ⟨.ref a,ha,.inl ⟨rfl,vs,.inl (.inl z3)⟩,ρ,d,R,hf,fun v H1 s hv=>?_⟩
     have R1:=R.st s
     obtain ⟨R2,S2⟩:=R1.chg (ys:=xs++[d]) (ws:=vs++[v]) hi ha ((z4.same s).append (DenL.cons hv DenL.nil))
     exact ⟨a,vs,v,rfl,rfl,s _ _ z3,by rw [<- z4.length];exact hz,q _ _ R2 ((Step.of_same s).trans S2)⟩
    ·exact QaJ q⟩
end
def Zlk (K:Qab) (M N:Fb) (H1:Hp) (J:It) (ds:List D):Prop:=∀ N2 H2,Step M N N2 H1 H2->∀ i,(∀ d,ds[i]?=some d->J.go i H2/\∀ x H3,J.yld i H2 x H3->Same H2 H3/\Den K N2 H3 d x)/\(i=ds.length->J.stop i H2)
def tI (K:Qab) (M:Fb) (H0:Hp) (f:VE->Option (List D)):TI:=fun σ H R=>∃ ρ ds,Rel K M H0 ρ σ H/\f ρ=some ds/\∀ J H1,Same H H1->Zlk K M (Nf M ρ σ) H1 J ds->R J H1
def tG (K:Qab) (M:Fb) (H0:Hp) (ws:List Nat) (b:D->VE->Option VE):TG:=fun v σ H Q=>∃ ρ d ρ',Rel K M H0 ρ σ H/\Den K (Nf M ρ σ) H d v/\b d ρ=some ρ'/\∀ σ' ,Rel K M H0 ρ' σ' H->Step M (Nf M ρ σ) (Nf M ρ' σ') H H->(∀ j,j∉ws->σ'[j]?=σ[j]?)->Q σ' H
@[simp] def Zm (i:Nat) (d:D) (ρ:VE):Option VE:=some (ρ.set i (.val d))
def Z7 (b:D->VE->Option VE) (g:VE->Res):List D->VE->Res
 | [],ρ=>.next ρ
 | d::ds,ρ=>match b d ρ with
  | none=>.fail
  | some ρ1=>match g ρ1 with
   | .next ρ2=>Z7 b g ds ρ2
   | .cont ρ2=>Z7 b g ds ρ2
   | .brk ρ2=>.next ρ2
   | r=>r
@[simp] def ZaW (f:VE->Option (List D)) (b:D->VE->Option VE) (g:VE->Res):VE->Res:=fun ρ=>match f ρ with
  | some ds=>Z7 b g ds ρ
  | none=>.fail
section
variable {X:Cx} {K:Qab} {M:Fb} {H0:Hp} {pos:Pos} {e tg iter:Expr} {f:VE->Option (List D)} {b:D->VE->Option VE} {g:VE->Res} {body:List Stmt}
theorem Zq {i:Nat} {x:Str} (hN:X.N.Nodup) (hi:X.N[i]?=some x) (hx:Loc X.env.scope x) (hf:X.fn x=true\/X.env.scope.names.lookup x=some .local:=by first | exact .inl rfl | exact .inr rfl | assumption):JG X (.Name x pos) (tG K M H0 [i] (Zm i)):=⟨by
 intro pins s σ H v u Q I r ⟨ρ,d,ρ',R,hd,e,q⟩
 cases e
 obtain ⟨R1,S1⟩:=R.setV (i:=i) (Same.refl H) hd
 exact ZqN hN hi hx hf pins s σ H v u Q I r (q _ R1 S1 fun j hj=>by rw [Qa7 (fun e=>hj (by rw [e];simp))])⟩
theorem Zsp {ws:List Nat} {D':Ends} {σ:St} {H:Hp} {wi:TI} {tg':TG} {tb:TS} (hi:∀ σ H R,tI K M H0 f σ H R->wi σ H R) (hg:∀ v σ H Q,tG K M H0 ws b v σ H Q->tg' v σ H Q) (hb:∀ D σ H,tS K M H0 g D σ H->tb D σ H)
  (h:tS K M H0 (ZaW f b g) D' σ H):Zsu wi tg' tb D' σ H:=by
 obtain ⟨ρ,R,q⟩:=h
 try dsimp only at q
 unfold ZaW at q
 cases hf:f ρ with
 | none=>rw [hf] at q;exact QaJ q
 | some ds =>
  rw [hf] at q
  refine hi _ _ _ ⟨ρ,ds,R,hf,fun J H1 s1 ok=>?_⟩
  -- at turn i: the slots ρi from which the Zaa of the items gives what is wanted
  refine ⟨fun i m σi Hi=>m=ds.length-i/\i<=ds.length/\∃ ρi,Rel K M H0 ρi σi Hi/\Step M (Nf M ρ σ) (Nf M ρi σi) H1 Hi/\resOk K M H0 ρi σi Hi D' (Z7 b g (ds.drop i) ρi),⟨ds.length,by simp,Nat.zero_le _,ρ,R.st s1,Step.refl,?_⟩,?_⟩
  ·exact resOk.from (Step.of_same s1) q
  ·rintro i m σi Hi ⟨rfl,hle,ρi,Ri,Si,qi⟩
   obtain ⟨ok1,ok2⟩:=ok _ _ Si i
   by_cases hlt:i<ds.length
   ·obtain ⟨go,y⟩:=ok1 ds[i] (QaF hlt)
    rw [Qcl hlt] at qi
    simp only [Z7] at qi
    refine .inr ⟨go,fun σ' H'=>i+1<=ds.length/\∃ ρi,Rel K M H0 ρi σ' H'/\Step M (Nf M ρ σ) (Nf M ρi σ') H1 H'/\resOk K M H0 ρi σ' H' D' (Z7 b g (ds.drop (i+1)) ρi),fun σ' H' z=>⟨ds.length-(i+1),by omega,rfl,z⟩,fun x H' yl=>?_⟩
    obtain ⟨s3,hd⟩:=y x H' yl
    cases hbd:b ds[i] ρi with
    | none=>rw [hbd] at qi;exact QaJ qi
    | some ρ1 =>
     rw [hbd] at qi
     simp only at qi
     refine hg _ _ _ _ ⟨ρi,ds[i],ρ1,Ri.st s3,hd,hbd,fun σ1 R1 S1 _=>hb _ _ _ ⟨ρ1,R1,?_⟩⟩
     have S01:Step M (Nf M ρi σi) (Nf M ρ1 σ1) Hi H':=(Step.of_same s3).trans S1
     cases hgr:g ρ1 with
     | fail=>rw [hgr] at qi;exact qi
     | next ρ2=>rw [hgr] at qi;exact fun σ2 H2 R2 S2=>⟨hlt,ρ2,R2,Si.trans (S01.trans S2),resOk.from (S01.trans S2) qi⟩
     | cont ρ2=>rw [hgr] at qi;exact fun σ2 H2 R2 S2=>⟨hlt,ρ2,R2,Si.trans (S01.trans S2),resOk.from (S01.trans S2) qi⟩
     | brk ρ2=>rw [hgr] at qi;exact fun σ2 H2 R2 S2=>qi σ2 H2 R2 (S01.trans S2)
     | ret r=>rw [hgr] at qi;exact qi
   ·have e:i=ds.length:=by omega
    rw [QcD (by omega)] at qi
    exact .inl ⟨ok2 e,qi σi Hi Ri Step.refl⟩
theorem ZaQ {ws:List Nat} (hp:PassesOwn (model X.prog X.w) X.A X.env X.xe) (hc:X.calm=true) (hi:JI X tg iter (tI K M H0 f)) (hg:JG X tg (tG K M H0 ws b)) (hb:JB X body (tS K M H0 g)) (hs:∀ x,QcG iter X.env x=pure x:=by intro _;rfl):JS X (.For tg iter body [] pos) (tS K M H0 (ZaW f b g)):=⟨have hi:=hi.h;have hg:=hg.h;have hb:=hb.h;(ZsK hp hc hi hg hb hs).mono fun _ _ _ q=>Zsp (fun _ _ _ z=>z) (fun _ _ _ _ z=>z) (fun _ _ _ z=>z) q⟩
theorem PI.mono {wi wi':TI} (h:PI X tg iter wi) (m:∀ σ H R,wi' σ H R->wi σ H R):PI X tg iter wi':=fun pins s σ H R I q=>h pins s σ H R I (m σ H R q)
def DenQ (K:Qab) (M N:Fb) (H:Hp) (d:D) (v:V):Prop:=match d with
 | .lst xs=>∃ a vs,v=.ref a/\(((¬ N a\/M a)/\Rd H a (.lst vs))\/KL K a vs)/\DenL K N H xs vs
 | .lst xs true=>∃ a vs,v=.ref a/\(¬ N a\/M a)/\Rd H a (.dct (ZfA xs) vs)/\DenL K N H xs vs
 | d=>Den K N H d v
def tQ (K:Qab) (M:Fb) (H0:Hp) (f:VE->Option D):TE:=fun σ H Q=>∃ ρ d,Rel K M H0 ρ σ H/\f ρ=some d/\∀ v H',Same H H'->DenQ K M (Nf M ρ σ) H' d v->Q v H'
theorem Den.q {M N:Fb} {H:Hp} {d:D} {v:V} (h:Den K N H d v):DenQ K M N H d v:=by
 cases d with
 | lst xs fl =>
  simp only [Den] at h
  obtain ⟨a,vs,e,q,r⟩:=h
  cases fl with
  | false =>
   refine ⟨a,vs,e,?_,r⟩
   rcases q with ⟨n,q⟩ | ⟨ws,z,q⟩
   ·exact .inl ⟨.inl n,q⟩
   ·cases z;exact .inr q
  | true =>
   rcases q with ⟨n,q⟩ | ⟨ws,z,_⟩
   ·exact ⟨a,vs,e,.inl n,q,r⟩
   ·cases z
 | _=>exact h
theorem PE.q {f:VE->Option D} (h:PE X e (tD K M H0 f)):PE X e (tQ K M H0 f):=h.mono fun σ H Q ⟨ρ,d,R,e,q⟩=>⟨ρ,d,R,e,fun v H' s z=>q v H' s z.q⟩
theorem j_q {f:VE->Option D} (h:JE X e (tD K M H0 f)):JE X e (tQ K M H0 f):=⟨PE.q h.h⟩
theorem ZqK {M N:Fb} {H:Hp} {xs:List D} {vs:List V} {fl:Bool} {a:Addr} (m:M a) (h:Rd H a (CO fl xs vs)) (r:DenL K N H xs vs):DenQ K M N H (.lst xs fl) (.ref a):=by
 cases fl with
 | false=>exact ⟨a,vs,rfl,.inl ⟨.inr m,h⟩,r⟩
 | true=>exact ⟨a,vs,rfl,.inr m,h,r⟩
@[simp] def rdQ (ρ:VE) (i:Nat):Option D:=match ρ[i]? with
  | some (.val d)=>some d
  | some (.lent xs b)=>some (.lst xs b)
  | _=>none
theorem Zsl {i:Nat} {x:Str} (hN:X.N[i]?=some x) (hv:Vis X.env.scope x) (hd:(x==("__debug__":Str))=false:=by decide) (hcd:(x==("__classdict__":Str))=false:=by decide):PE X (.Name x pos) (tQ K M H0 fun ρ=>rdQ ρ i) :=
 (Zcn hN hv hd hcd).mono fun σ H Q ⟨ρ,d,R,e,q⟩=>by
  try dsimp only at e q
  unfold rdQ at e
  split at e
  ·next h=>cases e;obtain ⟨v,e1,h⟩:=R.slot i _ h;exact ⟨v,join_some e1,q v H (Same.refl H) h.q⟩
  ·next h=>cases e;obtain ⟨a,vs,e1,h2,h3,h4⟩:=R.slot i _ h;exact ⟨_,join_some e1,q _ H (Same.refl H) (ZqK h2 h3 h4)⟩
  ·cases e
def ZkC:D->Option (List D)
 | .lst xs=>some xs
 | _=>none
def Zqh:D->Option (List D)
 | .tup xs=>some xs
 | _=>none
def ZpH:D->Option (List D)
 | .str x=>some (x.cps.toList.map fun c=>D.str ⟨#[c]⟩)
 | _=>none
theorem ZrM {l:Expr} {f:VE->Option D} (h:PE X l (tQ X.K M H0 f)):PI X tg l (tI X.K M H0 fun ρ=>(f ρ).bind ZkC):=(ZqU h).mono fun σ H R' ⟨ρ,ds,R,e,q⟩=>by
 try dsimp only at e q
 cases hf:f ρ with
 | none=>rw [hf] at e;cases e
 | some d =>
  rw [hf] at e
  cases d with
  | lst xs fl =>
   cases fl with
   | true=>cases e
   | false =>
   cases e
   refine ⟨ρ,.lst _,R,hf,fun v H1 s1 hv=>?_⟩
   obtain ⟨a,vs,e1,hr,hd⟩:=hv
   have sq:∀ N2 H2,Step M (Nf M ρ σ) N2 H1 H2->SqL X.K H2 a vs:=fun N2 H2 S=>by
    rcases hr with ⟨hn,hr⟩ | hr
    ·exact .inl (hr.step S (by rcases hn with z | z;exact .inl z;exact .inr (.inl z)))
    ·exact hr.sq
   refine ⟨a,e1,⟨vs,sq _ _ Step.refl⟩,q _ H1 s1 fun N2 H2 S i=>?_⟩
   have hr2:=sq _ _ S
   have hd2:=DenL.step S _ _ hd
   refine ⟨fun d he=>?_,fun he=>⟨vs,hr2,by rw [he,hd.length];exact Qau _⟩⟩
   obtain ⟨w,hw,hdw⟩:=hd2.get he
   refine ⟨⟨vs,w,hr2,hw⟩,fun x H3 y=>?_⟩
   obtain ⟨e3,y⟩:=y
   subst e3
   have:=y vs hr2
   rw [hw] at this;cases this
   exact ⟨Same.refl _,hdw⟩
  | _=>cases e
theorem Zsc {l:Expr} {f:VE->Option D} (h:PE X l (tQ X.K M H0 f)):PI X tg l (tI X.K M H0 fun ρ=>(f ρ).bind Zqh):=(ZsZ h).mono fun σ H R' ⟨ρ,ds,R,e,q⟩=>by
 try dsimp only at e q
 cases hf:f ρ with
 | none=>rw [hf] at e;cases e
 | some d =>
  rw [hf] at e
  cases d with
  | tup xs =>
   cases e
   refine ⟨ρ,.tup _,R,hf,fun v H1 s1 hv=>?_⟩
   simp only [DenQ,Den] at hv
   obtain ⟨a,vs,e1,hr,hd⟩:=hv
   refine ⟨a,e1,⟨vs,hr⟩,q _ H1 s1 fun N2 H2 S i=>?_⟩
   have hr2:=hr.step S
   have hd2:=DenL.step S _ _ hd
   refine ⟨fun d he=>?_,fun he=>⟨vs,hr2,by rw [he,hd.length];exact Qau _⟩⟩
   obtain ⟨w,hw,hdw⟩:=hd2.get he
   refine ⟨⟨vs,w,hr2,hw⟩,fun x H3 y=>?_⟩
   obtain ⟨e3,y⟩:=y
   subst e3
   have:=y vs hr2
   rw [hw] at this;cases this
   exact ⟨Same.refl _,hdw⟩
  | _=>cases e
theorem Zty {l:Expr} {f:VE->Option D} (h:PE X l (tQ K M H0 f)):PI X tg l (tI K M H0 fun ρ=>(f ρ).bind ZpH):=(Zsi h).mono fun σ H R' ⟨ρ,ds,R,e,q⟩=>by
 try dsimp only at e q
 cases hf:f ρ with
 | none=>rw [hf] at e;cases e
 | some d =>
  rw [hf] at e
  cases d with
  | str x =>
   cases e
   refine ⟨ρ,.str x,R,hf,fun v H1 s1 hv=>?_⟩
   simp only [DenQ,Den] at hv
   refine ⟨x,hv,q _ H1 s1 fun N2 H2 S i=>⟨fun d he=>?_,fun he=>?_⟩⟩
   ·rw [Qa1] at he
    cases hc:x.cps.toList[i]? with
    | none=>rw [hc] at he;cases he
    | some c =>
     rw [hc] at he;cases he
     have hi:i<x.cps.size:=by
      have:=(List.getElem?_eq_some_iff.mp hc).1
      simpa using this
     refine ⟨hi,fun v H3 y=>?_⟩
     obtain ⟨e3,c',hc',y⟩:=y
     subst e3 y
     rw [<- QcJ,hc] at hc';cases hc'
     exact ⟨Same.refl _,by simp only [Den]⟩
   ·have:i=x.cps.size:=by simpa using he
    exact Nat.le_of_eq this.symm
  | _=>cases e
def Zb3 (lo:Int) (n:Nat):List D:=(Qaw n).map (fun (k:Nat)=>D.int (lo+(k:Int)))
theorem Zom {M N:Fb} {H1:Hp} {lo:Int} {n:Nat}:Zlk K M N H1 (Itr lo n) (Zb3 lo n):=fun N2 H2 S i=>by
 refine ⟨fun d he=>?_,fun he=>?_⟩
 ·have hi:i<n:=by
   have:=(List.getElem?_eq_some_iff.mp he).1
   simpa [Zb3] using this
  have e:d=D.int (lo+i):=by
   simp only [Zb3,Qa1,List.getElem?_range hi,QbH,Option.some.injEq] at he
   exact he.symm
  subst e
  refine ⟨hi,fun x H3 y=>?_⟩
  obtain ⟨e3,y⟩:=y
  subst e3 y
  exact ⟨Same.refl _,by simp only [Den]⟩
 ·have:i=n:=by simpa [Zb3] using he
  exact Nat.le_of_eq this.symm
noncomputable def gd {α:Type} (p:Prop) (o:Option α):Option α:=@ite _ p (Qdc p) o none
theorem ZgF {α:Type} {p:Prop} {o:Option α} (h:p):gd p o=o:=by unfold gd;exact @if_pos _ (Qdc p) h _ _ _
theorem Zkk {α:Type} {p:Prop} {o:Option α} {x:α} (h:gd p o=some x):p/\o=some x:=by
 by_cases hp:p
 ·rw [ZgF hp] at h;exact ⟨hp,h⟩
 ·unfold gd at h
  rw [@if_neg _ (Qdc p) hp] at h
  cases h
noncomputable def ZcN:List D->Option (List D)
 | [.int j]=>gd (-1000000000<=j/\j<1000000000) (some (Zb3 0 j.toNat))
 | _=>none
noncomputable def Ziu:List D->Option (List D)
 | [.int i,.int j]=>gd (-1000000000<=i/\i<1000000000 /\ -1000000000<=j/\j<1000000000) (some (Zb3 i (j-i).toNat))
 | _=>none
theorem Za1 {a:Expr} {fa:VE->Option (List Sl)} {p:Pos} (hg:Gl X "range") (hm:X.mg "range"=none) (ha:JA X [a] (tA' K M H0 fa)) (hs:Qas [a] X.env=[(false,eval a X.env)]:=by rfl):JI X tg (.Call (.Name "range" p) [a] [] pos) (tI K M H0 fun ρ=>((fa ρ).bind Zz).bind ZcN):=⟨have ha:=ha.h;(Zor hg hm ha hs).mono fun σ H R' ⟨ρ,ds,R,e,q⟩=>by
  try dsimp only at e q
  cases hf:fa ρ with
  | none=>rw [hf] at e;cases e
  | some ss =>
   rw [hf] at e
   cases hv:Zz ss with
   | none=>simp only [Qah,hv] at e;cases e
   | some l =>
    simp only [Qah,hv] at e
    unfold ZcN at e
    split at e
    ·next j =>
     obtain ⟨hz,e⟩:=Zkk e
     cases e
     refine ⟨ρ,ss,R,hf,fun vs H1 s1 h1=>?_⟩
     have hd:=Zeb h1 hv
     simp only [DenL,Den] at hd
     obtain ⟨v,r,e1,e2,e3⟩:=hd
     subst e1 e2 e3
     exact ⟨j,rfl,by omega,by omega,q _ H1 s1 Zom⟩
    ·cases e⟩
theorem ZlB {a b:Expr} {fa:VE->Option (List Sl)} {p:Pos} (hg:Gl X "range") (hm:X.mg "range"=none) (ha:JA X [a,b] (tA' K M H0 fa)) (hs:Qas [a,b] X.env=[(false,eval a X.env),(false,eval b X.env)]:=by rfl) (hs2:Qas [b] X.env=[(false,eval b X.env)]:=by rfl):JI X tg (.Call (.Name "range" p) [a,b] [] pos) (tI K M H0 fun ρ=>((fa ρ).bind Zz).bind Ziu):=⟨have ha:=ha.h;(Zot hg hm ha hs hs2).mono fun σ H R' ⟨ρ,ds,R,e,q⟩=>by
  try dsimp only at e q
  cases hf:fa ρ with
  | none=>rw [hf] at e;cases e
  | some ss =>
   rw [hf] at e
   cases hv:Zz ss with
   | none=>simp only [Qah,hv] at e;cases e
   | some l =>
    simp only [Qah,hv] at e
    unfold Ziu at e
    split at e
    ·next i j =>
     obtain ⟨hz,e⟩:=Zkk e
     cases e
     refine ⟨ρ,ss,R,hf,fun vs H1 s1 h1=>?_⟩
     have hd:=Zeb h1 hv
     simp only [DenL,Den] at hd
     obtain ⟨v,r,e1,e2,v',r',e3,e4,e5⟩:=hd
     subst e2 e4 e5 e3 e1
     exact ⟨i,j,rfl,⟨by omega,by omega,by omega,by omega⟩,q _ H1 s1 Zom⟩
    ·cases e⟩
end
end L2
namespace L2
open PySem PySem.Spec PyProof.Rows
def tGs (K:Qab) (M:Fb) (H0:Hp) (ws:List Nat) (b:List D->VE->Option VE):TGs:=fun vs σ H Q=>∃ ρ ds ρ',Rel K M H0 ρ σ H/\DenL K (Nf M ρ σ) H ds vs/\b ds ρ=some ρ'/\∀ σ' ,Rel K M H0 ρ' σ' H->Step M (Nf M ρ σ) (Nf M ρ' σ') H H->(∀ j,j∉ws->σ'[j]?=σ[j]?)->Q σ' H
@[simp] def Zam:List D->VE->Option VE
  | [],ρ=>some ρ
  | _,_=>none
@[simp] def Zy (b:D->VE->Option VE) (c:List D->VE->Option VE):List D->VE->Option VE
  | d::r,ρ=>(b d ρ).bind (c r)
  | _,_=>none
@[simp] def Zaf (n:Nat) (b:List D->VE->Option VE):D->VE->Option VE
  | .tup ds,ρ=>if ds.length=n then b ds ρ else none
  | _,_=>none
section
variable {X:Cx} {K:Qab} {M:Fb} {H0:Hp} {pos:Pos} {e tg iter:Expr} {es:List Expr} {ws ws':List Nat} {b:D->VE->Option VE} {c:List D->VE->Option VE}
theorem ZaJ :JK X [] (tGs K M H0 [] Zam):=⟨by
 intro pins s σ H vs us Q I r ⟨ρ,ds,ρ',R,hd,e,q⟩
 cases ds with
 | nil =>
  cases e
  simp only [DenL] at hd
  exact Zrx pins s σ H vs us Q I r ⟨hd,q σ R Step.refl fun _ _=>rfl⟩
 | cons=>cases e⟩
theorem ZI (h1:JG X e (tG K M H0 ws b)) (h2:JK X es (tGs K M H0 ws' c)) (hs:(QbS (e::es) X.env).map (·.2)=assign e X.env::(QbS es X.env).map (·.2):=by rfl):JK X (e::es) (tGs K M H0 (ws++ws') (Zy b c)):=⟨have h1:=h1.h;have h2:=h2.h;by
 intro pins s σ H vs us Q I r ⟨ρ,ds,ρ',R,hd,e,q⟩
 cases ds with
 | nil=>cases e
 | cons d ds =>
  simp only [DenL] at hd
  obtain ⟨v,vr,e1,hv,hr⟩:=hd
  subst e1
  simp only [Zy] at e
  cases hb:b d ρ with
  | none=>rw [hb] at e;cases e
  | some ρ1 =>
   rw [hb] at e
   refine Zqb h1 h2 hs pins s σ H _ us Q I r ⟨v,vr,rfl,ρ,d,ρ1,R,hv,hb,fun σ1 R1 S1 w1=>⟨ρ1,ds,ρ',R1,DenL.step S1 _ _ hr,e,fun σ2 R2 S2 w2=>q σ2 R2 (S1.trans S2) fun j hj=>?_⟩⟩
   rw [List.mem_append,not_or] at hj
   rw [w2 j hj.2,w1 j hj.1]⟩
theorem Za5 {k n:Nat} (hc:X.calm=true) (h:JK X es (tGs X.K M H0 ws c)) (hn:(QbS es X.env).length=n:=by rfl) (hst:(QbS es X.env).findIdx? (·.1)=none:=by rfl):JG X (.Tuple es k pos) (tG X.K M H0 ws (Zaf n c)):=⟨have h:=h.h;by
 intro pins s σ H v u Q I r ⟨ρ,d,ρ',R,hd,e,q⟩
 cases d with
 | tup ds =>
  simp only [Zaf] at e
  split at e
  ·next hl =>
   simp only [Den] at hd
   obtain ⟨a,vs,e1,hq,hd⟩:=hd
   exact Zsh hc h hn hst pins s σ H v u Q I r ⟨a,vs,e1,hq,by rw [<- hd.length];exact hl,ρ,ds,ρ',R,hd,e,q⟩
  ·cases e
 | _=>cases e⟩
end
@[simp] def Zp4:Option Sl->Sl
  | some (.val d)=>.val d
  | some (.own xs b)=>.lent xs b
  | some (.lent xs b)=>.lent xs b
  | _=>.no
@[simp] def ZT (k:Nat) (oix:List Nat) (ρ:VE):VE:=QaT k .no++oix.map fun j=>Zp4 ρ[j]?
def Z8 (b:D->VE->Option VE) (t:VE->Option Bool) (e:VE->Option D) (ρ:VE):List D->Option (List D)
 | []=>some []
 | d::ds=>match b d ρ with
  | none=>none
  | some ρ1=>match t ρ1 with
   | some true=>Zb (e ρ1) (Z8 b t e ρ ds)
   | some false=>Z8 b t e ρ ds
   | none=>none
@[simp] def ZQ (k:Nat) (oix:List Nat) (f:VE->Option (List D)) (b:D->VE->Option VE) (t:VE->Option Bool) (e:VE->Option D):VE->Option (List D):=fun ρ=>(Zu (f ρ)).bind (Z8 b t e (ZT k oix ρ))
section
variable {X:Cx} {K:Qab} {M:Fb} {H0:Hp} {pos:Pos} {tg elt iter:Expr} {ifs:List Expr} {scope:Scope} {ws:List Nat} {f:VE->Option (List D)} {b:D->VE->Option VE} {t:VE->Option Bool} {e:VE->Option D} {k:Nat} {oix:List Nat}
theorem Rel.comp {ρ:VE} {σ:St} {H:Hp} (R:Rel K M H0 ρ σ H) (k:Nat) (oix:List Nat):Rel K (Nf M ρ σ) H (ZT k oix ρ) (ZaU k oix σ) H/\∀ a,Nf (Nf M ρ σ) (ZT k oix ρ) (ZaU k oix σ) a->Nf M ρ σ a:=by
 have noown:∀ (j:Nat) (xs:List D) (fl:Bool),(ZT k oix ρ)[j]?≠some (Sl.own xs fl):=fun j xs fl h=>by
  unfold ZT at h
  rw [QcV] at h
  split at h
  ·rw [Qbj] at h
   split at h<;>cases h
  ·rw [Qa1] at h
   cases ho:oix[j-(QaT k Sl.no).length]? with
   | none=>rw [ho] at h;cases h
   | some o =>
    rw [ho] at h
    simp only [QbH,Option.some.injEq] at h
    unfold Zp4 at h
    split at h<;>cases h
 have nf:∀ a,Nf (Nf M ρ σ) (ZT k oix ρ) (ZaU k oix σ) a->Nf M ρ σ a:=fun a h=>by
  rcases h with h | ⟨j,xs,fl,h,_⟩
  ·exact h
  ·exact absurd h (noown j xs fl)
 refine ⟨⟨by simp [ZT,ZaU],Same.refl H,R.nh,fun j s h=>?_,fun i j xs ys fl fl' a h=>absurd h (noown i xs fl)⟩,nf⟩
 unfold ZT at h
 rw [QcV] at h
 split at h
 ·rw [Qbj] at h
  split at h
  ·cases h;trivial
  ·cases h
 ·next hge =>
  rw [Qa1] at h
  have hσ:(ZaU k oix σ)[j]?=(oix[j-k]?).map fun i=>(σ[i]?).join:=by
   unfold ZaU
   rw [Qch (by simpa using hge),Qa1]
   simp
  rw [hσ]
  simp only [QbB] at h
  cases ho:oix[j-k]? with
  | none=>rw [ho] at h;cases h
  | some o =>
   rw [ho] at h
   simp only [QbH,Option.some.injEq] at h
   simp only [QbH,Option.join_some]
   unfold Zp4 at h
   split at h
   ·next d hd=>subst h;obtain ⟨v,e1,q⟩:=R.slot o _ hd;exact ⟨v,e1,q.nw fun a ha=>.inl (nf a ha)⟩
   ·next xs fl hd =>
    subst h
    obtain ⟨a,vs,e1,z1,z2,z3,z4⟩:=R.slot o _ hd
    exact ⟨a,vs,e1,.inr ⟨o,xs,fl,hd,join_some e1⟩,.inl z3,z4.nw fun a ha=>.inl (nf a ha)⟩
   ·next xs hd =>
    subst h
    obtain ⟨a,vs,e1,z1,z2,z3⟩:=R.slot o _ hd
    exact ⟨a,vs,e1,.inl z1,z2,z3.nw fun a ha=>.inl (nf a ha)⟩
   ·subst h;trivial
def Ztm (K:Qab) (ws:List Nat) (b:D->VE->Option VE):TG:=fun v σ H Q=>∃ M H0,tG K M H0 ws b v σ H Q
def Zsg (K:Qab) (t:VE->Option Bool):TT:=fun σ H Q=>∃ M H0,tB' K M H0 t σ H Q
def ZsU (K:Qab) (e:VE->Option D):TE:=fun σ H Q=>∃ M H0,tD K M H0 e σ H Q
theorem ZrR (hw:∀ j∈ws,j<k) {wi:TI} (hi:∀ σ H R,tI K M H0 f σ H R->wi σ H R) {σ:St} {H:Hp} {Q:VK} (h:tF K M H0 (ZQ k oix f b t e) σ H Q):Zqj k oix wi (Ztm K ws b) (Zsg K t) (ZsU K e) σ H Q:=by
 obtain ⟨ρ,xs,R,ex,q⟩:=h
 try dsimp only at ex q
 unfold ZQ at ex
 cases hf:Zu (f ρ) with
 | none=>rw [hf] at ex;cases ex
 | some ds =>
  rw [hf] at ex
  obtain ⟨hf,hz⟩:=ZfP hf
  have ex:Z8 b t e (ZT k oix ρ) ds=some xs:=ex
  refine hi _ _ _ ⟨ρ,ds,R,hf,fun J H1 s1 ok=>?_⟩
  refine ⟨ds.length,fun i ys H2=>i<=ds.length/\ys.length<=i/\Same H1 H2/\∃ acc Zaa,DenL K (Nf M ρ σ) H2 acc ys/\Z8 b t e (ZT k oix ρ) (ds.drop i)=some Zaa/\acc++Zaa=xs,⟨Nat.zero_le _,Qau _,Same.refl _,[],xs,DenL.nil,ex,rfl⟩,?_⟩
  rintro i ys H2 ⟨hle,hy,s2,acc,Zaa,hacc,hc,hx⟩
  obtain ⟨ok1,ok2⟩:=ok _ H2 (Step.of_same s2) i
  by_cases hlt:i<ds.length
  ·obtain ⟨go,y⟩:=ok1 ds[i] (QaF hlt)
   rw [Qcl hlt] at hc
   simp only [Z8] at hc
   refine .inr ⟨go,hlt,by omega,fun ys' H'=>ys'.length<=i+1/\Same H1 H'/\∃ acc Zaa,DenL K (Nf M ρ σ) H' acc ys'/\Z8 b t e (ZT k oix ρ) (ds.drop (i+1))=some Zaa/\acc++Zaa=xs,fun ys' H' z=>⟨hlt,z⟩,fun x H3 yl=>?_⟩
   obtain ⟨s3,hd⟩:=y x H3 yl
   have R3:=((R.st s1).st s2).st s3
   obtain ⟨Rc,nf⟩:=R3.comp k oix
   cases hb:b ds[i] (ZT k oix ρ) with
   | none=>rw [hb] at hc;cases hc
   | some ρ1 =>
    rw [hb] at hc
    simp only at hc
    refine ⟨Nf M ρ σ,H3,ZT k oix ρ,ds[i],ρ1,Rc,hd.nw fun a ha=>.inl (nf a ha),hb,fun σ4 R4 S4 w4=>⟨?_,?_⟩⟩
    ·apply QbY
     intro j
     rw [Qc6,Qc6]
     exact w4 _ fun hj=>absurd (hw _ hj) (by omega)
    ·cases ht:t ρ1 with
     | none=>rw [ht] at hc;cases hc
     | some bb =>
      rw [ht] at hc
      refine ⟨Nf M ρ σ,H3,ρ1,bb,R4,ht,fun H5 s5=>?_⟩
      cases bb with
      | true =>
       simp only at hc
       obtain ⟨yd,rest',e1,e2,e3⟩:=Zeu hc
       refine Zh5 ?_
       refine ⟨Nf M ρ σ,H3,ρ1,yd,R4.st s5,e1,fun v H6 s6 hv=>⟨?_,((s2.trans s3).trans s5).trans s6,acc++[yd],rest',(hacc.same ((s3.trans s5).trans s6)).append (DenL.cons (hv.nw fun a ha=>.inl (.inl ha)) DenL.nil),e2,?_⟩⟩
       ·simp only [Qbg,List.length_singleton];omega
       ·subst e3;rw [<- hx];simp
      | false =>
       refine Zh4 ?_
       exact ⟨by omega,(s2.trans s3).trans s5,acc,Zaa,hacc.same (s3.trans s5),hc,hx⟩
  ·have ei:i=ds.length:=by omega
   rw [QcD (by omega)] at hc
   cases hc
   rw [Qa9] at hx
   subst hx
   exact .inl ⟨ok2 ei,by omega,fun p hp=>Zgx (s1.trans s2) hp hacc q⟩
theorem PG.all {Y:Cx} (h:∀ M H0,PG Y tg (tG K M H0 ws b)):PG Y tg (Ztm K ws b):=fun pins s σ H v u Q I r ⟨M,H0,z⟩=>h M H0 pins s σ H v u Q I r z
theorem PFs.all {Y:Cx} (h:∀ M H0,PFs Y ifs (tB' K M H0 t)):PFs Y ifs (Zsg K t):=fun pins s σ H Q I ⟨M,H0,z⟩=>h M H0 pins s σ H Q I z
theorem PE.all {Y:Cx} (h:∀ M H0,PE Y elt (tD K M H0 e)):PE Y elt (ZsU K e):=fun pins s σ H Q I ⟨M,H0,z⟩=>h M H0 pins s σ H Q I z
theorem Z3 {Y:Cx}:JF Y [] (tB' K M H0 fun _=>some true):=⟨fun pins s σ H Q I ⟨ρ,b,R,e,q⟩=>ZsM pins s σ H Q I (by cases e;exact q H (Same.refl H))⟩
theorem Zrw (own outs:List Str) (oix:List Nat) (S:Zac own outs scope X.env.scope) (hox:oix.map (fun j=>X.N[j]?)=outs.map some) (hc:X.calm=true) (hi:PI X tg iter (tI K M H0 f))
  (hg:∀ C s2 H2 fp pins M' H',PG (cxC X own outs scope C s2 H2 fp pins) tg (tG K M' H' ws b))
  (ht:∀ C s2 H2 fp pins M' H',PFs (cxC X own outs scope C s2 H2 fp pins) ifs (tB' K M' H' t))
  (he:∀ C s2 H2 fp pins M' H',PE (cxC X own outs scope C s2 H2 fp pins) elt (tD K M' H' e)) (hw:∀ j∈ws,j<own.length)
  (hs:∀ x,QcG iter X.env x=pure x:=by intro _;rfl) :
  PE X (.ListComp elt [⟨tg,iter,ifs,0⟩] scope pos) (tF K M H0 (ZQ own.length oix f b t e)) :=
 (Zrh own outs oix S hox hc hi (fun C s2 H2 fp pins=>PG.all (hg C s2 H2 fp pins)) (fun C s2 H2 fp pins=>PFs.all (ht C s2 H2 fp pins)) (fun C s2 H2 fp pins=>PE.all (he C s2 H2 fp pins)) hs).mono
  fun _ _ _ z=>ZrR hw (fun _ _ _ z=>z) z
theorem Z0 (own outs:List Str) (oix:List Nat) (S:Zac own outs scope X.env.scope) (hox:oix.map (fun j=>X.N[j]?)=outs.map some) (hc:X.calm=true) (hi:JI X tg iter (tI K M H0 f)) (hg:∀ C s2 H2 fp pins M' H',JG (cxC X own outs scope C s2 H2 fp pins) tg (tG K M' H' ws b)) (ht:∀ C s2 H2 fp pins M' H',JF (cxC X own outs scope C s2 H2 fp pins) ifs (tB' K M' H' t)) (he:∀ C s2 H2 fp pins M' H',JE (cxC X own outs scope C s2 H2 fp pins) elt (tD K M' H' e)) (hw:∀ j∈ws,j<own.length) (hs:∀ x,QcG iter X.env x=pure x:=by intro _;rfl):JE X (.ListComp elt [⟨tg,iter,ifs,0⟩] scope pos) (tF K M H0 (ZQ own.length oix f b t e)):=⟨Zrw own outs oix S hox hc hi.h (fun C s2 H2 fp pins M' H'=>(hg C s2 H2 fp pins M' H').h) (fun C s2 H2 fp pins M' H'=>(ht C s2 H2 fp pins M' H').h) (fun C s2 H2 fp pins M' H'=>(he C s2 H2 fp pins M' H').h) hw hs⟩
end
def fnP (np n:Nat) (g:VE->Res):List Sl->Option Rv:=fun ss=>if ss.length=np then
  match g (ss++QaT (n-np) .no) with
  | .ret r=>some r
  | .next _=>some (.val .non)
  | _=>none
 else none
theorem ZiL {K:Qab} {N:Fb} {H:Hp} {ss:List Sl} {vs:List V} (nh:∀ a,N a->H a≠none) (h:ArgsOk K N H ss vs) (n:Nat):Rel K N H (ss++QaT n .no) (vs.map some++QaT n none) H:=by
 have hl:=h.length
 have noown:∀ (j:Nat) (xs:List D) (fl:Bool),(ss++QaT n Sl.no)[j]?≠some (Sl.own xs fl):=fun j xs fl e=>by
  rw [QcV] at e
  split at e
  ·obtain ⟨v,_,q⟩:=h.get e;exact q
  ·rw [Qbj] at e
   split at e<;>cases e
 have nf:∀ a,Nf N (ss++QaT n Sl.no) (vs.map some++QaT n none) a->N a:=fun a z=>by
  rcases z with z | ⟨j,xs,fl,z,_⟩
  ·exact z
  ·exact absurd z (noown j xs fl)
 refine ⟨by simp [hl],Same.refl H,nh,fun j s e=>?_,fun i j xs ys fl fl' a z=>absurd z (noown i xs fl)⟩
 rw [QcV] at e
 split at e
 ·next hj =>
  obtain ⟨v,ev,q⟩:=h.get e
  rw [QbA (by simpa [<- hl] using hj),Qa1,ev]
  cases s with
  | val d=>exact ⟨v,rfl,Den.nw q fun a ha=>.inl (nf a ha)⟩
  | lent xs fl=>obtain ⟨a,us,e1,z1,z2,z3⟩:=q;exact ⟨a,us,by rw [e1];rfl,z1,z2,z3.nw fun a ha=>.inl (nf a ha)⟩
  | no=>trivial
  | own xs fl=>exact QaJ q
  | exc c=>exact QaJ q
 ·rw [Qbj] at e
  split at e
  ·cases e;trivial
  ·cases e
theorem Zut {P:Qav} {w:World} {K:Qab} {mg:Str->Option Value} {base:Heap} {x qual:Str} {st:Stmt} {f:Addr} {fd:QaH} {N ps:List Str} {k:Nat} {g:VE->Res} (F:Fun K x qual st f fd) (S:ZD N ps (Zg st)) (hnp:ps.length<=N.length)
  (hb:∀ (cdv:Value) (A:Around) (outer:List Env) (s:Shared) (H:Hp) (E:XK) (M:Fb) (H0:Hp),Room k (A.deeper (envOfC qual (Zg st) s.heap.objs.size f cdv)) ->
   PSs (ZeH CX0 P w K mg base N qual (Zg st) f cdv A outer s H E).nox (ZB st) (tS K M H0 g)):FnOk P w K mg base CX0 (k+1) f fd ps (spD K (fnP ps.length N.length g)):=by
 refine F.ok S (fun vs H Q E h=>?_) (fun cdv A outer s H vs Q E hr h=>?_)
 ·obtain ⟨N',ss,r,nh,ha,hF,q⟩:=h
  unfold fnP at hF
  split at hF
  ·next hl=>rw [<- ha.length];exact hl
  ·cases hF
 ·obtain ⟨N',ss,r,nh,ha,hF,q⟩:=h
  refine ⟨_,hb cdv A outer s H E N' H hr,?_⟩
  unfold fnP at hF
  split at hF
  ·next hl =>
   have hs:Zcq N vs=vs.map some++QaT (N.length-ps.length) none:=by unfold Zcq;rw [<- ha.length,hl]
   rw [hs]
   refine ⟨_,ZiL nh ha (N.length-ps.length),?_⟩
   cases hg:g (ss++QaT (N.length-ps.length) .no) with
   | fail=>rw [hg] at hF;cases hF
   | next ρ'=>rw [hg] at hF;cases hF;exact fun σ' H' R' S'=>q .non H' R'.same (by simp only [Znf,Den])
   | brk ρ'=>rw [hg] at hF;cases hF
   | cont ρ'=>rw [hg] at hF;cases hF
   | ret r'=>rw [hg] at hF;cases hF;exact fun v H' s hv=>q v H' s hv
  ·cases hF
theorem ZW {P:Qav} {w:World} {K:Qab} {mg:Str->Option Value} {base:Heap} {x qual:Str} {st:Stmt} {f:Addr} {fd:QaH} {N ps:List Str} {k:Nat} {g:VE->Res} (F:Fun K x qual st f fd) (S:ZD N ps (Zg st)) (hnp:ps.length<=N.length)
  (hb:∀ (cdv:Value) (A:Around) (outer:List Env) (s:Shared) (H:Hp) (E:XK) (M:Fb) (H0:Hp),Room k (A.deeper (envOfC qual (Zg st) s.heap.objs.size f cdv)) ->
   JB (ZeH CX0 P w K mg base N qual (Zg st) f cdv A outer s H E).nox (ZB st) (tS K M H0 g)):FnOk P w K mg base CX0 (k+1) f fd ps (spD K (fnP ps.length N.length g)) :=
 Zut F S hnp fun cdv A outer s H E M H0 hr=>(hb cdv A outer s H E M H0 hr).h
theorem ZsQ {P:Qav} {w:World} {K:Qab} {mg:Str->Option Value} {base:Heap} {k:Nat} {f:Addr} {fd:QaH} {F:List Sl->Option Rv} (G:FnOk P w K mg base CX0 k f fd ["_law_script"] (spD K F))
  (h:∀ ns:List Int,ns.length<=63->F [.val (.lst (ns.map D.int))]=some (.val (.bl true))):FnOk P w K mg base CX0 k f fd ["_law_script"] (Zjt K) :=
 G.imp fun vs H Q E ⟨a,ns,e,hs,hl,q⟩=>by
  refine ⟨fun _=>False,[.val (.lst (ns.map D.int))],.val (.bl true),fun _ z=>z.elim,⟨_,[],e,?_,rfl⟩,h ns hl,fun v H' s hv=>?_⟩
  ·simp only [ArgOk,Den]
   exact ⟨a,_,rfl,.of_sq hs,DenL.ints ns⟩
  ·simp only [Znf,Den] at hv
   subst hv;exact q H'
end L2
namespace L2
open PySem PySem.Spec PyProof.Rows
section
variable {K:Qab}
@[simp] def i2 (g:Int->Int->Option D):D->D->Option D
  | .int i,.int j=>g i j
  | _,_=>none
theorem Zkl {g:Int->Int->Option D} {x y d:D} (h:i2 g x y=some d):∃ i j,x=.int i/\y=.int j/\g i j=some d:=by
 unfold i2 at h
 split at h
 ·exact ⟨_,_,rfl,rfl,h⟩
 ·cases h
theorem DenP.int {N:Fb} {H:Hp} {i:Int} {v:V} (h:DenP K N H (.int i) v):v=.int i:=by simpa only [DenP,Den] using h
theorem DenP.str {N:Fb} {H:Hp} {i:Str} {v:V} (h:DenP K N H (.str i) v):v=.str i:=by simpa only [DenP,Den] using h
theorem DenP.bl {N:Fb} {H:Hp} {i:Bool} {v:V} (h:DenP K N H (.bl i) v):v=.bl i:=by simpa only [DenP,Den] using h
theorem DenP.non {N:Fb} {H:Hp} {v:V} (h:DenP K N H .non v):v=.non:=by simpa only [DenP,Den] using h
theorem DenP.ty {N:Fb} {H:Hp} {i:String} {v:V} (h:DenP K N H (.ty i) v):v=.ty i:=by simpa only [DenP,Den] using h
theorem DenP.tup {N:Fb} {H:Hp} {xs:List D} {v:V} (h:DenP K N H (.tup xs) v):∃ a vs,v=.ref a/\SqT K H a vs/\DenL K N H xs vs:=by simpa only [DenP,Den] using h
theorem ZaN {N:Fb} {H:Hp} {i:Int}:Den K N H (.int i) (.int i):=by simp only [Den]
theorem Zdo {N:Fb} {H:Hp} {i:Bool}:Den K N H (.bl i) (.bl i):=by simp only [Den]
theorem Ze6 {N:Fb} {H:Hp} {i:Str}:Den K N H (.str i) (.str i):=by simp only [Den]
theorem Zus (g:Int->Int->Int):R2D K (rI0 fun i j=>.int (g i j)) (i2 fun i j=>some (.int (g i j))):=by
 intro N H x y d1 d2 d Q nh h1 h2 e q
 obtain ⟨i,j,rfl,rfl,e⟩:=Zkl e
 cases e
 exact ⟨i,j,h1.int,h2.int,q _ H (Same.refl H) ZaN⟩
theorem Zna (g:Int->Int->Bool):R2D K (rI0 fun i j=>.bl (g i j)) (i2 fun i j=>some (.bl (g i j))):=by
 intro N H x y d1 d2 d Q nh h1 h2 e q
 obtain ⟨i,j,rfl,rfl,e⟩:=Zkl e
 cases e
 exact ⟨i,j,h1.int,h2.int,q _ H (Same.refl H) Zdo⟩
theorem Zmz {C:Int->Int->Prop} [∀ i j,Decidable (C i j)] (g:Int->Int->Int):R2D K (rI C fun i j=>.int (g i j)) (i2 fun i j=>if C i j then some (.int (g i j)) else none):=by
 intro N H x y d1 d2 d Q nh h1 h2 e q
 obtain ⟨i,j,rfl,rfl,e'⟩:=Zkl e
 split at e'
 ·next hc=>cases e';exact ⟨i,j,h1.int,h2.int,hc,q _ H (Same.refl H) ZaN⟩
 ·cases e'
instance (i j:Int):Decidable (ZaR i j):=by unfold ZaR;exact inferInstance
instance (i j:Int):Decidable (CMul i j):=by unfold CMul;exact inferInstance
instance (i j:Int):Decidable (Zft i j):=by unfold Zft;exact inferInstance
@[simp] def Zhb:D->D->Option D:=i2 fun i j=>some (.int (i-j))
@[simp] def ZdF:D->D->Option D:=i2 fun i j=>if CMul i j then some (.int (i * j)) else none
@[simp] def ZaF:D->D->Option D:=i2 fun i j=>if ZaR i j then some (.int (i / j)) else none
@[simp] def ZZ:D->D->Option D:=i2 fun i j=>if 0<j then some (.int (i%j)) else none
@[simp] def Znt:D->D->Option D:=i2 fun i j=>if Zft i j then some (.int (i^j.toNat)) else none
@[simp] def leD:D->D->Option D:=i2 fun i j=>some (.bl (decide (i<=j)))
@[simp] def gtD:D->D->Option D:=i2 fun i j=>some (.bl (decide (j<i)))
@[simp] def geD:D->D->Option D:=i2 fun i j=>some (.bl (decide (j<=i)))
section
variable {X:Cx} {M:Fb} {H0:Hp} {a b:Expr} {f g:VE->Option D} {pos:Pos}
theorem ZfJ (ha:JE X a (tP K M H0 f)) (hb:JE X b (tP K M H0 g)):JE X (.BinOp a .Sub b pos) (tD K M H0 (Zf Zhb f g)):=⟨have ha:=ha.h;have hb:=hb.h;ZgY Zr6 (Zus _) ha hb⟩
theorem Zbl (ha:JE X a (tP K M H0 f)) (hb:JE X b (tP K M H0 g)):JE X (.BinOp a .Mult b pos) (tD K M H0 (Zf ZdF f g)):=⟨have ha:=ha.h;have hb:=hb.h;ZgY Zsy (Zmz _) ha hb⟩
theorem Zai (ha:JE X a (tP K M H0 f)) (hb:JE X b (tP K M H0 g)):JE X (.BinOp a .FloorDiv b pos) (tD K M H0 (Zf ZaF f g)):=⟨have ha:=ha.h;have hb:=hb.h;ZgY ZrI (Zmz _) ha hb⟩
theorem ZE (ha:JE X a (tP K M H0 f)) (hb:JE X b (tP K M H0 g)):JE X (.BinOp a .Mod b pos) (tD K M H0 (Zf ZZ f g)):=⟨have ha:=ha.h;have hb:=hb.h;ZgY Ztv (Zmz _) ha hb⟩
theorem Zj9 (ha:JE X a (tP K M H0 f)) (hb:JE X b (tP K M H0 g)):JE X (.BinOp a .Pow b pos) (tD K M H0 (Zf Znt f g)):=⟨have ha:=ha.h;have hb:=hb.h;ZgY ZtD (Zmz _) ha hb⟩
@[simp] def ZjE:Option D->Option D
  | some (.int i)=>some (.int (-i))
  | _=>none
theorem ZjN (ha:JE X a (tP K M H0 f)):JE X (.UnaryOp .USub a pos) (tD K M H0 fun ρ=>ZjE (f ρ)):=⟨have ha:=ha.h;(ZtK ZsP ha).mono fun σ H Q ⟨ρ,d,R,e,q⟩=>by
 try dsimp only at e q
 unfold ZjE at e
 split at e
 ·next i hf=>cases e;exact ⟨ρ,.int i,R,hf,fun v H' s hv=>⟨i,hv.int,q _ H' s ZaN⟩⟩
 ·cases e⟩
end
end
section
variable {X:Cx}
def Zqn (K:Qab):R2:=fun x y H Q=>∃ l b xs zs,x=.ref l/\y=.ref b/\SqL K H l xs/\SqL K H b zs/\xs.length+zs.length<=Qaj/\∀ p,H p=none->Q (.ref p) (upd H p (.lst (xs++zs)))
theorem op_catG:OpR X (Qco .Add) (Zqn X.K):=by
 intro pins s σ H x y v u Q I rx ry h
 obtain ⟨l,b,xs,zs,rfl,rfl,hH,hB,hz,q⟩:=h
 cases rx
 cases ry
 obtain ⟨its,r,p1,z1⟩:=I.list hH
 obtain ⟨its2,r2,p2,z2⟩:=I.list hB
 have hl:=r.length
 have hl2:=r2.length
 obtain ⟨⟨cls,dd,data,sl⟩,ho,hc,n,hd⟩:=p1.isList
 obtain ⟨⟨cls2,dd2,data2,sl2⟩,ho2,hc2,n2,hd2⟩:=p2.isList
 simp only at hc hd hc2 hd2
 subst hc hd hc2 hd2
 have e:its.toArray++its2.toArray=(its++its2).toArray:=by simp
 refine concat_meets ⟨_,ho,rfl⟩ ⟨_,ho2,rfl⟩ noFill_list_add seq_list_add PySem.F.slot_list_add PySem.F.entry_list_add (PySem.F.args_list_add_2 _ _) (list_addW l b its.toArray its2.toArray n n2 dd dd2 sl sl2 (by rw [Qal,Qal];omega)) ⟨ho,ho2,?_⟩
 rw [e]
 exact ⟨.ref _,_,I.lnew (t':=s.toks) (r.append r2) (by rw [Qbg];omega),rfl,q _ I.fresh⟩
def Zn1 (K:Qab):R2:=fun x y H Q=>∃ l b xs zs,x=.ref l/\y=.ref b/\SqT K H l xs/\SqT K H b zs/\xs.length+zs.length<=Qaj /\
 (xs=[]->Q (.ref b) H)/\(zs=[]->Q (.ref l) H)/\∀ p,H p=none->Q (.ref p) (upd H p (.tup (xs++zs)))
theorem Zp8:OpR X (Qco .Add) (Zn1 X.K):=by
 intro pins s σ H x y v u Q I rx ry h
 obtain ⟨l,b,xs,zs,rfl,rfl,hH,hB,hz,qx,qz,q⟩:=h
 cases rx
 cases ry
 obtain ⟨its,r,p1,z1⟩:=I.tuple hH
 obtain ⟨its2,r2,p2,z2⟩:=I.tuple hB
 have hl:=r.length
 have hl2:=r2.length
 obtain ⟨⟨cls,dd,data,sl⟩,ho,hc,n,hd⟩:=id p1
 obtain ⟨⟨cls2,dd2,data2,sl2⟩,ho2,hc2,n2,hd2⟩:=id p2
 simp only at hc hd hc2 hd2
 subst hc hd hc2 hd2
 by_cases h1:xs=[]
 ·have hi:its.toArray.isEmpty=true:=by
   subst h1
   have:its=[]:=List.length_eq_zero_iff.mp hl.symm
   subst this;rfl
  exact concat_meets ⟨_,ho,rfl⟩ ⟨_,ho2,rfl⟩ noFill_tuple_add seq_tuple_add PySem.F.slot_tuple_add Qdd (Qc7 _ _) (tuple_addW0 l b its.toArray its2.toArray n n2 dd dd2 sl sl2 hi) ⟨ho,ho2,⟨.ref b,H,I,rfl,qx h1⟩⟩
 ·have hi:¬ its.toArray.isEmpty=true:=by
   intro z
   have:its=[]:=by simpa using z
   subst this
   exact h1 (List.length_eq_zero_iff.mp hl)
  by_cases h2:zs=[]
  ·have hi2:its2.toArray.isEmpty=true:=by
    subst h2
    have:its2=[]:=List.length_eq_zero_iff.mp hl2.symm
    subst this;rfl
   exact concat_meets ⟨_,ho,rfl⟩ ⟨_,ho2,rfl⟩ noFill_tuple_add seq_tuple_add PySem.F.slot_tuple_add Qdd (Qc7 _ _) (tuple_addW1 l b its.toArray its2.toArray n n2 dd dd2 sl sl2 hi hi2) ⟨ho,ho2,⟨.ref l,H,I,rfl,qz h2⟩⟩
  ·have hi2:¬ its2.toArray.isEmpty=true:=by
    intro z
    have:its2=[]:=by simpa using z
    subst this
    exact h2 (List.length_eq_zero_iff.mp hl2)
   have e:its.toArray++its2.toArray=(its++its2).toArray:=by simp
   refine concat_meets ⟨_,ho,rfl⟩ ⟨_,ho2,rfl⟩ noFill_tuple_add seq_tuple_add PySem.F.slot_tuple_add Qdd (Qc7 _ _) (tuple_addW2 l b its.toArray its2.toArray n n2 dd dd2 sl sl2 hi hi2 (by rw [Qal,Qal];omega)) ⟨ho,ho2,?_⟩
   rw [e]
   refine ⟨.ref s.heap.objs.size,upd H s.heap.objs.size (.tup (xs++zs)),I.laid (t':=s.toks) (fun b u e=>Qac _ e) (Qau _) ?_,rfl,q _ I.fresh⟩
   exact ⟨by rw [Qbg];omega,its++its2,r.append r2,IsTup.new _ _⟩
end
@[simp] def Zx:D->D->Option D
  | .int i,.int j=>some (.int (i+j))
  | .str x,.str y=>if x.length+y.length<=Qaj then some (.str (x++y)) else none
  | .lst xs,.lst ys=>if xs.length+ys.length<=Qaj then some (.lst (xs++ys)) else none
  | .tup xs,.tup ys=>if xs.length+ys.length<=Qaj then some (.tup (xs++ys)) else none
  | _,_=>none
def Zqs (K:Qab):R2:=fun x y H Q=>rI0 (fun i j=>.int (i+j)) x y H Q\/(∃ i j,x=.str i/\y=.str j/\i.length+j.length<=Qaj/\Q (.str (i++j)) H)\/Zqn K x y H Q\/Zn1 K x y H Q
theorem ZrH {X:Cx}:OpR X (Qco .Add) (Zqs X.K):=op_add.or (op_add_str.or (op_catG.or Zp8))
theorem ZjG {K:Qab} {N:Fb} {H:Hp} {xs:List D} {vs:List V} {p:Addr} (nh:∀ a,N a->H a≠none) (hp:H p=none) (h:DenL K N H xs vs):Den K N (upd H p (.lst vs)) (.lst xs) (.ref p):=by
 simp only [Den]
 exact ⟨p,vs,rfl,.of (fun z=>nh p z hp) Zad,h.same (ZaS hp)⟩
theorem Zc8 {K:Qab} {N:Fb} {H:Hp} {xs:List D} {vs:List V} {p:Addr} (hp:H p=none) (h:DenL K N H xs vs):Den K N (upd H p (.tup vs)) (.tup xs) (.ref p):=by
 simp only [Den]
 exact ⟨p,vs,rfl,SqT.of Zad,h.same (ZaS hp)⟩
theorem Zsb {K:Qab}:R2D K (Zqs K) Zx:=by
 intro N H x y d1 d2 d Q nh h1 h2 e q
 unfold Zx at e
 split at e
 ·cases e;exact .inl ⟨_,_,h1.int,h2.int,q _ H (Same.refl H) ZaN⟩
 ·split at e
  ·next hz=>cases e;exact .inr (.inl ⟨_,_,h1.str,h2.str,hz,q _ H (Same.refl H) Ze6⟩)
  ·cases e
 ·split at e
  ·next hz =>
   cases e
   obtain ⟨a,vs,e1,q1,r1⟩:=h1
   obtain ⟨b,ws,e2,q2,r2⟩:=h2
   exact .inr (.inr (.inl ⟨a,b,vs,ws,e1,e2,q1,q2,by rw [<- r1.length,<- r2.length];exact hz,fun p hp=>q _ _ (ZaS hp) (ZjG nh hp (r1.append r2))⟩))
  ·cases e
 ·split at e
  ·next hz =>
   cases e
   obtain ⟨a,vs,e1,q1,r1⟩:=h1.tup
   obtain ⟨b,ws,e2,q2,r2⟩:=h2.tup
   refine .inr (.inr (.inr ⟨a,b,vs,ws,e1,e2,q1,q2,by rw [<- r1.length,<- r2.length];exact hz,fun z=>?_,fun z=>?_,fun p hp=>q _ _ (ZaS hp) (Zc8 hp (r1.append r2))⟩))
   ·refine q _ H (Same.refl H) ?_
    simp only [Den]
    exact ⟨b,vs++ws,rfl,by rw [z];exact q2,r1.append r2⟩
   ·refine q _ H (Same.refl H) ?_
    simp only [Den]
    exact ⟨a,vs++ws,rfl,by rw [z,Qa9];exact q1,r1.append r2⟩
  ·cases e
 ·cases e
theorem Zv {X:Cx} {M:Fb} {H0:Hp} {a b:Expr} {f g:VE->Option D} {pos:Pos} (ha:JE X a (tP X.K M H0 f)) (hb:JE X b (tP X.K M H0 g)):JE X (.BinOp a .Add b pos) (tD X.K M H0 (Zf Zx f g)):=⟨have ha:=ha.h;have hb:=hb.h;ZgY ZrH Zsb ha hb⟩
section
variable {prog:Qav} {w:World} {A:Around} {E:Value->Shared->Prop} {s:Shared}
theorem Zf2 {t sl:Addr} {items:Array Value} {vl vu:Value} {lo hi:Option Int} {Q:Value->Shared->Prop} (ht:IsTup s.heap t items) (hs:s.heap.IsSliceOf sl vl vu .none) (pl:IsPart vl lo) (pu:IsPart vu hi)
  (hw:HT.sIx items.size 0 lo=0/\HT.sIx items.size items.size hi=items.size) (h:Q (.ref t) s):wpAny (model prog w) A (getItem (.ref t) (.ref sl)) Q E s:=by
 obtain ⟨os,hos,hcs,hds⟩:=id hs
 have hTs:s.TypeIs (.ref sl) "slice":=⟨os,hos,hcs⟩
 unfold getItem
 try with_reducible refine Qa6 ?_
 first | refine Qaa (Qae ?_) | skip
 refine Qaa (wpAny_sequenceKey ht.typeIs (by decide) ?_)
 refine Qaa (QaU (name:=QaY "__getitem__") ht.typeIs QbQ
  (Qa4 QbQ ht.typeIs entry_tuple_getitem ?_ (args_tuple_getitem _ _)))
 show wpAny _ _ (Builtin.Tuple.tupleItemsOf (.ref t) >>= _) _ _ s
 refine Qaa (PyProof.Rows.tupleItemsOf_ ht ?_)
 refine Qaa (Qcp hTs ?_)
 rw [if_pos (by decide)]
 refine Qaa (HT.sliceApplied_gen hs pl pu ?_)
 have hyes:(((HT.sIx items.size 0 lo:Nat):Int)==0&&(1:Int)==1&&(HT.sIx items.size items.size hi-HT.sIx items.size 0 lo)==items.size)=true:=by
  rw [hw.1,hw.2];simp
 show wpAny _ _ (if (((HT.sIx items.size 0 lo:Nat):Int)==0&&(1:Int)==1&&(HT.sIx items.size items.size hi-HT.sIx items.size 0 lo)==items.size)=true then _ else _) _ _ s
 rw [if_pos hyes]
 unfold Builtin.Tuple.tupleIsExact
 refine Qaa (Qaa (Qcp ht.typeIs (Qae ?_)))
 rw [if_pos (by decide)]
 exact Qaa (Qb6 (Qae ⟨_,rfl,Qae h⟩))
end
def ZtV (K:Qab):V->Option Int->Option Int->Hp->VK->Prop:=fun x lo hi H Q=>∃ a xs,x=.ref a/\SqT K H a xs/\(Zea xs lo hi=xs->Q (.ref a) H)/\∀ p,H p=none->Q (.ref p) (upd H p (.tup (Zea xs lo hi)))
theorem sl_tupG {X:Cx}:SlR X (ZtV X.K):=by
 intro pins s σ H x v vl vu lo hi sl Q I rx hs pl pu h
 obtain ⟨a,xs,rfl,hx,qw,q⟩:=h
 by_cases hw:HT.sIx xs.length 0 lo=0/\HT.sIx xs.length xs.length hi=xs.length
 ·cases rx
  obtain ⟨its,r,ht,hz⟩:=I.tuple hx
  have hlen:its.toArray.size=xs.length:=by rw [Qal];exact r.length.symm
  refine ⟨"tuple",_,PyProof.Rows.slot_tuple_getitem.lookup,ht.typeIs,Zf2 ht hs pl pu (by rw [hlen];exact hw) ⟨.ref a,H,I,rfl,qw ?_⟩⟩
  unfold Zea
  rw [hw.1,hw.2,List.drop_zero,Nat.sub_zero,List.take_length]
 ·exact Zsw pins s σ H _ v vl vu lo hi sl Q I rx hs pl pu ⟨a,xs,rfl,hx,hw,q⟩
@[simp] def ixD:D->D->Option D
  | .lst xs,.int i=>atI xs i
  | .tup xs,.int i=>atI xs i
  | .str x,.int i=>if x.length<=Qaj then (atI x.cps.toList i).map fun c=>.str ⟨#[c]⟩ else none
  | _,_=>none
theorem DenL.atI {K:Qab} {N:Fb} {H:Hp} {xs:List D} {vs:List V} {i:Int} {d:D} (h:DenL K N H xs vs) (e:L2.atI xs i=some d):∃ v,L2.atI vs i=some v/\Den K N H d v:=by
 unfold L2.atI at e ⊢
 rw [<- h.length]
 cases hj:ixN xs.length i with
 | none=>rw [hj] at e;cases e
 | some j=>rw [hj] at e;exact h.get e
theorem Zug {K:Qab}:R2D K (rIx K) ixD:=by
 intro N H x y d1 d2 d Q nh h1 h2 e q
 unfold ixD at e
 split at e
 ·obtain ⟨a,vs,e1,q1,r1⟩:=h1
  obtain ⟨v,ev,hv⟩:=r1.atI e
  exact .inl ⟨a,vs,_,v,e1,h2.int,q1,ev,q v H (Same.refl H) hv⟩
 ·obtain ⟨a,vs,e1,q1,r1⟩:=h1.tup
  obtain ⟨v,ev,hv⟩:=r1.atI e
  exact .inr (.inl ⟨a,vs,_,v,e1,h2.int,q1,ev,q v H (Same.refl H) hv⟩)
 ·split at e
  ·next z i hz =>
   cases hc:atI z.cps.toList i with
   | none=>rw [hc] at e;cases e
   | some c=>rw [hc] at e;cases e;exact .inr (.inr ⟨z,i,c,h1.str,h2.int,hz,hc,q _ H (Same.refl H) Ze6⟩)
  ·cases e
 ·cases e
section
variable {X:Cx} {K:Qab} {M:Fb} {H0:Hp} {a b e:Expr} {f g:VE->Option D} {pos p2:Pos}
theorem Zn (ha:JE X a (tP X.K M H0 f)) (hb:JE X b (tP X.K M H0 g)) (hs:Zg0 b):JE X (.Subscript a b pos) (tD X.K M H0 (Zf ixD f g)):=⟨have ha:=ha.h;have hb:=hb.h;ZqB ZsO Zug ha hb hs⟩
def tO (K:Qab) (M:Fb) (H0:Hp) (o:VE->Option (Option Int)):TO:=fun σ H Q=>∃ ρ i,Rel K M H0 ρ σ H/\o ρ=some i/\∀ H',Same H H'->Q i H'
@[simp] def asI:Option D->Option (Option Int)
  | some (.int i)=>some (some i)
  | _=>none
theorem PO.mono {e:Option Expr} {t t':TO} (h:PO X e t) (m:∀ σ H Q,t' σ H Q->t σ H Q):PO X e t':=by
 intro pins s σ H Q I q
 exact h pins s σ H Q I (m σ H Q q)
theorem ZgE :JO X none (tO K M H0 fun _=>some none):=⟨PO.mono ZqJ fun σ H Q ⟨ρ,i,R,e,q⟩=>by (try dsimp only at e q);cases e;exact q H (Same.refl H)⟩
theorem Zdp (h:JE X e (tP K M H0 f)):JO X (some e) (tO K M H0 fun ρ=>asI (f ρ)):=⟨have h:=h.h;PO.mono (ZqE h) fun σ H Q ⟨ρ,i,R,e,q⟩=>by
 try dsimp only at e q
 unfold asI at e
 split at e
 ·next j hf=>cases e;exact ⟨ρ,.int j,R,hf,fun v H' s hv=>⟨j,hv.int,q H' s⟩⟩
 ·cases e⟩
def Zcl {α:Type} (xs:List α) (lo hi:Option Int):List α:=(xs.drop (HT.sIx xs.length 0 lo)).take (HT.sIx xs.length xs.length hi-HT.sIx xs.length 0 lo)
@[simp] def slD (x:D) (lo hi:Option Int):Option D:=match x with
  | .lst xs=>some (.lst (Zcl xs lo hi))
  | .tup xs=>some (.tup (Zcl xs lo hi))
  | .str x=>if x.length<=Qaj then some (.str (Qa2 x lo hi)) else none
  | _=>none
@[simp] def slL (x:D) (lo hi:Option Int):Option (List D):=match x with
  | .lst xs=>some (Zcl xs lo hi)
  | _=>none
theorem DenL.cut {K:Qab} {N:Fb} {H:Hp} {xs:List D} {vs:List V} (h:DenL K N H xs vs) (lo hi:Option Int):DenL K N H (Zcl xs lo hi) (Zea vs lo hi):=by
 unfold Zcl Zea
 rw [h.length]
 exact (h.drop _).take _
@[simp] def sl3 {α:Type} (f:VE->Option D) (lo hi:VE->Option (Option Int)) (F:D->Option Int->Option Int->Option α):VE->Option α:=fun ρ=>(f ρ).bind fun x=>(lo ρ).bind fun l=>(hi ρ).bind fun h=>F x l h
theorem Zrq {α:Type} {f:VE->Option D} {lo hi:VE->Option (Option Int)} {F:D->Option Int->Option Int->Option α} {ρ:VE} {d:α} (h:sl3 f lo hi F ρ=some d):∃ x l u,f ρ=some x/\lo ρ=some l/\hi ρ=some u/\F x l u=some d:=by
 unfold sl3 at h
 cases hf:f ρ with
 | none=>rw [hf] at h;cases h
 | some x =>
  cases hl:lo ρ with
  | none=>rw [hf,hl] at h;cases h
  | some l =>
   cases hu:hi ρ with
   | none=>rw [hf,hl,hu] at h;cases h
   | some u=>rw [hf,hl,hu] at h;exact ⟨x,l,u,rfl,rfl,rfl,h⟩
theorem ZdN {el eu:Option Expr} {lo hi:VE->Option (Option Int)} (he:JE X e (tP X.K M H0 f)) (hl:JO X el (tO X.K M H0 lo)) (hu:JO X eu (tO X.K M H0 hi)):JE X (.Subscript e (.Slice el eu none p2) pos) (tD X.K M H0 (sl3 f lo hi slD)):=⟨have he:=he.h;have hl:=hl.h;have hu:=hu.h;(Zpj (sl_list.or (sl_tupG.or Ztp)) he hl hu).mono fun σ H Q ⟨ρ,d,R,ex,q⟩=>by
 try dsimp only at ex q
 obtain ⟨x,l,u,e1,e2,e3,e4⟩:=Zrq ex
 refine ⟨ρ,x,R,e1,fun v H1 s1 hv=>⟨ρ,l,R.st s1,e2,fun H2 s2=>⟨ρ,u,(R.st s1).st s2,e3,fun H3 s3=>?_⟩⟩⟩
 have hv:=(hv.same s2).same s3
 have s:=(s1.trans s2).trans s3
 have R3:=R.st s
 unfold slD at e4
 split at e4
 ·cases e4
  obtain ⟨a,vs,ea,qa,ra⟩:=hv
  exact .inl ⟨a,vs,ea,qa,fun p hp=>q _ _ (s.trans (ZaS hp)) (ZjG R3.nh hp (ra.cut l u))⟩
 ·cases e4
  obtain ⟨a,vs,ea,qa,ra⟩:=hv.tup
  refine .inr (.inl ⟨a,vs,ea,qa,fun z=>q _ _ s ?_,fun p hp=>q _ _ (s.trans (ZaS hp)) (Zc8 hp (ra.cut l u))⟩)
  simp only [Den]
  exact ⟨a,vs,rfl,qa,z ▸ ra.cut l u⟩
 ·split at e4
  ·next hz=>cases e4;exact .inr (.inr ⟨_,hv.str,hz,q _ _ s Ze6⟩)
  ·cases e4
 ·cases e4⟩
end
end L2
namespace L2
open PySem PySem.Spec PyProof.Rows
mutual
def eqD:D->D->Bool
 | .non,.non=>true
 | .bl a,.bl b=>a==b
 | .bl a,.int b=>(if a then 1 else 0)==b
 | .int a,.bl b=>a==(if b then 1 else 0)
 | .int a,.int b=>a==b
 | .str a,.str b=>a==b
 | .tup xs,.tup ys=>Zaj xs ys
 | .lst xs,.lst ys=>Zaj xs ys
 | _,_=>false
def Zaj:List D->List D->Bool
 | [],[]=>true
 | x::xs,y::ys=>eqD x y&&Zaj xs ys
 | _,_=>false
end
@[simp] def okD:Nat->D->Bool
  | _,.non=>true
  | _,.bl _=>true
  | _,.int _=>true
  | _,.str _=>true
  | n+1,.tup xs=>xs.all (okD n)
  | n+1,.lst xs=>xs.all (okD n)
  | _,_=>false
mutual
theorem Zko:∀ (n:Nat) (d:D),okD n d=true->eqD d d=true
 | _,.non,_=>by simp only [eqD]
 | _,.bl _,_=>by simp only [eqD,beq_self_eq_true]
 | _,.int _,_=>by simp only [eqD,beq_self_eq_true]
 | _,.str _,_=>by simp only [eqD,beq_self_eq_true]
 | 0,.ty _,h=>by simp [okD] at h
 | _+1,.ty _,h=>by simp [okD] at h
 | 0,.tup xs,h=>by simp [okD] at h
 | 0,.lst xs _,h=>by simp [okD] at h
 | n+1,.tup xs,h=>by simp only [okD] at h;simp only [eqD];exact Zdt n xs h
 | n+1,.lst xs false,h=>by simp only [okD] at h;simp only [eqD];exact Zdt n xs h
 | n+1,.lst xs true,h=>by simp [okD] at h
theorem Zdt:∀ (n:Nat) (xs:List D),xs.all (okD n)=true->Zaj xs xs=true
 | _,[],_=>by simp only [Zaj]
 | n,x::xs,h=>by
  simp only [Qc0,QaW] at h
  simp only [Zaj,QaW]
  exact ⟨Zko n x h.1,Zdt n xs h.2⟩
end
theorem Zhl:∀ {xs ys:List D},xs.length≠ys.length->Zaj xs ys=false
 | [],[],h=>absurd rfl h
 | [],_::_,_=>by simp only [Zaj]
 | _::_,[],_=>by simp only [Zaj]
 | x::xs,y::ys,h=>by
  simp only [Zaj]
  rw [Zhl (xs:=xs) (ys:=ys) (by simpa using h),Bool.and_false]
theorem Zht:∀ {xs ys:List D},xs.length=ys.length->Zaj xs ys=(Qaw xs.length).all fun j=>eqD (xs.getD j .non) (ys.getD j .non)
 | [],[],_=>by simp [Zaj]
 | [],_::_,h=>by simp at h
 | _::_,[],h=>by simp at h
 | x::xs,y::ys,h=>by
  have ih:=Zht (xs:=xs) (ys:=ys) (by simpa using h)
  simp only [Zaj,QaK,List.range_succ_eq_map,Qc0,List.getD_cons_zero,List.all_map,ih]
  rfl
section
variable {X:Cx} {pins:List (Addr×Obj)} {σ:St} {H:Hp} {s:Shared}
theorem Inv.apart (I:Inv X pins σ H s) {a:Addr} {xs ys:List V} (h:SqL X.K H a xs) (h':SqT X.K H a ys):False:=by
 obtain ⟨its,r,⟨o,n,e,c,_⟩,_⟩:=I.list h
 obtain ⟨its',r',⟨o',e',c',_⟩,_⟩:=I.tuple h'
 rw [e] at e';cases e'
 rw [c] at c'
 exact absurd c' (by decide)
theorem Rd.dct_inj {H:Hp} {a:Addr} {ks ks':List KT} {vs vs':List V} (h:Rd H a (.dct ks vs)) (h':Rd H a (.dct ks' vs')):vs=vs':=by
 rcases h with h | ⟨o,h⟩<;>rcases h' with h' | ⟨o',h'⟩<;>(rw [h] at h';cases h';try rfl)
theorem Inv.apartDL (I:Inv X pins σ H s) {a:Addr} {ks:List KT} {xs ys:List V} (h:Rd H a (.dct ks xs)) (h':SqL X.K H a ys):False:=by
 obtain ⟨_,_,_,o,_,_,e,c,_⟩:=h.ok I.hok
 obtain ⟨its',r',⟨o',n',e',c',_⟩,_⟩:=I.list h'
 rw [e] at e';cases e'
 rw [c.1] at c'
 exact absurd c' (by decide)
theorem Inv.apartDT (I:Inv X pins σ H s) {a:Addr} {ks:List KT} {xs ys:List V} (h:Rd H a (.dct ks xs)) (h':SqT X.K H a ys):False:=by
 obtain ⟨_,_,_,o,_,_,e,c,_⟩:=h.ok I.hok
 obtain ⟨its',r',⟨o',e',c',_⟩,_⟩:=I.tuple h'
 rw [e] at e';cases e'
 rw [c.1] at c'
 exact absurd c' (by decide)
mutual
/-- what an address denotes is one thing -/
theorem Zq2 (I:Inv X pins σ H s) {N N':Fb}:∀ (d d':D) (v:V),DenP X.K N H d v->DenP X.K N' H d' v->d=d'
 | .non,d',v,h,h'=>by
  have h:=h.non
  cases d' with
  | non=>rfl
  | bl _=>rw [h'.bl] at h;cases h
  | int _=>rw [h'.int] at h;cases h
  | str _=>rw [h'.str] at h;cases h
  | ty _=>rw [h'.ty] at h;cases h
  | tup _=>obtain ⟨_,_,e,_⟩:=h'.tup;rw [e] at h;cases h
  | lst _ fl=>cases fl<;>(obtain ⟨_,_,e,_⟩:=h';rw [e] at h;cases h)
 | .bl _,d',v,h,h'=>by
  have h:=h.bl
  cases d' with
  | non=>rw [h'.non] at h;cases h
  | bl _=>rw [h'.bl] at h;cases h;rfl
  | int _=>rw [h'.int] at h;cases h
  | str _=>rw [h'.str] at h;cases h
  | ty _=>rw [h'.ty] at h;cases h
  | tup _=>obtain ⟨_,_,e,_⟩:=h'.tup;rw [e] at h;cases h
  | lst _ fl=>cases fl<;>(obtain ⟨_,_,e,_⟩:=h';rw [e] at h;cases h)
 | .int _,d',v,h,h'=>by
  have h:=h.int
  cases d' with
  | non=>rw [h'.non] at h;cases h
  | bl _=>rw [h'.bl] at h;cases h
  | int _=>rw [h'.int] at h;cases h;rfl
  | str _=>rw [h'.str] at h;cases h
  | ty _=>rw [h'.ty] at h;cases h
  | tup _=>obtain ⟨_,_,e,_⟩:=h'.tup;rw [e] at h;cases h
  | lst _ fl=>cases fl<;>(obtain ⟨_,_,e,_⟩:=h';rw [e] at h;cases h)
 | .str _,d',v,h,h'=>by
  have h:=h.str
  cases d' with
  | non=>rw [h'.non] at h;cases h
  | bl _=>rw [h'.bl] at h;cases h
  | int _=>rw [h'.int] at h;cases h
  | str _=>rw [h'.str] at h;cases h;rfl
  | ty _=>rw [h'.ty] at h;cases h
  | tup _=>obtain ⟨_,_,e,_⟩:=h'.tup;rw [e] at h;cases h
  | lst _ fl=>cases fl<;>(obtain ⟨_,_,e,_⟩:=h';rw [e] at h;cases h)
 | .ty _,d',v,h,h'=>by
  have h:=h.ty
  cases d' with
  | non=>rw [h'.non] at h;cases h
  | bl _=>rw [h'.bl] at h;cases h
  | int _=>rw [h'.int] at h;cases h
  | str _=>rw [h'.str] at h;cases h
  | ty _=>rw [h'.ty] at h;cases h;rfl
  | tup _=>obtain ⟨_,_,e,_⟩:=h'.tup;rw [e] at h;cases h
  | lst _ fl=>cases fl<;>(obtain ⟨_,_,e,_⟩:=h';rw [e] at h;cases h)
 | .tup xs,d',v,h,h'=>by
  obtain ⟨a,vs,e,q,r⟩:=h.tup
  subst e
  cases d' with
  | non=>cases h'.non
  | bl _=>cases h'.bl
  | int _=>cases h'.int
  | str _=>cases h'.str
  | ty _=>cases h'.ty
  | tup ys =>
   obtain ⟨b,ws,e,q',r'⟩:=h'.tup
   cases e
   have:=I.tuple_inj q q'
   subst this
   rw [Zda I xs ys vs r r']
  | lst _ fl =>
   cases fl with
   | false=>obtain ⟨b,ws,e,q',_⟩:=h';cases e;exact (I.apart q' q).elim
   | true=>obtain ⟨b,ws,e,q',_⟩:=h';cases e;exact (I.apartDT q' q).elim
 | .lst xs true,d',v,h,h'=>by
  obtain ⟨a,vs,e,q,r⟩:=h
  subst e
  cases d' with
  | non=>cases h'.non
  | bl _=>cases h'.bl
  | int _=>cases h'.int
  | str _=>cases h'.str
  | ty _=>cases h'.ty
  | tup ys=>obtain ⟨b,ws,e,q',r'⟩:=h'.tup;cases e;exact (I.apartDT q q').elim
  | lst ys fl =>
   cases fl with
   | false=>obtain ⟨b,ws,e,q',r'⟩:=h';cases e;exact (I.apartDL q q').elim
   | true =>
    obtain ⟨b,ws,e,q',r'⟩:=h'
    cases e
    have:=Rd.dct_inj q q'
    subst this
    rw [Zda I xs ys vs r r']
 | .lst xs false,d',v,h,h'=>by
  obtain ⟨a,vs,e,q,r⟩:=h
  subst e
  cases d' with
  | non=>cases h'.non
  | bl _=>cases h'.bl
  | int _=>cases h'.int
  | str _=>cases h'.str
  | ty _=>cases h'.ty
  | tup ys=>obtain ⟨b,ws,e,q',r'⟩:=h'.tup;cases e;exact (I.apart q q').elim
  | lst ys fl =>
   cases fl with
   | true=>obtain ⟨b,ws,e,q',r'⟩:=h';cases e;exact (I.apartDL q' q).elim
   | false =>
   obtain ⟨b,ws,e,q',r'⟩:=h'
   cases e
   have:=I.list_inj q q'
   subst this
   rw [Zda I xs ys vs r r']
theorem Zda (I:Inv X pins σ H s) {N N':Fb}:∀ (xs ys:List D) (vs:List V),DenL X.K N H xs vs->DenL X.K N' H ys vs->xs=ys
 | [],ys,vs,h,h'=>by
  simp only [DenL] at h;subst h
  cases ys with
  | nil=>rfl
  | cons y ys=>simp only [DenL] at h';obtain ⟨_,_,e,_⟩:=h';cases e
 | x::xs,ys,vs,h,h'=>by
  simp only [DenL] at h
  obtain ⟨v,r,e,q,t⟩:=h
  subst e
  cases ys with
  | nil=>simp only [DenL] at h';cases h'
  | cons y ys =>
   simp only [DenL] at h'
   obtain ⟨v',r',e,q',t'⟩:=h'
   cases e
   rw [Zq2 I x y v q.p q'.p,Zda I xs ys r t t']
end
open SeqAt
theorem getD_some {α:Type} {xs:List α} {j:Nat} {d e:α} (h:xs[j]?=some e):xs.getD j d=e:=by simp [List.getD_eq_getElem?_getD,h]
theorem Zg2 {its:List Value} {j:Nat} {u:Value} (h1:j<its.toArray.size) (e:its[j]?=some u):its.toArray[j]=u:=by
 obtain ⟨_,e⟩:=List.getElem?_eq_some_iff.mp e
 simpa using e
def Zst (A:Around) (s:Shared) (u v:Value) (b:Bool):Prop:=RcAt A s u v b/\EqAt A s u v b/\RcNeAt A s u v (!b)
theorem ZcE (A:Around):A.in1.units=A.units+1:=rfl
theorem Zd2 (I:Inv X pins σ H s) {N:Fb}:∀ (n:Nat) (A:Around) (x y:D) (vx vy:V) (u v:Value),A.units+n<cLine->okD n x=true->okD n y=true->DenP X.K N H x vx->DenP X.K N H y vy->RelV vx u->RelV vy v->Zst A s u v (eqD x y):=by
 intro n
 induction n with
 | zero =>
  intro A x y vx vy u v hu ox oy hx hy rx ry
  have hu':A.units<cLine:=by omega
  cases x with
  | non =>
   rw [hx.non] at rx;cases rx
   cases y with
   | non=>rw [hy.non] at ry;cases ry;simp only [eqD];exact ⟨RcAt.none_none,EqAt.same _,RcNeAt.none_none⟩
   | bl _=>rw [hy.bl] at ry;cases ry;simp only [eqD];exact ⟨RcAt.none_bool _,EqAt.none_bool _,RcNeAt.none_bool _⟩
   | int _=>rw [hy.int] at ry;obtain ⟨t2,rfl⟩:=ry;simp only [eqD];exact ⟨RcAt.none_int _ _,EqAt.none_int _ _,RcNeAt.none_int _ _⟩
   | str _=>rw [hy.str] at ry;obtain ⟨t2,rfl⟩:=ry;simp only [eqD];exact ⟨RcAt.none_str _ _,EqAt.none_str _ _,RcNeAt.none_str _ _⟩
   | tup ys=>simp [okD] at oy
   | lst ys=>simp [okD] at oy
   | ty _=>simp [okD] at oy
  | bl _ =>
   rw [hx.bl] at rx;cases rx
   cases y with
   | non=>rw [hy.non] at ry;cases ry;simp only [eqD];exact ⟨RcAt.bool_none _,EqAt.bool_none _,RcNeAt.bool_none _⟩
   | bl _=>rw [hy.bl] at ry;cases ry;simp only [eqD];exact ⟨RcAt.bool_bool _ _,EqAt.bool_bool _ _,RcNeAt.bool_bool _ _⟩
   | int _=>rw [hy.int] at ry;obtain ⟨t2,rfl⟩:=ry;simp only [eqD];exact ⟨RcAt.bool_int _ _ _,EqAt.bool_int _ _ _,RcNeAt.bool_int _ _ _⟩
   | str _=>rw [hy.str] at ry;obtain ⟨t2,rfl⟩:=ry;simp only [eqD];exact ⟨RcAt.bool_str _ _ _,EqAt.bool_str _ _ _,RcNeAt.bool_str _ _ _⟩
   | tup ys=>simp [okD] at oy
   | lst ys=>simp [okD] at oy
   | ty _=>simp [okD] at oy
  | int _ =>
   rw [hx.int] at rx;obtain ⟨t1,rfl⟩:=rx
   cases y with
   | non=>rw [hy.non] at ry;cases ry;simp only [eqD];exact ⟨RcAt.int_none _ _,EqAt.int_none _ _,RcNeAt.int_none _ _⟩
   | bl _=>rw [hy.bl] at ry;cases ry;simp only [eqD];exact ⟨RcAt.int_bool _ _ _,EqAt.int_bool _ _ _,RcNeAt.int_bool _ _ _⟩
   | int _=>rw [hy.int] at ry;obtain ⟨t2,rfl⟩:=ry;simp only [eqD];exact ⟨RcAt.int_int _ _ _ _,EqAt.int_int _ _ _ _,RcNeAt.int_int _ _ _ _⟩
   | str _=>rw [hy.str] at ry;obtain ⟨t2,rfl⟩:=ry;simp only [eqD];exact ⟨RcAt.int_str _ _ _ _,EqAt.int_str _ _ _ _,RcNeAt.int_str _ _ _ _⟩
   | tup ys=>simp [okD] at oy
   | lst ys=>simp [okD] at oy
   | ty _=>simp [okD] at oy
  | str _ =>
   rw [hx.str] at rx;obtain ⟨t1,rfl⟩:=rx
   cases y with
   | non=>rw [hy.non] at ry;cases ry;simp only [eqD];exact ⟨RcAt.str_none _ _,EqAt.str_none _ _,RcNeAt.str_none _ _⟩
   | bl _=>rw [hy.bl] at ry;cases ry;simp only [eqD];exact ⟨RcAt.str_bool _ _ _,EqAt.str_bool _ _ _,RcNeAt.str_bool _ _ _⟩
   | int _=>rw [hy.int] at ry;obtain ⟨t2,rfl⟩:=ry;simp only [eqD];exact ⟨RcAt.str_int _ _ _ _,EqAt.str_int _ _ _ _,RcNeAt.str_int _ _ _ _⟩
   | str _=>rw [hy.str] at ry;obtain ⟨t2,rfl⟩:=ry;simp only [eqD];exact ⟨RcAt.str_str _ _ _ _,EqAt.str_str _ _ _ _,RcNeAt.str_str _ _ _ _⟩
   | tup ys=>simp [okD] at oy
   | lst ys=>simp [okD] at oy
   | ty _=>simp [okD] at oy
  | tup xs=>simp [okD] at ox
  | lst xs=>simp [okD] at ox
  | ty _=>simp [okD] at ox
 | succ n ih =>
  intro A x y vx vy u v hu ox oy hx hy rx ry
  have hu':A.units<cLine:=by omega
  cases x with
  | non =>
   rw [hx.non] at rx;cases rx
   cases y with
   | non=>rw [hy.non] at ry;cases ry;simp only [eqD];exact ⟨RcAt.none_none,EqAt.same _,RcNeAt.none_none⟩
   | bl _=>rw [hy.bl] at ry;cases ry;simp only [eqD];exact ⟨RcAt.none_bool _,EqAt.none_bool _,RcNeAt.none_bool _⟩
   | int _=>rw [hy.int] at ry;obtain ⟨t2,rfl⟩:=ry;simp only [eqD];exact ⟨RcAt.none_int _ _,EqAt.none_int _ _,RcNeAt.none_int _ _⟩
   | str _=>rw [hy.str] at ry;obtain ⟨t2,rfl⟩:=ry;simp only [eqD];exact ⟨RcAt.none_str _ _,EqAt.none_str _ _,RcNeAt.none_str _ _⟩
   | tup ys=>obtain ⟨a2,vs2,e2,q2,d2⟩:=hy.tup;subst e2;cases ry;obtain ⟨its2,r2,p2,z2⟩:=I.tuple q2;simp only [eqD];exact ⟨RcAt.none_tuple p2 hu',EqAt.none_tuple p2 hu',RcNeAt.none_tuple p2 hu'⟩
   | lst ys fl =>
    cases fl with
    | true=>simp [okD] at oy
    | false =>
     obtain ⟨a2,vs2,e2,q2,d2⟩:=hy;subst e2;cases ry;obtain ⟨its2,r2,p2,z2⟩:=I.list q2;simp only [eqD];exact ⟨RcAt.none_list p2.isList hu',EqAt.none_list p2.isList hu',RcNeAt.none_list p2.isList hu'⟩
   | ty _=>simp [okD] at oy
  | bl _ =>
   rw [hx.bl] at rx;cases rx
   cases y with
   | non=>rw [hy.non] at ry;cases ry;simp only [eqD];exact ⟨RcAt.bool_none _,EqAt.bool_none _,RcNeAt.bool_none _⟩
   | bl _=>rw [hy.bl] at ry;cases ry;simp only [eqD];exact ⟨RcAt.bool_bool _ _,EqAt.bool_bool _ _,RcNeAt.bool_bool _ _⟩
   | int _=>rw [hy.int] at ry;obtain ⟨t2,rfl⟩:=ry;simp only [eqD];exact ⟨RcAt.bool_int _ _ _,EqAt.bool_int _ _ _,RcNeAt.bool_int _ _ _⟩
   | str _=>rw [hy.str] at ry;obtain ⟨t2,rfl⟩:=ry;simp only [eqD];exact ⟨RcAt.bool_str _ _ _,EqAt.bool_str _ _ _,RcNeAt.bool_str _ _ _⟩
   | tup ys=>obtain ⟨a2,vs2,e2,q2,d2⟩:=hy.tup;subst e2;cases ry;obtain ⟨its2,r2,p2,z2⟩:=I.tuple q2;simp only [eqD];exact ⟨RcAt.bool_tuple _ p2 hu',EqAt.bool_tuple _ p2 hu',RcNeAt.bool_tuple _ p2 hu'⟩
   | lst ys fl =>
    cases fl with
    | true=>simp [okD] at oy
    | false =>
     obtain ⟨a2,vs2,e2,q2,d2⟩:=hy;subst e2;cases ry;obtain ⟨its2,r2,p2,z2⟩:=I.list q2;simp only [eqD];exact ⟨RcAt.bool_list _ p2.isList hu',EqAt.bool_list _ p2.isList hu',RcNeAt.bool_list _ p2.isList hu'⟩
   | ty _=>simp [okD] at oy
  | int _ =>
   rw [hx.int] at rx;obtain ⟨t1,rfl⟩:=rx
   cases y with
   | non=>rw [hy.non] at ry;cases ry;simp only [eqD];exact ⟨RcAt.int_none _ _,EqAt.int_none _ _,RcNeAt.int_none _ _⟩
   | bl _=>rw [hy.bl] at ry;cases ry;simp only [eqD];exact ⟨RcAt.int_bool _ _ _,EqAt.int_bool _ _ _,RcNeAt.int_bool _ _ _⟩
   | int _=>rw [hy.int] at ry;obtain ⟨t2,rfl⟩:=ry;simp only [eqD];exact ⟨RcAt.int_int _ _ _ _,EqAt.int_int _ _ _ _,RcNeAt.int_int _ _ _ _⟩
   | str _=>rw [hy.str] at ry;obtain ⟨t2,rfl⟩:=ry;simp only [eqD];exact ⟨RcAt.int_str _ _ _ _,EqAt.int_str _ _ _ _,RcNeAt.int_str _ _ _ _⟩
   | tup ys=>obtain ⟨a2,vs2,e2,q2,d2⟩:=hy.tup;subst e2;cases ry;obtain ⟨its2,r2,p2,z2⟩:=I.tuple q2;simp only [eqD];exact ⟨RcAt.int_tuple _ _ p2 hu',EqAt.int_tuple _ _ p2 hu',RcNeAt.int_tuple _ _ p2 hu'⟩
   | lst ys fl =>
    cases fl with
    | true=>simp [okD] at oy
    | false =>
     obtain ⟨a2,vs2,e2,q2,d2⟩:=hy;subst e2;cases ry;obtain ⟨its2,r2,p2,z2⟩:=I.list q2;simp only [eqD];exact ⟨RcAt.int_list _ _ p2.isList hu',EqAt.int_list _ _ p2.isList hu',RcNeAt.int_list _ _ p2.isList hu'⟩
   | ty _=>simp [okD] at oy
  | str _ =>
   rw [hx.str] at rx;obtain ⟨t1,rfl⟩:=rx
   cases y with
   | non=>rw [hy.non] at ry;cases ry;simp only [eqD];exact ⟨RcAt.str_none _ _,EqAt.str_none _ _,RcNeAt.str_none _ _⟩
   | bl _=>rw [hy.bl] at ry;cases ry;simp only [eqD];exact ⟨RcAt.str_bool _ _ _,EqAt.str_bool _ _ _,RcNeAt.str_bool _ _ _⟩
   | int _=>rw [hy.int] at ry;obtain ⟨t2,rfl⟩:=ry;simp only [eqD];exact ⟨RcAt.str_int _ _ _ _,EqAt.str_int _ _ _ _,RcNeAt.str_int _ _ _ _⟩
   | str _=>rw [hy.str] at ry;obtain ⟨t2,rfl⟩:=ry;simp only [eqD];exact ⟨RcAt.str_str _ _ _ _,EqAt.str_str _ _ _ _,RcNeAt.str_str _ _ _ _⟩
   | tup ys=>obtain ⟨a2,vs2,e2,q2,d2⟩:=hy.tup;subst e2;cases ry;obtain ⟨its2,r2,p2,z2⟩:=I.tuple q2;simp only [eqD];exact ⟨RcAt.str_tuple _ _ p2 hu',EqAt.str_tuple _ _ p2 hu',RcNeAt.str_tuple _ _ p2 hu'⟩
   | lst ys fl =>
    cases fl with
    | true=>simp [okD] at oy
    | false =>
     obtain ⟨a2,vs2,e2,q2,d2⟩:=hy;subst e2;cases ry;obtain ⟨its2,r2,p2,z2⟩:=I.list q2;simp only [eqD];exact ⟨RcAt.str_list _ _ p2.isList hu',EqAt.str_list _ _ p2.isList hu',RcNeAt.str_list _ _ p2.isList hu'⟩
   | ty _=>simp [okD] at oy
  | tup xs =>
   obtain ⟨a1,vs1,e1,q1,d1⟩:=hx.tup;subst e1;cases rx;obtain ⟨its1,r1,p1,z1⟩:=I.tuple q1
   cases y with
   | non=>rw [hy.non] at ry;cases ry;simp only [eqD];exact ⟨RcAt.tuple_none p1 hu',EqAt.tuple_none p1 hu',RcNeAt.tuple_none p1 hu'⟩
   | bl _=>rw [hy.bl] at ry;cases ry;simp only [eqD];exact ⟨RcAt.tuple_bool _ p1 hu',EqAt.tuple_bool _ p1 hu',RcNeAt.tuple_bool _ p1 hu'⟩
   | int _=>rw [hy.int] at ry;obtain ⟨t2,rfl⟩:=ry;simp only [eqD];exact ⟨RcAt.tuple_int _ _ p1 hu',EqAt.tuple_int _ _ p1 hu',RcNeAt.tuple_int _ _ p1 hu'⟩
   | str _=>rw [hy.str] at ry;obtain ⟨t2,rfl⟩:=ry;simp only [eqD];exact ⟨RcAt.tuple_str _ _ p1 hu',EqAt.tuple_str _ _ p1 hu',RcNeAt.tuple_str _ _ p1 hu'⟩
   | tup ys =>
    obtain ⟨a2,vs2,e2,q2,d2⟩:=hy.tup;subst e2;cases ry;obtain ⟨its2,r2,p2,z2⟩:=I.tuple q2
    simp only [okD] at ox oy
    have l1:=r1.length
    have l2:=r2.length
    have m1:=d1.length
    have m2:=d2.length
    simp only [eqD]
    have rc:RcAt A s (.ref a1) (.ref a2) (Zaj xs ys)/\RcNeAt A s (.ref a1) (.ref a2) (!Zaj xs ys):=by
     have each:∀ j (h1:j<its1.toArray.size) (h2:j<its2.toArray.size),EqAt A.in1 s its1.toArray[j] its2.toArray[j] (eqD (xs.getD j .non) (ys.getD j .non)):=fun j h1 h2=>?_
     ·have key:=RcAt.tuples (A:=A) (s:=s) (e:=fun j=>eqD (xs.getD j .non) (ys.getD j .non)) p1 p2 hu' each
      have key2:=RcNeAt.tuples (A:=A) (s:=s) (e:=fun j=>eqD (xs.getD j .non) (ys.getD j .non)) p1 p2 hu' each
      have e:((Qaw (min its1.toArray.size its2.toArray.size)).all (fun j=>eqD (xs.getD j .non) (ys.getD j .non))&&its1.toArray.size==its2.toArray.size)=Zaj xs ys:=by
       rw [Qal,Qal]
       by_cases hl:xs.length=ys.length
       ·rw [Zht hl,show its1.length=xs.length by omega,show its2.length=xs.length by omega,Nat.min_self];simp
       ·rw [Zhl hl,show (its1.length==its2.length)=false by simp;omega,Bool.and_false]
      rw [e] at key key2
      exact ⟨key,key2⟩
     ·have h1':j<xs.length:=by rw [Qal] at h1;omega
      have h2':j<ys.length:=by rw [Qal] at h2;omega
      have g1:=QaF h1'
      have g2:=QaF h2'
      obtain ⟨w1,hw1,dw1⟩:=d1.get g1
      obtain ⟨w2,hw2,dw2⟩:=d2.get g2
      obtain ⟨u1,hu1,ru1⟩:=r1.get hw1
      obtain ⟨u2,hu2,ru2⟩:=r2.get hw2
      rw [Zg2 h1 hu1,Zg2 h2 hu2,getD_some g1,getD_some g2]
      exact (ih A.in1 _ _ _ _ _ _ (by rw [ZcE];omega) (Qct.mp ox _ (Qbd h1')) (Qct.mp oy _ (Qbd h2')) dw1.p dw2.p ru1 ru2).2.1
    refine ⟨rc.1,?_,rc.2⟩
    by_cases ea:a1=a2
    ·subst ea
     have:=I.tuple_inj q1 q2
     subst this
     rw [Zda I xs ys _ d1 d2,Zdt n ys oy]
     exact EqAt.same _
    ·exact EqAt.of_refs ea rc.1
   | lst ys fl =>
    cases fl with
    | true=>simp [okD] at oy
    | false =>
     obtain ⟨a2,vs2,e2,q2,d2⟩:=hy;subst e2;cases ry;obtain ⟨its2,r2,p2,z2⟩:=I.list q2;simp only [eqD];exact ⟨RcAt.tuple_list p1 p2.isList hu',EqAt.tuple_list p1 p2.isList hu',RcNeAt.tuple_list p1 p2.isList hu'⟩
   | ty _=>simp [okD] at oy
  | lst xs fl =>
   cases fl with
   | true=>simp [okD] at ox
   | false =>
    obtain ⟨a1,vs1,e1,q1,d1⟩:=hx;subst e1;cases rx;obtain ⟨its1,r1,p1,z1⟩:=I.list q1
    cases y with
    | non=>rw [hy.non] at ry;cases ry;simp only [eqD];exact ⟨RcAt.list_none p1.isList hu',EqAt.list_none p1.isList hu',RcNeAt.list_none p1.isList hu'⟩
    | bl _=>rw [hy.bl] at ry;cases ry;simp only [eqD];exact ⟨RcAt.list_bool _ p1.isList hu',EqAt.list_bool _ p1.isList hu',RcNeAt.list_bool _ p1.isList hu'⟩
    | int _=>rw [hy.int] at ry;obtain ⟨t2,rfl⟩:=ry;simp only [eqD];exact ⟨RcAt.list_int _ _ p1.isList hu',EqAt.list_int _ _ p1.isList hu',RcNeAt.list_int _ _ p1.isList hu'⟩
    | str _=>rw [hy.str] at ry;obtain ⟨t2,rfl⟩:=ry;simp only [eqD];exact ⟨RcAt.list_str _ _ p1.isList hu',EqAt.list_str _ _ p1.isList hu',RcNeAt.list_str _ _ p1.isList hu'⟩
    | tup ys=>obtain ⟨a2,vs2,e2,q2,d2⟩:=hy.tup;subst e2;cases ry;obtain ⟨its2,r2,p2,z2⟩:=I.tuple q2;simp only [eqD];exact ⟨RcAt.list_tuple p1.isList p2 hu',EqAt.list_tuple p1.isList p2 hu',RcNeAt.list_tuple p1.isList p2 hu'⟩
    | lst ys fl =>
     cases fl with
     | true=>simp [okD] at oy
     | false =>
      obtain ⟨a2,vs2,e2,q2,d2⟩:=hy;subst e2;cases ry;obtain ⟨its2,r2,p2,z2⟩:=I.list q2
      simp only [okD] at ox oy
      have l1:=r1.length
      have l2:=r2.length
      have m1:=d1.length
      have m2:=d2.length
      simp only [eqD]
      have rc:RcAt A s (.ref a1) (.ref a2) (Zaj xs ys)/\RcNeAt A s (.ref a1) (.ref a2) (!Zaj xs ys):=by
       by_cases hl:xs.length=ys.length
       ·have each:∀ j (h1:j<its1.toArray.size) (h2:j<its2.toArray.size),EqAt A.in1 s its1.toArray[j] its2.toArray[j] (eqD (xs.getD j .non) (ys.getD j .non)):=fun j h1 h2=>?_
        ·have key:=RcAt.lists (A:=A) (s:=s) (e:=fun j=>eqD (xs.getD j .non) (ys.getD j .non)) p1.isList p2.isList (by rw [Qal,Qal];omega) hu' each
         have key2:=RcNeAt.lists (A:=A) (s:=s) (e:=fun j=>eqD (xs.getD j .non) (ys.getD j .non)) p1.isList p2.isList (by rw [Qal,Qal];omega) hu' each
         have e:(Qaw its1.toArray.size).all (fun j=>eqD (xs.getD j .non) (ys.getD j .non))=Zaj xs ys:=by
          rw [Qal,Zht hl,show its1.length=xs.length by omega]
         rw [e] at key key2
         exact ⟨key,key2⟩
        ·have h1':j<xs.length:=by rw [Qal] at h1;omega
         have h2':j<ys.length:=by rw [Qal] at h2;omega
         have g1:=QaF h1'
         have g2:=QaF h2'
         obtain ⟨w1,hw1,dw1⟩:=d1.get g1
         obtain ⟨w2,hw2,dw2⟩:=d2.get g2
         obtain ⟨u1,hu1,ru1⟩:=r1.get hw1
         obtain ⟨u2,hu2,ru2⟩:=r2.get hw2
         rw [Zg2 h1 hu1,Zg2 h2 hu2,getD_some g1,getD_some g2]
         exact (ih A.in1 _ _ _ _ _ _ (by rw [ZcE];omega) (Qct.mp ox _ (Qbd h1')) (Qct.mp oy _ (Qbd h2')) dw1.p dw2.p ru1 ru2).2.1
       ·rw [Zhl hl]
        have hne:(its1.toArray.size != its2.toArray.size)=true:=by rw [Qal,Qal];simp;omega
        exact ⟨RcAt.lists_lengths p1.isList p2.isList hne hu',RcNeAt.lists_lengths p1.isList p2.isList hne hu'⟩
      refine ⟨rc.1,?_,rc.2⟩
      by_cases ea:a1=a2
      ·subst ea
       have:=I.list_inj q1 q2
       subst this
       rw [Zda I xs ys _ d1 d2,Zdt n ys oy]
       exact EqAt.same _
      ·exact EqAt.of_refs ea rc.1
    | ty _=>simp [okD] at oy
  | ty _=>simp [okD] at ox
end
def ZaH:Nat:=12
@[simp] def eqO (x y:D):Option D:=if okD ZaH x&&okD ZaH y then some (.bl (eqD x y)) else none
@[simp] def neO (x y:D):Option D:=if okD ZaH x&&okD ZaH y then some (.bl (!eqD x y)) else none
def Zns (K:Qab) (neg:Bool):R2:=fun x y H Q=>∃ N d1 d2,DenP K N H d1 x/\DenP K N H d2 y/\okD ZaH d1=true/\okD ZaH d2=true/\Q (.bl (if neg then !eqD d1 d2 else eqD d1 d2)) H
section
variable {X:Cx} {K:Qab} {M:Fb} {H0:Hp} {a b:Expr} {f g:VE->Option D} {pos:Pos}
theorem ZoJ (hu:X.A.units+64<cLine):OpR X (QbG .Eq) (Zns X.K false):=by
 intro pins s σ H x y v u Q I rx ry h
 obtain ⟨N,d1,d2,h1,h2,o1,o2,q⟩:=h
 exact (Zd2 I ZaH X.A d1 d2 x y v u (by unfold ZaH;omega) o1 o2 h1 h2 rx ry).1 X.prog X.w X.xe _ ⟨.bl _,H,I,rfl,q⟩
theorem Zr0 (hu:X.A.units+64<cLine):OpR X (QbG .NotEq) (Zns X.K true):=by
 intro pins s σ H x y v u Q I rx ry h
 obtain ⟨N,d1,d2,h1,h2,o1,o2,q⟩:=h
 exact (Zd2 I ZaH X.A d1 d2 x y v u (by unfold ZaH;omega) o1 o2 h1 h2 rx ry).2.2 X.prog X.w X.xe _ ⟨.bl _,H,I,rfl,q⟩
theorem Zqv:R2D K (Zns K false) eqO:=by
 intro N H x y d1 d2 d Q nh h1 h2 e q
 unfold eqO at e
 split at e
 ·next ho=>rw [QaW] at ho;cases e;exact ⟨N,d1,d2,h1,h2,ho.1,ho.2,q _ H (Same.refl H) Zdo⟩
 ·cases e
theorem Zup:R2D K (Zns K true) neO:=by
 intro N H x y d1 d2 d Q nh h1 h2 e q
 unfold neO at e
 split at e
 ·next ho=>rw [QaW] at ho;cases e;exact ⟨N,d1,d2,h1,h2,ho.1,ho.2,q _ H (Same.refl H) Zdo⟩
 ·cases e
def Zmw (x:D) (ys:List D):Bool:=ys.any fun y=>eqD y x
@[simp] def inD (neg:Bool) (x y:D):Option D:=match y with
  | .lst ys=>if okD ZaH x&&ys.all (okD ZaH) then some (.bl (if neg then !Zmw x ys else Zmw x ys)) else none
  | .tup ys=>if okD ZaH x&&ys.all (okD ZaH) then some (.bl (if neg then !Zmw x ys else Zmw x ys)) else none
  | .str z=>match x with
   | .str w=>some (.bl (if neg then !(!(Builtin.Str.occurrences z w 0 z.length 1).isEmpty) else !(Builtin.Str.occurrences z w 0 z.length 1).isEmpty))
   | _=>none
  | _=>none
open Classical in
@[simp] def Zck (lt:D->D->Option Bool):List D->List D->Option Bool
  | [],[]=>some false
  | [],_::_=>some true
  | _::_,[]=>some false
  | x::xs,y::ys=>if okD ZaH x&&okD ZaH y then (if eqD x y then Zck lt xs ys else lt x y) else none
@[simp] def ltN:Nat->D->D->Option Bool
  | _,.int i,.int j=>some (decide (i<j))
  | _,.str a,.str b=>some (decide (a.cps.toList<b.cps.toList))
  | n+1,.tup xs,.tup ys=>Zck (ltN n) xs ys
  | n+1,.lst xs false,.lst ys false=>Zck (ltN n) xs ys
  | _,_,_=>none
@[simp] def ltO (x y:D):Option D:=(ltN 6 x y).map D.bl
def Zs7 (K:Qab):R2:=fun x y H Q=>∃ N d1 d2 b,DenP K N H d1 x/\DenP K N H d2 y/\ltN 6 d1 d2=some b/\Q (.bl b) H
theorem ZkV {pins:List (Addr×Obj)} {σ:St} {H:Hp} {s:Shared} (I:Inv X pins σ H s) {N:Fb}:∀ (n:Nat) (A:Around) (x y:D) (vx vy:V) (u v:Value) (b:Bool),A.units+n+ZaH<cLine->ltN n x y=some b->DenP X.K N H x vx->DenP X.K N H y vy->RelV vx u->RelV vy v ->
  ∀ (prog:Qav) (wo:World) (E Q:Value->Shared->Prop),Q (.bool b) s->wpAny (model prog wo) A (richCompare .Lt u v) Q E s:=by
 intro n
 induction n with
 | zero =>
  intro A x y vx vy u v b hu h hx hy rx ry prog wo E Q q
  unfold ltN at h
  split at h
  ·cases h;rw [hx.int] at rx;rw [hy.int] at ry;obtain ⟨t,rfl⟩:=rx;obtain ⟨t',rfl⟩:=ry;exact HT.rcLt_int A s _ _ _ _ prog wo E Q q
  ·cases h;rw [hx.str] at rx;rw [hy.str] at ry;obtain ⟨t,rfl⟩:=rx;obtain ⟨t',rfl⟩:=ry;exact (PyProof.Rows.lt_str q:wpAny (model prog wo) A (QbG .Lt _ _) Q E s)
  ·next h0=>cases h0
  ·next h0=>cases h0
  ·cases h
 | succ n ih =>
  intro A x y vx vy u v b hu h hx hy rx ry prog wo E Q q
  have lists:∀ (xs ys:List D) (vs1 vs2:List V) (us1 us2:List Value),Zck (ltN n) xs ys=some b->DenL X.K N H xs vs1->DenL X.K N H ys vs2->Vals vs1 us1->Vals vs2 us2->ZcA A.in1 s us1 us2 b:=by
   intro xs
   induction xs with
   | nil =>
    intro ys vs1 vs2 us1 us2 h d1 d2 r1 r2
    simp only [DenL] at d1;subst d1;cases r1
    cases ys with
    | nil=>simp only [DenL] at d2;subst d2;cases r2;cases h;exact .nn
    | cons y ys=>simp only [DenL] at d2;obtain ⟨w,t,e,_,_⟩:=d2;subst e;cases r2;cases h;exact .nc
   | cons x xs ihx =>
    intro ys vs1 vs2 us1 us2 h d1 d2 r1 r2
    simp only [DenL] at d1;obtain ⟨w1,t1,e1,dw1,dt1⟩:=d1;subst e1
    cases r1 with
    | cons rw1 rt1 =>
     cases ys with
     | nil=>simp only [DenL] at d2;subst d2;cases r2;cases h;exact .cn
     | cons y ys =>
      simp only [DenL] at d2;obtain ⟨w2,t2,e2,dw2,dt2⟩:=d2;subst e2
      cases r2 with
      | cons rw2 rt2 =>
       simp only [Zck] at h
       split at h
       ·next ho =>
        rw [QaW] at ho
        have he:=(Zd2 I ZaH A.in1 x y _ _ _ _ (by rw [ZcE];omega) ho.1 ho.2 dw1.p dw2.p rw1 rw2).2.1
        split at h
        ·next e=>rw [e] at he;exact .eq he (ihx ys _ _ _ _ h dt1 dt2 rt1 rt2)
        ·next e =>
         rw [Qcr] at e
         rw [e] at he
         exact .ne he fun prog wo E Q q=>ih A.in1 x y _ _ _ _ b (by rw [ZcE];omega) h dw1.p dw2.p rw1 rw2 prog wo E Q q
       ·cases h
  unfold ltN at h
  split at h
  ·cases h;rw [hx.int] at rx;rw [hy.int] at ry;obtain ⟨t,rfl⟩:=rx;obtain ⟨t',rfl⟩:=ry;exact HT.rcLt_int A s _ _ _ _ prog wo E Q q
  ·cases h;rw [hx.str] at rx;rw [hy.str] at ry;obtain ⟨t,rfl⟩:=rx;obtain ⟨t',rfl⟩:=ry;exact (PyProof.Rows.lt_str q:wpAny (model prog wo) A (QbG .Lt _ _) Q E s)
  ·next m xs ys e0 =>
   cases e0
   obtain ⟨a1,vs1,e1,q1,d1⟩:=hx.tup
   obtain ⟨a2,vs2,e2,q2,d2⟩:=hy.tup
   subst e1 e2
   cases rx
   cases ry
   obtain ⟨its1,r1,p1,_⟩:=I.tuple q1
   obtain ⟨its2,r2,p2,_⟩:=I.tuple q2
   exact ZpL p1 p2 (by simpa using lists xs ys _ _ _ _ h d1 d2 r1 r2) (by omega) q
  ·next m xs ys e0 =>
   cases e0
   obtain ⟨a1,vs1,e1,q1,d1⟩:=hx
   obtain ⟨a2,vs2,e2,q2,d2⟩:=hy
   subst e1 e2
   cases rx
   cases ry
   obtain ⟨its1,r1,⟨⟨cls,dd,data,sl⟩,n1,ho1,hc1,hdd1,hd1⟩,_⟩:=I.list q1
   obtain ⟨its2,r2,⟨⟨cls2,dd2,data2,sl2⟩,n2,ho2,hc2,hdd2,hd2⟩,_⟩:=I.list q2
   simp only at hc1 hd1 hc2 hd2
   subst hc1 hd1 hc2 hd2
   exact Zo4 ho1 ho2 (by simpa using lists xs ys _ _ _ _ h d1 d2 r1 r2) (by omega) q
  ·cases h
theorem Ztq (hu:X.A.units+64<cLine):OpR X (QbG .Lt) (Zs7 X.K):=by
 intro pins s σ H x y v u Q I rx ry h
 obtain ⟨N,d1,d2,b,h1,h2,hb,q⟩:=h
 have fin:EP X pins σ Q (.bool b) s:=⟨.bl b,H,I,rfl,q⟩
 exact ZkV I 6 X.A d1 d2 x y v u b (by unfold ZaH;omega) hb h1 h2 rx ry X.prog X.w X.xe _ fin
theorem ZtX:R2D K (Zs7 K) ltO:=by
 intro N H x y d1 d2 d Q nh h1 h2 e q
 unfold ltO at e
 cases hl:ltN 6 d1 d2 with
 | none=>rw [hl] at e;cases e
 | some b=>rw [hl] at e;cases e;exact ⟨N,d1,d2,b,h1,h2,hl,q _ H (Same.refl H) Zdo⟩
end
end L2
namespace L2
open PySem PySem.Spec PyProof.Rows
section
variable {K:Qab} {N:Fb} {H:Hp}
theorem Paired.one' {α β:Type} {F:α->β->Prop} {x:α} {vs:List β} (h:Paired F [x] vs):∃ v,vs=[v]/\F x v:=by
 cases h with
 | cons r t=>cases t;exact ⟨_,rfl,r⟩
theorem Paired.two' {α β:Type} {F:α->β->Prop} {x y:α} {vs:List β} (h:Paired F [x,y] vs):∃ v w,vs=[v,w]/\F x v/\F y w:=by
 cases h with
 | cons r t =>
  obtain ⟨w,e,q⟩:=Paired.one' t
  subst e
  exact ⟨_,w,rfl,r,q⟩
@[simp] def Za7:List D->Option D
  | [.lst xs]=>some (.int xs.length)
  | [.tup xs]=>some (.int xs.length)
  | [.str x]=>if x.length<=Qaj then some (.int x.length) else none
  | _=>none
theorem ZcK:RcD K (fun xs H Q=>∃ x n,xs=[x]/\ZsH K x H n/\Q (.int n) H) Za7:=by
 intro N H vs ds d Q nh h e q
 unfold Za7 at e
 split at e
 ·cases e
  obtain ⟨v,rfl,hv⟩:=Paired.one' h
  obtain ⟨a,ws,e1,q1,r1⟩:=hv
  subst e1
  exact ⟨.ref a,_,rfl,.inl ⟨ws,q1,rfl⟩,by rw [<- r1.length];exact q _ H (Same.refl H) ZaN⟩
 ·cases e
  obtain ⟨v,rfl,hv⟩:=Paired.one' h
  obtain ⟨a,ws,e1,q1,r1⟩:=hv.tup
  subst e1
  exact ⟨.ref a,_,rfl,.inr ⟨ws,q1,rfl⟩,by rw [<- r1.length];exact q _ H (Same.refl H) ZaN⟩
 ·split at e
  ·next hz =>
   cases e
   obtain ⟨v,rfl,hv⟩:=Paired.one' h
   exact ⟨v,_,rfl,by rw [hv.str];exact ⟨hz,rfl⟩,q _ H (Same.refl H) ZaN⟩
  ·cases e
 ·cases e
@[simp] def Zir:List D->Option (List D)
  | [.lst xs]=>some xs
  | [.tup xs]=>some xs
  | _=>none
theorem ZlY:RcF K (fun xs H Q=>∃ p ys,xs=[.ref p]/\(SqL K H p ys\/SqT K H p ys)/\∀ l,H l=none->Q (.ref l) (upd H l (.lst ys))) Zir:=by
 intro N H vs ds xs Q nh h e q
 unfold Zir at e
 split at e
 ·cases e
  obtain ⟨v,rfl,hv⟩:=Paired.one' h
  obtain ⟨a,ws,e1,q1,r1⟩:=hv
  subst e1
  exact ⟨a,ws,rfl,.inl q1,fun l hl=>q ws l hl r1⟩
 ·cases e
  obtain ⟨v,rfl,hv⟩:=Paired.one' h
  obtain ⟨a,ws,e1,q1,r1⟩:=hv.tup
  subst e1
  exact ⟨a,ws,rfl,.inr q1,fun l hl=>q ws l hl r1⟩
 ·cases e
@[simp] def Zbq:List D->Option D
  | [.lst xs]=>some (.tup xs)
  | [.tup xs]=>some (.tup xs)
  | _=>none
theorem Zby:RcD K (fun xs H Q=>∃ p ys,xs=[.ref p]/\((SqL K H p ys/\∀ l,H l=none->Q (.ref l) (upd H l (.tup ys)))\/(SqT K H p ys/\Q (.ref p) H))) Zbq:=by
 intro N H vs ds d Q nh h e q
 unfold Zbq at e
 split at e
 ·cases e
  obtain ⟨v,rfl,hv⟩:=Paired.one' h
  obtain ⟨a,ws,e1,q1,r1⟩:=hv
  subst e1
  exact ⟨a,ws,rfl,.inl ⟨q1,fun l hl=>q _ _ (ZaS hl) (Zc8 hl r1)⟩⟩
 ·cases e
  obtain ⟨v,rfl,hv⟩:=Paired.one' h
  obtain ⟨a,ws,e1,q1,r1⟩:=hv.tup
  subst e1
  exact ⟨a,ws,rfl,.inr ⟨q1,q _ _ (Same.refl H) (by simp only [Den];exact ⟨a,ws,rfl,q1,r1⟩)⟩⟩
 ·cases e
def ZeP:List D->Option (List Bool)
 | []=>some []
 | .bl b::r=>(ZeP r).map (b::·)
 | _=>none
theorem Zha:∀ {xs:List D} {bs:List Bool},ZeP xs=some bs->xs=bs.map D.bl
 | [],_,e=>by cases e;rfl
 | .bl b::r,_,e=>by
  simp only [ZeP] at e
  cases h:ZeP r with
  | none=>rw [h] at e;cases e
  | some bs=>rw [h] at e;cases e;rw [Zha h];rfl
 | .non::_,_,e=>nomatch e
 | .int _::_,_,e=>nomatch e
 | .str _::_,_,e=>nomatch e
 | .ty _::_,_,e=>nomatch e
 | .tup _::_,_,e=>nomatch e
 | .lst _ _::_,_,e=>nomatch e
theorem Zhe:∀ {bs:List Bool} {vs:List V},DenL K N H (bs.map D.bl) vs->vs=bs.map V.bl
 | [],_,h=>by simpa only [Qa3,DenL] using h
 | b::bs,_,h=>by
  simp only [Qai,DenL,Den] at h
  obtain ⟨v,r,e,hv,t⟩:=h
  subst e hv
  rw [Zhe t];rfl
@[simp] def Zgg:List D->Option D
  | [.lst xs]=>(ZeP xs).map fun bs=>.bl (bs.all id)
  | _=>none
@[simp] def Zgl:List D->Option D
  | [.lst xs]=>(ZeP xs).map fun bs=>.bl (bs.any id)
  | _=>none
theorem ZoC:RcD K (fun xs H Q=>∃ (a:Addr) (bs:List Bool),xs=[.ref a]/\SqL K H a (bs.map V.bl)/\Q (.bl (bs.all id)) H) Zgg:=by
 intro N H vs ds d Q nh h e q
 unfold Zgg at e
 split at e
 ·next xs =>
  cases hb:ZeP xs with
  | none=>rw [hb] at e;cases e
  | some bs =>
   rw [hb] at e;cases e
   obtain ⟨v,rfl,hv⟩:=Paired.one' h
   obtain ⟨a,ws,e1,q1,r1⟩:=hv
   subst e1
   rw [Zha hb] at r1
   rw [Zhe r1] at q1
   exact ⟨a,bs,rfl,q1,q _ H (Same.refl H) Zdo⟩
 ·cases e
theorem Zon:RcD K (fun xs H Q=>∃ (a:Addr) (bs:List Bool),xs=[.ref a]/\SqL K H a (bs.map V.bl)/\Q (.bl (bs.any id)) H) Zgl:=by
 intro N H vs ds d Q nh h e q
 unfold Zgl at e
 split at e
 ·next xs =>
  cases hb:ZeP xs with
  | none=>rw [hb] at e;cases e
  | some bs =>
   rw [hb] at e;cases e
   obtain ⟨v,rfl,hv⟩:=Paired.one' h
   obtain ⟨a,ws,e1,q1,r1⟩:=hv
   subst e1
   rw [Zha hb] at r1
   rw [Zhe r1] at q1
   exact ⟨a,bs,rfl,q1,q _ H (Same.refl H) Zdo⟩
 ·cases e
@[simp] def Zm5:List D->Option D
  | [.int i,.int j]=>some (.int (if j > i then j else i))
  | _=>none
@[simp] def Znd:List D->Option D
  | [.int i,.int j]=>some (.int (if j<i then j else i))
  | _=>none
theorem Zq8:RcD K (fun xs H Q=>∃ i j,xs=[.int i,.int j]/\Q (.int (if j > i then j else i)) H) Zm5:=by
 intro N H vs ds d Q nh h e q
 unfold Zm5 at e
 split at e
 ·cases e
  obtain ⟨v,w,rfl,hv,hw⟩:=Paired.two' h
  exact ⟨_,_,by rw [hv.int,hw.int],q _ H (Same.refl H) ZaN⟩
 ·cases e
theorem Zry:RcD K (fun xs H Q=>∃ i j,xs=[.int i,.int j]/\Q (.int (if j<i then j else i)) H) Znd:=by
 intro N H vs ds d Q nh h e q
 unfold Znd at e
 split at e
 ·cases e
  obtain ⟨v,w,rfl,hv,hw⟩:=Paired.two' h
  exact ⟨_,_,by rw [hv.int,hw.int],q _ H (Same.refl H) ZaN⟩
 ·cases e
@[simp] def Zwd:List D->Option D
  | [.int i]=>some (.int (if i<0 then -i else i))
  | _=>none
@[simp] def Ziz:List D->Option D
  | [.int i]=>if i.natAbs.log2<1920 then some (.str (Qb3 i)) else none
  | _=>none
theorem Zrc:RcD K (fun xs H Q=>∃ i,xs=[.int i]/\i.natAbs.log2<1920/\Q (.str (Qb3 i)) H) Ziz:=by
 intro N H vs ds d Q nh h e q
 unfold Ziz at e
 split at e
 ·split at e
  ·next hz =>
   cases e
   obtain ⟨v,rfl,hv⟩:=Paired.one' h
   exact ⟨_,by rw [hv.int],hz,q _ H (Same.refl H) Ze6⟩
  ·cases e
 ·cases e
@[simp] def ZmI:List D->Option D
  | [.int i]=>some (.int i)
  | [.bl k]=>some (.int (if k then 1 else 0))
  | _=>none
theorem Ztb:RcD K (fun xs H Q=>(∃ i,xs=[.int i]/\Q (.int i) H)\/∃ k,xs=[.bl k]/\Q (.int (if k then 1 else 0)) H) ZmI:=by
 intro N H vs ds d Q nh h e q
 unfold ZmI at e
 split at e
 ·cases e
  obtain ⟨v,rfl,hv⟩:=Paired.one' h
  exact .inl ⟨_,by rw [hv.int],q _ H (Same.refl H) ZaN⟩
 ·cases e
  obtain ⟨v,rfl,hv⟩:=Paired.one' h
  exact .inr ⟨_,by rw [hv.bl],q _ H (Same.refl H) ZaN⟩
 ·cases e
def ZbV:List D->Option (List Int)
 | []=>some []
 | .int b::r=>(ZbV r).map (b::·)
 | _=>none
theorem Zd8:∀ {xs:List D} {bs:List Int},ZbV xs=some bs->xs=bs.map D.int
 | [],_,e=>by cases e;rfl
 | .int b::r,_,e=>by
  simp only [ZbV] at e
  cases h:ZbV r with
  | none=>rw [h] at e;cases e
  | some bs=>rw [h] at e;cases e;rw [Zd8 h];rfl
 | .non::_,_,e=>nomatch e
 | .bl _::_,_,e=>nomatch e
 | .str _::_,_,e=>nomatch e
 | .ty _::_,_,e=>nomatch e
 | .tup _::_,_,e=>nomatch e
 | .lst _ _::_,_,e=>nomatch e
theorem ZiY:∀ (ns:List Int),ZbV (ns.map D.int)=some ns
 | []=>rfl
 | n::ns=>by simp only [Qai,ZbV,ZiY ns];rfl
theorem Zdr:∀ {bs:List Int} {vs:List V},DenL K N H (bs.map D.int) vs->vs=bs.map V.int
 | [],_,h=>by simpa only [Qa3,DenL] using h
 | b::bs,_,h=>by
  simp only [Qai,DenL,Den] at h
  obtain ⟨v,r,e,hv,t⟩:=h
  subst e hv
  rw [Zdr t];rfl
end
section
variable {X:Cx}
theorem ZnC (hc:X.calm=true):CallR X (.builtin "sum") (fun xs H Q=>∃ (a:Addr) (ns:List Int),xs=[.ref a]/\SqL X.K H a (ns.map V.int)/\Q (.int ns.sum) H):=by
 intro pins s σ H xs us Q I r h
 obtain ⟨a,ns,rfl,hs,q⟩:=h
 obtain ⟨u,rfl,rx⟩:=ZaV r
 cases rx
 obtain ⟨its,rv,p,hz⟩:=I.list hs
 have hi:IntsAre its ns:=ZdL rv
 obtain ⟨ys,hy⟩:=hi.allInts.items
 have hl':s.heap.IsList a (QbU ys):=hy ▸ p.isList
 refine sum_intListG (I.ok.hd hc) hl' fun h' tk t' hk=>?_
 have e1:ns=ys.toList.map (·.1):=by
  rw [<- nums_intItems,<- hy]
  exact (show numsOf its.toArray.toList=ns from hi.numsOf).symm
 have e2:preSum (numAt ys) ys.size=ns.sum:=by
  rw [preSum_eq,Qbx (by simp),e1]
 rw [e2]
 exact ⟨.int ns.sum,H,I.kept (t':=tk) hk,⟨_,rfl⟩,q⟩
end
def Zm4:List Int->Option Int
 | []=>none
 | x::xs=>some (xs.foldl (fun m y=>if y<m then y else m) x)
def ZmH:List Int->Option Int
 | []=>none
 | x::xs=>some (xs.foldl (fun m y=>if y > m then y else m) x)
theorem Zj5:∀ (xs:List Int) (x:Int),(xs.foldl (fun m y=>if y<m then y else m) x)∈x::xs/\∀ a∈x::xs,(xs.foldl (fun m y=>if y<m then y else m) x)<=a
 | [],x=>by simp
 | y::ys,x=>by
  simp only [QbV]
  obtain ⟨h1,h2⟩:=Zj5 ys (if y<x then y else x)
  have hle:=h2 _ Qam
  have k1:(if y<x then y else x)<=x:=by split<;>omega
  have k2:(if y<x then y else x)<=y:=by split<;>omega
  refine ⟨?_,fun a ha=>?_⟩
  ·rcases Qbk.mp h1 with h | h
   ·rw [h];split<;>simp
   ·exact Qag _ (Qag _ h)
  ·rcases Qbk.mp ha with rfl | ha
   ·exact Int.le_trans hle k1
   ·rcases Qbk.mp ha with rfl | ha
    ·exact Int.le_trans hle k2
    ·exact h2 a (Qag _ ha)
theorem Zkb:∀ (xs:List Int) (x:Int),(xs.foldl (fun m y=>if y > m then y else m) x)∈x::xs/\∀ a∈x::xs,a<=(xs.foldl (fun m y=>if y > m then y else m) x)
 | [],x=>by simp
 | y::ys,x=>by
  simp only [QbV]
  obtain ⟨h1,h2⟩:=Zkb ys (if y > x then y else x)
  have hle:=h2 _ Qam
  have k1:x<=(if y > x then y else x):=by split<;>omega
  have k2:y<=(if y > x then y else x):=by split<;>omega
  refine ⟨?_,fun a ha=>?_⟩
  ·rcases Qbk.mp h1 with h | h
   ·rw [h];split<;>simp
   ·exact Qag _ (Qag _ h)
  ·rcases Qbk.mp ha with rfl | ha
   ·exact Int.le_trans k1 hle
   ·rcases Qbk.mp ha with rfl | ha
    ·exact Int.le_trans k2 hle
    ·exact h2 a (Qag _ ha)
theorem Znz {ns:List Int} {m k:Int} (h:Zm4 ns=some k) (h1:m∈ns) (h2:∀ a,a∈ns->m<=a):m=k:=by
 cases ns with
 | nil=>cases h
 | cons x xs =>
  cases h
  obtain ⟨q1,q2⟩:=Zj5 xs x
  have:=h2 _ q1
  have:=q2 _ h1
  omega
theorem Zoy {ns:List Int} {m k:Int} (h:ZmH ns=some k) (h1:m∈ns) (h2:∀ a,a∈ns->a<=m):m=k:=by
 cases ns with
 | nil=>cases h
 | cons x xs =>
  cases h
  obtain ⟨q1,q2⟩:=Zkb xs x
  have:=h2 _ q1
  have:=q2 _ h1
  omega
section
variable {K:Qab}
@[simp] def Zp9:List D->Option D
  | [.lst xs]=>(ZbV xs).map fun ns=>.int ns.sum
  | _=>none
@[simp] def ZvY:List D->Option D
  | [.lst xs]=>((ZbV xs).bind Zm4).map D.int
  | _=>none
@[simp] def Zv0:List D->Option D
  | [.lst xs]=>((ZbV xs).bind ZmH).map D.int
  | _=>none
theorem ZtF:RcD K (fun xs H Q=>∃ (a:Addr) (ns:List Int),xs=[.ref a]/\SqL K H a (ns.map V.int)/\Q (.int ns.sum) H) Zp9:=by
 intro N H vs ds d Q nh h e q
 unfold Zp9 at e
 split at e
 ·next xs =>
  cases hb:ZbV xs with
  | none=>rw [hb] at e;cases e
  | some bs =>
   rw [hb] at e;cases e
   obtain ⟨v,rfl,hv⟩:=Paired.one' h
   obtain ⟨a,ws,e1,q1,r1⟩:=hv
   subst e1
   rw [Zd8 hb] at r1
   rw [Zdr r1] at q1
   exact ⟨a,bs,rfl,q1,q _ H (Same.refl H) ZaN⟩
 ·cases e
@[simp] def tyD:D->Option String
  | .non=>some "NoneType"
  | .bl _=>some "bool"
  | .int _=>some "int"
  | .str _=>some "str"
  | .tup _=>some "tuple"
  | .lst _=>some "list"
  | .lst _ true=>none
  | .ty _=>none
def Zis (t n:String):Bool:=t==n||(t=="bool"&&n=="int")
end
def Zbo:List String:=["NoneType","bool","int","str","tuple","list"]
theorem ZlH (K:Qab):∀ t∈Zbo,∀ n∈Zbo,Qcn K (.type t) (.type n)=some (Zis t n):=by
 intro t ht n hn
 simp only [Zbo,Qbk,Qbt,or_false] at ht hn
 rcases ht with rfl | rfl | rfl | rfl | rfl | rfl<;>rcases hn with rfl | rfl | rfl | rfl | rfl | rfl<;>with_unfolding_all rfl
theorem ZlP (K:Qab) {t:String} (ht:t∈Zbo):∀ (ns:List String),(∀ n∈ns,n∈Zbo)->PySem.W.kitAny K (.type t) (ns.map Value.type)=some (ns.any fun n=>Zis t n)
 | [],_=>rfl
 | n::ns,h=>by
  have h1:=ZlH K t ht n (h n Qam)
  have h2:=ZlP K ht ns fun m hm=>h m (Qag _ hm)
  simp only [Qai,PySem.W.kitAny,h1,h2,List.any_cons]
  cases Zis t n<;>rfl
theorem Zmd {d:D} {t:String} (h:tyD d=some t):t∈Zbo:=by
 cases d with
 | lst xs fl=>cases fl<;>simp [tyD] at h;subst h;simp [Zbo]
 | _=>simp [tyD] at h<;>subst h<;>simp [Zbo]
section
variable {X:Cx} {K:Qab}
theorem Ztg {pins:List (Addr×Obj)} {σ:St} {H:Hp} {s:Shared} (I:Inv X pins σ H s) {N:Fb} {d:D} {x:V} {u:Value} {t:String} (hx:DenP X.K N H d x) (rx:RelV x u) (ht:tyD d=some t) :
  ∃ HP:Heap->Prop,PySem.W.KitX X.K u (.type t) HP/\HP s.heap/\u≠.builtin "__main__.__loader__#opaque":=by
 cases d with
 | non=>cases ht;rw [hx.non] at rx;cases rx;exact ⟨_,PySem.W.kitx_none,trivial,fun z=>nomatch z⟩
 | bl b=>cases ht;rw [hx.bl] at rx;cases rx;exact ⟨_,PySem.W.kitx_bool,trivial,fun z=>nomatch z⟩
 | int b=>cases ht;rw [hx.int] at rx;obtain ⟨t,rfl⟩:=rx;exact ⟨_,PySem.W.kitx_int,trivial,fun z=>nomatch z⟩
 | str b=>cases ht;rw [hx.str] at rx;obtain ⟨t,rfl⟩:=rx;exact ⟨_,PySem.W.kitx_str,trivial,fun z=>nomatch z⟩
 | ty n=>cases ht
 | tup xs =>
  cases ht
  obtain ⟨a,vs,e,q,r⟩:=hx.tup
  subst e;cases rx
  obtain ⟨its,_,⟨o,h1,h2,_⟩,_⟩:=I.tuple q
  exact ⟨_,PySem.W.kitx_tuple,⟨o,h1,h2⟩,fun z=>nomatch z⟩
 | lst xs fl =>
  cases fl with
  | true=>cases ht
  | false =>
  cases ht
  obtain ⟨a,vs,e,q,r⟩:=hx
  subst e;cases rx
  obtain ⟨its,_,⟨o,n,h1,h2,_⟩,_⟩:=I.list q
  exact ⟨_,PySem.W.kitx_list,⟨o,h1,h2⟩,fun z=>nomatch z⟩
@[simp] def tysOf:D->Option (List String)
  | .ty n=>some [n]
  | .tup xs=>tysL xs
  | _=>none
where tysL:List D->Option (List String)
 | []=>some []
 | .ty n::r=>(tysL r).map (n::·)
 | _=>none
theorem Zk3:∀ {xs:List D} {ns:List String},tysOf.tysL xs=some ns->xs=ns.map D.ty
 | [],_,e=>by cases e;rfl
 | .ty b::r,_,e=>by
  simp only [tysOf.tysL] at e
  cases h:tysOf.tysL r with
  | none=>rw [h] at e;cases e
  | some bs=>rw [h] at e;cases e;rw [Zk3 h];rfl
 | .non::_,_,e=>nomatch e
 | .bl _::_,_,e=>nomatch e
 | .int _::_,_,e=>nomatch e
 | .str _::_,_,e=>nomatch e
 | .tup _::_,_,e=>nomatch e
 | .lst _ _::_,_,e=>nomatch e
@[simp] def isD:List D->Option D
  | [x,c]=>(tysOf c).bind fun ns=>if (∀ n∈ns,n∈Zbo) then (tyD x).map fun t=>.bl (ns.any fun n=>Zis t n) else none
  | _=>none
def ZsG (K:Qab):List V->Hp->VK->Prop:=fun vs H Q=>∃ N d c x y ns t,vs=[x,y]/\DenP K N H d x/\DenP K N H c y/\tysOf c=some ns/\(∀ n∈ns,n∈Zbo)/\tyD d=some t/\Q (.bl (ns.any fun n=>Zis t n)) H
theorem Zjz {N:Fb} {H:Hp}:∀ {ns:List String} {vs:List V},DenL K N H (ns.map D.ty) vs->vs=ns.map V.ty
 | [],_,h=>by simpa only [Qa3,DenL] using h
 | b::bs,_,h=>by
  simp only [Qai,DenL,Den] at h
  obtain ⟨v,r,e,hv,t⟩:=h
  subst e hv
  rw [Zjz t];rfl
theorem Zkx:∀ {ns:List String} {us:List Value},Vals (ns.map V.ty) us->us=ns.map Value.type
 | [],_,r=>by cases r;rfl
 | n::ns,_,r=>by
  cases r with
  | cons r1 r2=>cases r1;rw [Zkx r2];rfl
theorem ZbR:CallR X (.builtin "isinstance") (ZsG X.K):=by
 intro pins s σ H xs us Q I r h
 obtain ⟨N,d,c,x,y,ns,t,rfl,hx,hy,hns,hin,ht,q⟩:=h
 obtain ⟨u,w',rfl,rx,ry⟩:=ZhQ r
 obtain ⟨HP,Z,p,hne⟩:=Ztg I hx rx ht
 cases c with
 | ty n =>
  cases hns
  rw [hy.ty] at ry;cases ry
  refine PySem.W.kia_one Z I.kIn p (ZlH X.K t (Zmd ht) n (hin n (by simp))) hne fun tk=>⟨.bl _,H,I.tok tk,rfl,?_⟩
  simpa using q
 | tup xs =>
  have e:=Zk3 hns
  subst e
  obtain ⟨a,vs,e,sq,dl⟩:=hy.tup
  subst e;cases ry
  obtain ⟨its,rv,⟨⟨cls,dd,data,sl⟩,h1,h2,n,h3⟩,_⟩:=I.tuple sq
  simp only at h2 h3
  subst h2 h3
  have e2:=Zjz dl
  subst e2
  have e3:=Zkx rv
  subst e3
  exact PySem.W.kia_tup Z I.kIn p h1 (ZlP X.K (Zmd ht) ns hin) hne fun tk=>⟨.bl _,H,I.tok tk,rfl,q⟩
 | non=>cases hns
 | bl _=>cases hns
 | int _=>cases hns
 | str _=>cases hns
 | lst _=>cases hns
theorem Zex:RcD K (ZsG K) isD:=by
 intro N H vs ds d Q nh h e q
 unfold isD at e
 split at e
 ·next x c =>
  cases hc:tysOf c with
  | none=>rw [hc] at e;cases e
  | some ns =>
   rw [hc] at e
   simp only [Qah] at e
   split at e
   ·next hin =>
    cases ht:tyD x with
    | none=>rw [ht] at e;cases e
    | some t =>
     rw [ht] at e;cases e
     obtain ⟨v,w,rfl,hv,hw⟩:=Paired.two' h
     exact ⟨N,x,c,v,w,ns,t,rfl,hv,hw,hc,hin,ht,q _ H (Same.refl H) Zdo⟩
   ·cases e
 ·cases e
theorem ZbW {M:Fb} {H0:Hp} {x:Str} {n:String} {pos:Pos} (hg:Gl X x) (hm:X.mg x=none) (hv:Qbe x=some (.type n)) (hn:x≠"__name__":=by decide) (hd:(x==("__debug__":Str))=false:=by decide):JE X (.Name x pos) (tD K M H0 fun _=>some (.ty n)):=⟨ZjR (Zmf hg hm hv (v:=.ty n) rfl hn hd) fun _ _=>by simp only [Den]⟩
end
end L2
namespace L2
open PySem PySem.Spec PyProof.Rows
section
variable {X:Cx} {K:Qab} {M:Fb} {H0:Hp} {a b c e tg iter:Expr} {es:List Expr} {f g h:VE->Option D} {fa:VE->Option (List Sl)} {pos:Pos}
theorem vv (i:Nat) {x:Str} (hN:X.N[i]?=some x:=by rfl) (hv:Vis X.env.scope x:=by first | exact Or.inl rfl | exact Or.inr (Or.inl rfl) | exact Or.inr (Or.inr rfl)) (hd:(x==("__debug__":Str))=false:=by decide) (hcd:(x==("__classdict__":Str))=false:=by decide) :
  PE X (.Name x pos) (tD K M H0 fun ρ=>rdV ρ i):=Zth hN hv hd hcd
theorem ZcD (i:Nat) {x:Str} (hN:X.N[i]?=some x:=by rfl) (hv:Vis X.env.scope x:=by first | exact Or.inl rfl | exact Or.inr (Or.inl rfl) | exact Or.inr (Or.inr rfl)) (hd:(x==("__debug__":Str))=false:=by decide) (hcd:(x==("__classdict__":Str))=false:=by decide):JE X (.Name x pos) (tD K M H0 fun ρ=>rdV ρ i):=⟨vv i hN hv hd hcd⟩
theorem Zl (i:Nat) {x:Str} (hN:X.N[i]?=some x:=by rfl) (hv:Vis X.env.scope x:=by first | exact Or.inl rfl | exact Or.inr (Or.inl rfl) | exact Or.inr (Or.inr rfl)) (hd:(x==("__debug__":Str))=false:=by decide) (hcd:(x==("__classdict__":Str))=false:=by decide):JE X (.Name x pos) (tP K M H0 fun ρ=>rdP ρ i):=⟨Ztu hN hv hd hcd⟩
theorem ZaO (i:Nat) {x:Str} (hN:X.N[i]?=some x:=by rfl) (hv:Vis X.env.scope x:=by first | exact Or.inl rfl | exact Or.inr (Or.inl rfl) | exact Or.inr (Or.inr rfl)) (hd:(x==("__debug__":Str))=false:=by decide) (hcd:(x==("__classdict__":Str))=false:=by decide):JE X (.Name x pos) (tQ K M H0 fun ρ=>rdQ ρ i):=⟨Zsl hN hv hd hcd⟩
theorem va (i:Nat) {x:Str} (hN:X.N[i]?=some x:=by rfl) (hv:Vis X.env.scope x:=by first | exact Or.inl rfl | exact Or.inr (Or.inl rfl) | exact Or.inr (Or.inr rfl)) (hd:(x==("__debug__":Str))=false:=by decide) (hcd:(x==("__classdict__":Str))=false:=by decide) :
  PE X (.Name x pos) (tS1 K M H0 fun ρ=>rdA ρ i):=ZrS hN hv hd hcd
theorem Zp (i:Nat) {x:Str} (hN:X.N[i]?=some x:=by rfl) (hv:Vis X.env.scope x:=by first | exact Or.inl rfl | exact Or.inr (Or.inl rfl) | exact Or.inr (Or.inr rfl)) (hd:(x==("__debug__":Str))=false:=by decide) (hcd:(x==("__classdict__":Str))=false:=by decide):JE X (.Name x pos) (tS1 K M H0 fun ρ=>rdA ρ i):=⟨va i hN hv hd hcd⟩
theorem ZkQ (i:Nat) {x:Str} {vpos:Pos} (hN:X.N[i]?=some x:=by rfl) (hv:Vis X.env.scope x:=by first | exact Or.inl rfl | exact Or.inr (Or.inl rfl) | exact Or.inr (Or.inr rfl)) (hd:(x==("__debug__":Str))=false:=by decide) (hcd:(x==("__classdict__":Str))=false:=by decide):JS X (.Return (some (.Name x vpos)) pos) (tS K M H0 fun ρ=>Zbm (rdO ρ i)):=⟨Zq4 hN hv hd hcd⟩
theorem Zip (hu:X.A.units+64<cLine) (ha:JE X a (tP X.K M H0 f)) (hb:JE X b (tP X.K M H0 g)):JE X (.Compare a [.Eq] [b] pos) (tD X.K M H0 (Zf eqO f g)):=⟨have ha:=ha.h;have hb:=hb.h;ZhL (ZoJ hu) Zqv ha hb (ZbQ _ (by decide) (by decide))⟩
theorem Zri (hu:X.A.units+64<cLine) (ha:JE X a (tP X.K M H0 f)) (hb:JE X b (tP X.K M H0 g)):JE X (.Compare a [.LtE] [b] pos) (tD X.K M H0 (Zf leD f g)):=⟨have ha:=ha.h;have hb:=hb.h;ZhL Zuc (Zna _) ha hb (ZbQ _ (by decide) (by decide))⟩
theorem Zq6 (hu:X.A.units+64<cLine) (ha:JE X a (tP X.K M H0 f)) (hb:JE X b (tP X.K M H0 g)):JE X (.Compare a [.Gt] [b] pos) (tD X.K M H0 (Zf gtD f g)):=⟨have ha:=ha.h;have hb:=hb.h;ZhL ZqA (Zna _) ha hb (ZbQ _ (by decide) (by decide))⟩
theorem ZdY (hu:X.A.units+64<cLine) (ha:JE X a (tP X.K M H0 f)) (hb:JE X b (tP X.K M H0 g)):JT X (.Compare a [.Eq] [b] pos) (tB' X.K M H0 fun ρ=>asB (Zf eqO f g ρ)):=⟨have ha:=ha.h;have hb:=hb.h;Zf7 (ZoJ hu) Zqv ha hb (ZbQ _ (by decide) (by decide))⟩
theorem ZdV (hu:X.A.units+64<cLine) (ha:JE X a (tP X.K M H0 f)) (hb:JE X b (tP X.K M H0 g)):JT X (.Compare a [.NotEq] [b] pos) (tB' X.K M H0 fun ρ=>asB (Zf neO f g ρ)):=⟨have ha:=ha.h;have hb:=hb.h;Zf7 (Zr0 hu) Zup ha hb (ZbQ _ (by decide) (by decide))⟩
theorem Zkf (hu:X.A.units+64<cLine) (ha:JE X a (tP X.K M H0 f)) (hb:JE X b (tP X.K M H0 g)):JT X (.Compare a [.Lt] [b] pos) (tB' X.K M H0 fun ρ=>asB (Zf ltO f g ρ)):=⟨have ha:=ha.h;have hb:=hb.h;Zf7 (Ztq hu) ZtX ha hb (ZbQ _ (by decide) (by decide))⟩
theorem Zka (hu:X.A.units+64<cLine) (ha:JE X a (tP X.K M H0 f)) (hb:JE X b (tP X.K M H0 g)):JT X (.Compare a [.Gt] [b] pos) (tB' X.K M H0 fun ρ=>asB (Zf gtD f g ρ)):=⟨have ha:=ha.h;have hb:=hb.h;Zf7 ZqA (Zna _) ha hb (ZbQ _ (by decide) (by decide))⟩
@[simp] def ZvW (F F':D->D->Option D) (f g h:VE->Option D):VE->Option D:=fun ρ=>(f ρ).bind fun x=>(g ρ).bind fun y=>match F x y with
  | some (.bl true)=>(h ρ).bind fun z=>F' y z
  | some (.bl false)=>some (.bl false)
  | _=>none
@[simp] def ZaX:Option D->Option Bool
  | some .non=>some false
  | some (.bl b)=>some b
  | some (.int i)=>some (i != 0)
  | some (.str y)=>if y.length<=Qaj then some ((y.length:Int) != 0) else none
  | some (.lst xs)=>some (!xs.isEmpty)
  | some (.tup xs)=>some (!xs.isEmpty)
  | _=>none
theorem DenL.isEmpty {N:Fb} {H:Hp} {xs:List D} {vs:List V} (h:DenL K N H xs vs):vs.isEmpty=xs.isEmpty:=by
 cases xs with
 | nil=>simp only [DenL] at h;subst h;rfl
 | cons x xs=>simp only [DenL] at h;obtain ⟨_,_,e,_⟩:=h;subst e;rfl
theorem Zaw (ha:JE X a (tP X.K M H0 f)) (he:∀ whole,isTrue a X.env whole=(do let v <- whole;standAt a.pos;holding [v] (truthy v)):=by intro _;rfl):JT X a (tB' X.K M H0 fun ρ=>ZaX (f ρ)):=⟨have ha:=ha.h;(ZpO ha he).mono fun σ H Q ⟨ρ,k,R,e,q⟩=>by
  try dsimp only at e q
  unfold ZaX at e
  split at e
  ·next hf=>cases e;exact ⟨ρ,_,R,hf,fun v H' s hv=>⟨_,by rw [hv.non];rfl,q H' s⟩⟩
  ·next hf=>cases e;exact ⟨ρ,_,R,hf,fun v H' s hv=>⟨_,by rw [hv.bl];rfl,q H' s⟩⟩
  ·next hf=>cases e;exact ⟨ρ,_,R,hf,fun v H' s hv=>⟨_,by rw [hv.int];rfl,q H' s⟩⟩
  ·next hf =>
   split at e
   ·next hz=>cases e;exact ⟨ρ,_,R,hf,fun v H' s hv=>⟨_,by rw [hv.str];exact ⟨hz,rfl⟩,q H' s⟩⟩
   ·cases e
  ·next hf =>
   cases e
   refine ⟨ρ,_,R,hf,fun v H' s hv=>⟨_,?_,q H' s⟩⟩
   obtain ⟨p,vs,e1,q1,r1⟩:=hv
   subst e1
   exact .inl ⟨vs,q1,by rw [r1.isEmpty]⟩
  ·next hf =>
   cases e
   refine ⟨ρ,_,R,hf,fun v H' s hv=>⟨_,?_,q H' s⟩⟩
   obtain ⟨p,vs,e1,q1,r1⟩:=hv.tup
   subst e1
   exact .inr (.inl ⟨vs,q1,by rw [r1.isEmpty]⟩)
  ·cases e⟩
@[simp] def ZX:D->Option (List D)
  | .lst xs=>some xs
  | .tup xs=>some xs
  | .str x=>some (x.cps.toList.map fun c=>D.str ⟨#[c]⟩)
  | _=>none
theorem ZaP {l:Expr} (hl:JE X l (tQ X.K M H0 f)):JI X tg l (tI X.K M H0 fun ρ=>(f ρ).bind ZX):=⟨have hl:=hl.h;fun pins s σ H R' I ⟨ρ,ds,R,e,q⟩=>by
 try dsimp only at e
 cases hf:f ρ with
 | none=>rw [hf] at e;cases e
 | some d =>
  rw [hf] at e
  cases d with
  | lst xs fl =>
   cases fl with
   | true=>cases e
   | false=>exact ZrM hl pins s σ H R' I ⟨ρ,ds,R,by dsimp only;rw [hf];exact e,q⟩
  | tup xs=>exact Zsc hl pins s σ H R' I ⟨ρ,ds,R,by dsimp only;rw [hf];exact e,q⟩
  | str x=>exact Zty hl pins s σ H R' I ⟨ρ,ds,R,by dsimp only;rw [hf];exact e,q⟩
  | _=>cases e⟩
@[simp] def Zv7 (i:Nat) (o:Option (List D)) (ρ:VE):Res:=match rdO ρ i,o with
  | some xs,some ys=>if xs.length+ys.length<=Qaj then .next (ρ.set i (.own (xs++ys))) else .fail
  | _,_=>.fail
@[simp] def Zwb (i:Nat) (ρ:VE):Res:=match rdO ρ i with
  | some xs=>.next (ρ.set i (.own xs.reverse))
  | _=>.fail
@[simp] def Zwi (i j:Nat) (ρ:VE):Res:=match rdO ρ j with
  | some xs=>.next ((ρ.set j .no).set i (.own xs))
  | _=>.fail
@[simp] def Zwg (i j:Nat) (ρ:VE):Res:=match rdG ρ j with
  | some xs=>.next ((ρ.set j .no).set i (.own xs true))
  | _=>.fail
end
end L2
namespace L2
theorem PSs.conv {X:Cx} {K:Qab} {M:Fb} {H0:Hp} {b:List PySem.Stmt} {g g':VE->Res} (h:PSs X b (tS K M H0 g)) (e:g=g'):PSs X b (tS K M H0 g'):=e ▸ h
theorem ZU {X:Cx} {K:Qab} {M:Fb} {H0:Hp} {b:List PySem.Stmt} {g g':VE->Res} (h:JB X b (tS K M H0 g)) (e:g=g'):JB X b (tS K M H0 g'):=⟨PSs.conv h.h e⟩
end L2
namespace L2
theorem Zm3 {X:Cx} {e:PySem.Expr} {t:TT} (h:JW X e t):JT X e t:=⟨h.h.pt⟩
end L2
namespace L2
open PySem PySem.Spec PyProof.Rows
def ZcO (ns:List Int):List Int:=ns.mergeSort fun a b=>decide (a<=b)
theorem Zes (ns:List Int):(ZcO ns).Perm ns:=List.mergeSort_perm _ _
theorem ZiJ (ns:List Int):(ZcO ns).Pairwise (·<=·):=by
 have h:=List.pairwise_mergeSort (le:=fun a b:Int=>decide (a<=b)) (by intro a b c h1 h2;simp at *;omega) (by intro a b;simp;omega) ns
 exact h.imp fun h=>by simpa using h
theorem Zn3 {ns ms:List Int} (hp:ms.Perm ns) (h:ms.Pairwise (·<=·)):ms=ZcO ns :=
 Qc8 (le:=(·<=·)) (fun a b _ _ h1 h2=>Int.le_antisymm h1 h2) h (ZiJ ns) (hp.trans (Zes ns).symm)
theorem Zhf (ns:List Int):(ZcO ns).length=ns.length:=(Zes ns).length_eq
section
variable {X:Cx} {K:Qab}
theorem ZmO:CallR X (.builtin "sorted") (fun xs H Q=>∃ (a:Addr) (ns:List Int),xs=[.ref a]/\SqL X.K H a (ns.map V.int)/\ns.length<64/\∀ p,H p=none->Q (.ref p) (upd H p (.lst ((ZcO ns).map V.int)))):=by
 intro pins s σ H xs us Q I r h
 obtain ⟨a,ns,rfl,hs,h64,q⟩:=h
 obtain ⟨u,rfl,rx⟩:=ZaV r
 cases rx
 obtain ⟨its,rv,p,hz⟩:=I.list hs
 have hl:=rv.length
 rw [Qaz] at hl hz
 refine sorted_ints p.isList (ZdL rv) (by omega) fun out ns' a1 a2 a3=>?_
 obtain ⟨e,he⟩:=sortedAll_at s.heap its out
 have en:=Zn3 a2 a3
 subst en
 refine ⟨.ref _,_,I.laid (t':=s.toks) (o:=.lst ((ZcO ns).map V.int)) (fun b o q=>sortedAll_old q) (Nat.le_succ _) ?_,rfl,q _ (I.hok.fresh (Nat.le_succ _))⟩
 exact ⟨by rw [Qaz,Zhf];exact hz,out.toList,e,Zge a1,he⟩
def ZhC:List D->Option (List D)
 | [.lst xs]=>(ZbV xs).bind fun ns=>if ns.length<64 then some ((ZcO ns).map D.int) else none
 | _=>none
theorem ZpW:RcF K (fun xs H Q=>∃ (a:Addr) (ns:List Int),xs=[.ref a]/\SqL K H a (ns.map V.int)/\ns.length<64/\∀ p,H p=none->Q (.ref p) (upd H p (.lst ((ZcO ns).map V.int)))) ZhC:=by
 intro N H vs ds xs Q nh h e q
 unfold ZhC at e
 split at e
 ·next ys =>
  cases hb:ZbV ys with
  | none=>rw [hb] at e;cases e
  | some ns =>
   rw [hb] at e
   simp only [Qah] at e
   split at e
   ·next h64 =>
    cases e
    obtain ⟨v,rfl,hv⟩:=Paired.one' h
    obtain ⟨a,ws,e1,q1,r1⟩:=hv
    subst e1
    rw [Zd8 hb] at r1
    rw [Zdr r1] at q1
    exact ⟨a,ns,rfl,q1,h64,fun p hp=>q _ p hp (DenL.ints _)⟩
   ·cases e
 ·cases e
def Zv8 (i:Nat) (oi ov:Option D) (ρ:VE):Res:=match rdO ρ i,oi,ov with
 | some xs,some (.int k),some d=>match ixN xs.length k with
  | some j=>.next (ρ.set i (.own (xs.set j d)))
  | none=>.fail
 | _,_,_=>.fail
def RmD (K:Qab) (r:V->List V->Hp->VK->Prop) (F:Str->List D->Option D):Prop:=∀ (N:Fb) (H:Hp) (z:Str) (vs:List V) (ds:List D) (d:D) (Q:VK),(∀ a,N a->H a≠none)->Paired (DenP K N H) ds vs->F z ds=some d ->
 (∀ v H',Same H H'->Den K N H' d v->Q v H')->r (.str z) vs H Q
@[simp] def mtO (F:Str->List D->Option D) (f:VE->Option D) (fa:VE->Option (List Sl)):VE->Option D:=fun ρ=>match f ρ with
  | some (.str z)=>((fa ρ).bind pks).bind (F z)
  | _=>none
@[simp] def Zv4 (F:Str->List D->Option D) (f:VE->Option D):VE->Option D:=fun ρ=>match f ρ with
  | some (.str z)=>F z []
  | _=>none
section
variable {M:Fb} {H0:Hp} {o e:Expr} {es:List Expr} {f:VE->Option D} {fa:VE->Option (List Sl)} {name:Str} {apos cpos:Pos} {id:String} {r:V->List V->Hp->VK->Prop} {F:Str->List D->Option D}
theorem ZrQ (pa:PlainAttrs "str") (slot:Slot "str" name id) (hty:typeOf (.builtin id)=pure (.type "method_descriptor")) (hm:MtR X id r) (hF:RmD X.K r F) (ho:JE X o (tP X.K M H0 f)) (ha:JA X (e::es) (tA' X.K M H0 fa)) (hbase:QcZ o name X.env (eval o X.env)=eval o X.env:=by rfl) (hfew:((backTo cpos (Qas (e::es) X.env)).all (fun x=>!x.1)&&(backToKw cpos (keywordEach [] X.env)).all (fun x=>x.1.isSome)
   && decide ((e::es).length+([]:List Keyword).length+(if ([]:List Keyword).isEmpty then 0 else 1)<30))=true:=by rfl) (hline:(apos.endLine==cpos.line)=true:=by rfl) (hs:Qas (e::es) X.env=(false,eval e X.env)::Qas es X.env:=by exact ZaM (fun _ _ z=>nomatch z)) (hplain:(backTo cpos (Qas es X.env)).any (·.1)=false:=by rfl):JE X (.Call (.Attribute o name apos) (e::es) [] cpos) (tD X.K M H0 (mtO F f fa)):=⟨have ho:=ho.h;have ha:=ha.h;(ZmD pa slot hty hm ho ha hbase hfew hline hs hplain).mono fun σ H Q ⟨ρ,d,R,ex,q⟩=>by
 unfold mtO at ex
 split at ex
 ·next z hz =>
  cases hf:fa ρ with
  | none=>rw [hf] at ex;cases ex
  | some ss =>
   rw [hf] at ex
   cases hp:pks ss with
   | none=>simp only [Qah,hp] at ex;cases ex
   | some ds =>
    simp only [Qah,hp] at ex
    refine ⟨ρ,.str z,R,hz,fun v H1 s1 hv=>?_⟩
    rw [hv.str]
    refine ⟨rfl,ρ,ss,R.st s1,hf,fun vs H2 s2 h2=>?_⟩
    exact hF _ H2 z vs ds d Q ((R.st s1).st s2).nh (Zg1 h2 hp) ex fun w H3 s3 hw=>q w H3 ((s1.trans s2).trans s3) hw
 ·cases ex⟩
end
def ZmK:List D->Option (List Str)
 | []=>some []
 | .str b::r=>(ZmK r).map (b::·)
 | _=>none
@[simp] theorem ZqY:∀ (ns:List Str),ZmK (ns.map D.str)=some ns
  | []=>rfl
  | n::ns=>by simp only [Qai,ZmK,ZqY ns];rfl
@[simp] def Zv3 (z:Str):List D->Option D
  | [.lst xs]=>(ZmK xs).bind fun zs=>if (zs.map (·.length)).sum+zs.length * z.length<=16777216 then some (.str (Txt.join z zs)) else none
  | _=>none
@[simp] def ZvX (z:Str):List D->Option D
  | [.str y]=>some (.int (Txt.find z y))
  | _=>none
@[simp] def ZvP (z:Str):List D->Option D
  | []=>if Builtin.Str.tooLong (Txt.upper z).length=false then some (.str (Txt.upper z)) else none
  | _=>none
end
end L2
namespace L2
open PySem PySem.Spec PyProof.Rows
structure Za0 (P:Qav) (w:World) (i:Addr) (fp:List Addr) (n:Nat) (is:Nat->Value->Prop) (st:Nat->Heap->Prop):Prop where
 frame:∀ k h h',st k h->(∀ b,b=i\/b∈fp->∀ o,h.get? b=some o->h'.get? b=some o)->st k h'
 lt:∀ k h,st k h->i<h.objs.size
 item:∀ (A:Around) (E:Value->Shared->Prop) (s:Shared) (k:Nat) (Q:Value->Shared->Prop),k<n->st k s.heap->(∀ v h',is k v->st (k+1) h'->QaX i s.heap h'->Q v { s with heap:=h' })->wpAny (model P w) A (QaB (.ref i)) Q E s
 fin:∀ (A:Around) (E:Value->Shared->Prop) (s:Shared) (k:Nat) (Q:Value->Shared->Prop),A.handled=none->n<=k->st k s.heap->(∀ h' e,Heap.ExtBut i s.heap h'->(∃ o,h'.get? e=some o/\o.cls=.type "StopIteration")->E (.ref e) { s with heap:=h' }) ->
  wpAny (model P w) A (QaB (.ref i)) Q E s
section
variable {prog:Qav} {w:World} {A:Around} {E:Value->Shared->Prop} {s:Shared}
theorem Zh0 {i tu:Addr} {k:Nat} {its:Array Value} {v:Value} {Q:Value->Shared->Prop} (hi:s.heap.IsTupleIter i tu k) (ht:s.heap.IsTuple tu its) (hv:its[k]?=some v)
  (q:∀ h',h'.IsTupleIter i tu (k+1)->QaX i s.heap h'->Q v { s with heap:=h' }):wpAny (model prog w) A (QaB (.ref i)) Q E s:=by
 obtain ⟨oi,e0,c0,f0⟩:=id hi
 obtain ⟨ot,e1,_,m1,f1⟩:=ht
 unfold QaB
 refine Qaa (QaU (name:=QaY "__next__") hi.typeIs QbO (Qa4 QbO hi.typeIs Qdf ?_ (Qde _)))
 show wpAny _ _ (field (.ref i) 0 >>= _) _ _ s
 refine Qaa (QaM e0 f0 (x:=.ref tu) rfl ?_)
 show wpAny _ _ (if (QaR tu==Qbl)=true then _ else _) _ _ s
 rw [if_neg (show ¬ ((QaR tu==Qbl)=true) from QbC)]
 show wpAny _ _ (field (.ref i) 1 >>= _) _ _ s
 refine Qaa (QaM e0 f0 (x:=.int k 0) rfl ?_)
 show wpAny _ _ (seqItems? (.ref tu) >>= _) _ _ s
 refine Qaa (Qa5 e1 f1 ?_)
 simp only [hv,Qbz]
 refine Qaa (QcL e0 f0 (by simp) (Qae ⟨v,rfl,Qae (q _ ?_ (Qcv ..))⟩))
 exact ⟨_,Qcf _ e0 (QcM (QbP f0 _)),(Obj.cls_mapFields ..).trans c0,by rw [QbP f0];simp [rawInt]⟩
theorem Zh8 {i tu:Addr} {k:Nat} {its:Array Value} {Q:Value->Shared->Prop} (hh:A.handled=none) (hi:s.heap.IsTupleIter i tu k) (ht:s.heap.IsTuple tu its) (hv:its[k]?=none)
  (q:∀ h' e,Heap.ExtBut i s.heap h'->(∃ o,h'.get? e=some o/\o.cls=.type "StopIteration")->E (.ref e) { s with heap:=h' }):wpAny (model prog w) A (QaB (.ref i)) Q E s:=by
 obtain ⟨oi,e0,c0,f0⟩:=id hi
 obtain ⟨ot,e1,_,m1,f1⟩:=ht
 unfold QaB
 refine Qaa (QaU (name:=QaY "__next__") hi.typeIs QbO (Qa4 QbO hi.typeIs Qdf ?_ (Qde _)))
 show wpAny _ _ (field (.ref i) 0 >>= _) _ _ s
 refine Qaa (QaM e0 f0 (x:=.ref tu) rfl ?_)
 show wpAny _ _ (if (QaR tu==Qbl)=true then _ else _) _ _ s
 rw [if_neg (show ¬ ((QaR tu==Qbl)=true) from QbC)]
 show wpAny _ _ (field (.ref i) 1 >>= _) _ _ s
 refine Qaa (QaM e0 f0 (x:=.int k 0) rfl ?_)
 show wpAny _ _ (seqItems? (.ref tu) >>= _) _ _ s
 refine Qaa (Qa5 e1 f1 ?_)
 simp only [hv,Qbz]
 refine Qaa (Qb6 (Qaa (QcL e0 f0 (by simp) ?_)))
 show wpAny _ _ (newExc (.type "StopIteration") ([]:List Value) >>= _) _ _ _
 refine Qaa ?_
 simp only [newTuple,newExc]
 refine Qaa (Qbf ?_ (show (0:Nat)<=Qaj by decide))
 refine Qaa (m:=firstArgMember _ _) (wpAny_of_eq (a:=Qbl) (by first | rfl | (unfold firstArgMember;rfl)) ?_)
 refine Qbf ?_ (by first | trivial | (show (0:Nat)<=Qaj;decide) | size_fits)
 unfold raiseNew
 refine Qaa (wpAny_handled ?_)
 first | rw [hh] | rw [show A.in1.handled=none from hh]
 refine Qaa (Qae (wpAny_throw ?_))
 exact q _ _ ((Heap.ExtBut.push (Heap.SameBut.extBut (Qcv ..)) _).push _) ⟨_,Qao _ rfl,rfl⟩
theorem Zqa {P:Qav} {w:World} {i l:Addr} (its:Array Value):Za0 P w i [l] its.size (fun k v=>its[k]?=some v) (fun k h=>h.IsListIter i l k/\h.IsList l its) where
 frame:=fun k h h' ⟨a,b⟩ kp=>⟨a.at fun o e=>kp i (.inl rfl) o e,b.at fun o e=>kp l (.inr (by simp)) o e⟩
 lt:=fun k h ⟨⟨o,e,_⟩,_⟩=>Qaq e
 item:=fun A E s k Q hk ⟨a,b⟩ q=>wpAny_nextOf_list_item a b (Qbn hk) fun h' a' sb=>by
  by_cases hl:l=i
  ·subst hl
   obtain ⟨o,e,c,_⟩:=a
   obtain ⟨o',e',c',_⟩:=b
   rw [e] at e';cases e'
   rw [c] at c'
   exact absurd c' (by decide)
  ·exact q _ h' (Qbn hk) ⟨a',b.extBut sb.extBut hl⟩ sb
 fin:=fun A E s k Q hh hk ⟨a,b⟩ q=>wpAny_nextOf_list_end hh a b (Array.getElem?_eq_none hk) q
theorem ZqS {P:Qav} {w:World} {i l:Addr} (its:Array Value):Za0 P w i [l] its.size (fun k v=>its[k]?=some v) (fun k h=>h.IsTupleIter i l k/\h.IsTuple l its) where
 frame:=fun k h h' ⟨a,b⟩ kp=>⟨a.at fun o e=>kp i (.inl rfl) o e,b.at fun o e=>kp l (.inr (by simp)) o e⟩
 lt:=fun k h ⟨⟨o,e,_⟩,_⟩=>Qaq e
 item:=fun A E s k Q hk ⟨a,b⟩ q=>Zh0 a b (Qbn hk) fun h' a' sb=>by
  by_cases hl:l=i
  ·subst hl
   obtain ⟨o,e,c,_⟩:=a
   obtain ⟨o',e',c',_⟩:=b
   rw [e] at e';cases e'
   rw [c] at c'
   exact absurd c' (by decide)
  ·exact q _ h' (Qbn hk) ⟨a',b.at fun o e=>sb.extBut _ _ hl e⟩ sb
 fin:=fun A E s k Q hh hk ⟨a,b⟩ q=>Zh8 hh a b (Array.getElem?_eq_none hk) q
structure ZApart (z tin tout ia ib:Addr) (fa fb:List Addr):Prop where
 n1:tin≠z
 n2:tout≠z
 n3:ia≠z
 n4:ib≠z
 n5:tin≠tout
 n6:tin≠ia
 n7:tin≠ib
 n8:tout≠ia
 n9:tout≠ib
 n10:ia≠ib
 fz:∀ b,b∈fa\/b∈fb->b≠z/\b≠tout/\b≠ia/\b≠ib
section
variable {z tin tout ia ib:Addr} {fa fb:List Addr} {n m k:Nat} {isA isB:Nat->Value->Prop} {sa sb:Nat->Heap->Prop} {a b:Value}
theorem ZApart.keepA (D:ZApart z tin tout ia ib fa fb) (SA:Za0 prog w ia fa n isA sa) {h h':Heap} (st:sa k h) {c:Addr} (hc:c=z\/c=tout\/c=ib) (sb':QaX c h h'):sa k h' :=
 SA.frame k h h' st fun x hx o e=>by
  refine sb'.extBut x o ?_ e
  rcases hx with rfl | hx
  ·rcases hc with rfl | rfl | rfl
   ·exact D.n3
   ·exact QaD D.n8
   ·exact D.n10
  ·obtain ⟨q1,q2,q3,q4⟩:=D.fz x (.inl hx)
   rcases hc with rfl | rfl | rfl
   ·exact q1
   ·exact q2
   ·exact q4
theorem ZApart.keepB (D:ZApart z tin tout ia ib fa fb) (SB:Za0 prog w ib fb n isB sb) {h h':Heap} (st:sb k h) {c:Addr} (hc:c=z\/c=tout\/c=ia) (sb':QaX c h h'):sb k h' :=
 SB.frame k h h' st fun x hx o e=>by
  refine sb'.extBut x o ?_ e
  rcases hx with rfl | hx
  ·rcases hc with rfl | rfl | rfl
   ·exact D.n4
   ·exact QaD D.n9
   ·exact QaD D.n10
  ·obtain ⟨q1,q2,q3,q4⟩:=D.fz x (.inr hx)
   rcases hc with rfl | rfl | rfl
   ·exact q1
   ·exact q2
   ·exact q3
end
end
end L2
namespace L2
open PySem PySem.Spec PyProof.Rows
section
variable {X:Cx} {pins:List (Addr×Obj)} {σ:St} {H:Hp} {s:Shared} {h':Heap}
theorem Inv.turnedL {fp:List Addr} (I:Inv X pins σ H s) (hf:∀ b∈fp,Zc3 X pins H b) (k:∀ b o,b∉fp->s.heap.get? b=some o->h'.get? b=some o):Inv X pins σ H { s with heap:=h' }:=by
 have nit:∀ b u,H b=some u->b∉fp:=fun b u e z=>by rw [(hf b z).1] at e;cases e
 refine I.step (g':=s.gens) (d':=s.drawn) (t':=s.toks) (ch:=fp) (fun b hb=>?_) (fun b o _ _ hc e _=>k b o hc e) (fun b o _ _ hc e _=>⟨o.slots,k b o hc e⟩) (fun _ _ _ _ n=>n)
  (fun b o hc e=>⟨o,k b o hc e⟩) (fun _ _ e=>e) (fun _ _ _ e=>e) (fun b ps e=>⟨#[],by rw [e];simp⟩) (fun m hm=>?_) (fun b u e=>?_) I.bare
 ·obtain ⟨_,f1,_,f3,f4,f5⟩:=hf b hb
  exact ⟨f3,f1,f4,f5⟩
 ·obtain ⟨o,es,ep,ho,r⟩:=hm
  exact ⟨o,es,ep,k _ o (fun z=>(hf _ z).2.1 rfl) ho,r⟩
 ·refine (I.hok b u e).stay (fun c v hc q=>k c v ?_ q) (fun _ q=>q) fun _ _ q=>q
  rcases hc with z | z
  ·rw [z];exact nit b u e
  ·exact nit c _ z
theorem Inv.yielded {fp:List Addr} {p:Addr} {vs:List V} (I:Inv X pins σ H s) (hf:∀ b∈fp,Zc3 X pins H b) (k:∀ b o,b∉fp->s.heap.get? b=some o->h'.get? b=some o) (hp:s.heap.objs.size<=p)
  (new:ObjOk X.prog X.w (upd H p (.tup vs)) h' p (.tup vs)):Inv X pins σ (upd H p (.tup vs)) { s with heap:=h' }:=by
 have nit:∀ b u,H b=some u->b∉fp:=fun b u e z=>by rw [(hf b z).1] at e;cases e
 have hn:H p=none:=I.hok.fresh hp
 refine I.step (g':=s.gens) (d':=s.drawn) (t':=s.toks) (ch:=fp) (fun b hb=>?_) (fun b o _ _ hc e _=>k b o hc e) (fun b o _ _ hc e _=>⟨o.slots,k b o hc e⟩) (fun b o _ e n=>?_)
  (fun b o hc e=>⟨o,k b o hc e⟩) (fun b xs e=>?_) (fun b o u e=>?_) (fun b ps e=>⟨#[],?_⟩) (fun m hm=>?_) (fun b u e=>?_) I.bare
 ·obtain ⟨_,f1,_,f3,f4,f5⟩:=hf b hb
  exact ⟨f3,f1,f4,f5⟩
 ·rw [Zt (QaL (Qay (Qaq e) hp))];exact n
 ·rw [Zt (Z1 e hn)];exact e
 ·rw [Zt (Z1 e hn)];exact e
 ·rw [Zt (Z1 e hn),e];simp
 ·obtain ⟨o,es,ep,ho,r⟩:=hm
  exact ⟨o,es,ep,k _ o (fun z=>(hf _ z).2.1 rfl) ho,r⟩
 ·by_cases hb:b=p
  ·subst hb;rw [Zad] at e;cases e;exact new
  ·rw [Zt hb] at e
   refine (I.hok b u e).stay (fun c v hc q=>k c v ?_ q) (fun c q=>by rw [Zt (Z1 q hn)];exact q) fun c xs q=>by rw [Zt (Z1 q hn)];exact q
   rcases hc with z | z
   ·rw [z];exact nit b u e
   ·exact nit c _ z
end
inductive Src where
 | l (a:Addr)
 | t (a:Addr)
@[reducible] def Src.ad:Src->Addr
  | .l a=>a
  | .t a=>a
def Src.sq (K:Qab) (H:Hp):Src->List V->Prop
 | .l a=>SqL K H a
 | .t a=>SqT K H a
def Src.nm:Src->String
 | .l _=>"list_iterator"
 | .t _=>"tuple_iterator"
def Src.ok (h:Heap) (its:Array Value):Src->Prop
 | .l a=>h.IsList a its
 | .t a=>h.IsTuple a its
def Src.it (h:Heap) (i:Addr) (k:Nat):Src->Prop
 | .l a=>h.IsListIter i a k
 | .t a=>h.IsTupleIter i a k
theorem Src.of (S:Src) {X:Cx} {pins:List (Addr×Obj)} {σ:St} {H:Hp} {s:Shared} {xs:List V} (I:Inv X pins σ H s) (h:S.sq X.K H xs):∃ its:List Value,Vals xs its/\S.ok s.heap its.toArray/\xs.length<=Qaj:=by
 cases S with
 | l a=>obtain ⟨its,r,p,z⟩:=I.list h;exact ⟨its,r,p.isList,z⟩
 | t a=>obtain ⟨its,r,p,z⟩:=I.tuple h;exact ⟨its,r,(show s.heap.IsTuple a its.toArray from p),z⟩
theorem Src.inj (S:Src) {X:Cx} {pins:List (Addr×Obj)} {σ:St} {H:Hp} {s:Shared} {xs ys:List V} (I:Inv X pins σ H s) (h:S.sq X.K H xs) (h':S.sq X.K H ys):xs=ys:=by
 cases S with
 | l a=>exact I.list_inj h h'
 | t a=>exact I.tuple_inj h h'
theorem Src.lt (S:Src) {h:Heap} {its:Array Value} (p:S.ok h its):S.ad<h.objs.size:=by
 cases S with
 | l a=>obtain ⟨o,e,_⟩:=p;exact Qaq e
 | t a=>obtain ⟨o,e,_⟩:=p;exact Qaq e
theorem Src.okAt (S:Src) {h h':Heap} {its:Array Value} (p:S.ok h its) (k:∀ o,h.get? S.ad=some o->h'.get? S.ad=some o):S.ok h' its:=by
 cases S with
 | l a=>exact Heap.IsList.at p k
 | t a=>exact Heap.IsTuple.at p k
theorem Src.itAt (S:Src) {h h':Heap} {i:Addr} {n:Nat} (p:S.it h i n) (k:∀ o,h.get? i=some o->h'.get? i=some o):S.it h' i n:=by
 cases S with
 | l a=>exact Heap.IsListIter.at p k
 | t a=>exact Heap.IsTupleIter.at p k
theorem Src.itOb (S:Src) {h:Heap} {i:Addr} {n:Nat} (p:S.it h i n):∃ o,h.get? i=some o/\∀ v,o.data≠.cell v:=by
 cases S with
 | l a=>obtain ⟨o,e,c,d⟩:=p;exact ⟨o,e,fun v z=>by rw [d] at z;cases z⟩
 | t a=>obtain ⟨o,e,c,d⟩:=p;exact ⟨o,e,fun v z=>by rw [d] at z;cases z⟩
theorem Src.sub (S:Src) {P:Qav} {w:World} {i:Addr} (its:Array Value):Za0 P w i [S.ad] its.size (fun k v=>its[k]?=some v) (fun k h=>S.it h i k/\S.ok h its):=by
 cases S with
 | l a=>exact Zqa its
 | t a=>exact ZqS its
def Src.obj (S:Src):Obj:={ cls:=.type S.nm,data:=.fields #[.ref S.ad,.int 0 0] }
theorem Src.pyIter (S:Src) {prog:Qav} {w:World} {A:Around} {E:Value->Shared->Prop} {s:Shared} {its:Array Value} {Q:Value->Shared->Prop} (p:S.ok s.heap its)
  (q:Q (.ref s.heap.objs.size) { s with heap:=s.heap.push S.obj }):wpAny (model prog w) A (pyIter (.ref S.ad)) Q E s:=by
 cases S with
 | l a=>exact QcF p q
 | t a=>exact wpAny_pyIter_tuple p q
theorem Src.new (S:Src) {h:Heap}:S.it (h.push S.obj) h.objs.size 0:=by
 cases S with
 | l a=>exact ⟨_,Qao _ rfl,rfl,rfl⟩
 | t a=>exact ⟨_,Qao _ rfl,rfl,rfl⟩
@[reducible] def zh1 (h:Heap) (A:Src):Heap:=h.push A.obj
@[reducible] def zh2 (h:Heap) (A B:Src):Heap:=(zh1 h A).push B.obj
@[reducible] def zh3 (h:Heap) (A B:Src):Heap:=(zh2 h A B).push { cls:=.type "tuple",data:=.seq #[.ref h.objs.size,.ref (zh1 h A).objs.size] }
@[reducible] def zh4 (h:Heap) (A B:Src):Heap:=(zh3 h A B).push { cls:=.type "tuple",data:=.seq #[.none,.none] }
@[reducible] def zh5 (h:Heap) (A B:Src):Heap:=(zh4 h A B).push { cls:=.type "zip",data:=.fields #[.none,.bool false,.bool false,.ref (zh2 h A B).objs.size,.ref (zh3 h A B).objs.size] }
theorem Zrf (A B:Src) (xs ys:Array Value):Meets (Builtin.«zip.__new__» ⟨[.type "zip",.ref A.ad,.ref B.ad],[]⟩) (fun _ R s=>A.ok s.heap xs/\B.ok s.heap ys/\R (.ok (.ret (.ref (zh4 s.heap A B).objs.size))) { s with heap:=zh5 s.heap A B }) :=
 .of_wp fun prog w A' R s h=>by
  obtain ⟨hp,g,d,tk,os⟩:=s;obtain ⟨h1,h2,q⟩:=h
  have hs:=sub_zip
  have k1:A.ok (Shared.heap ⟨hp,g,d,tk,os⟩) xs:=h1
  have k2:B.ok (Shared.heap ⟨hp.push A.obj,g,d,tk,os⟩) ys:=B.okAt h2 fun o e=>Qac _ e
  wp_walk using A.pyIter k1,B.pyIter k2
  exact ⟨_,rfl,q⟩
end L2
namespace L2
open PySem PySem.Spec PyProof.Rows
section
variable {prog:Qav} {w:World} {A:Around} {E:Value->Shared->Prop} {s:Shared}
theorem Zp7 {S T:Src} {xs ys:Array Value} {Q:Value->Shared->Prop} (p1:S.ok s.heap xs) (p2:T.ok s.heap ys)
  (q:∀ h',IsZip h' (s.heap.objs.size+4) (s.heap.objs.size+2) (s.heap.objs.size+3) .none->IsPair h' (s.heap.objs.size+2) (.ref s.heap.objs.size) (.ref (s.heap.objs.size+1)) ->
   IsPair h' (s.heap.objs.size+3) .none .none->S.it h' s.heap.objs.size 0->T.it h' (s.heap.objs.size+1) 0->(∀ c o,s.heap.get? c=some o->h'.get? c=some o)->Q (.ref (s.heap.objs.size+4)) { s with heap:=h' }) :
  wpAny (model prog w) A (call (.type "zip") [.ref S.ad,.ref T.ad]) Q E s:=by
 refine callType_new PySem.F.called_zip (by decide) (PySem.F.typeCall_zip_2 _ _) (PySem.F.newCall_zip_2 _ _) (fun obj=>PySem.F.args_object_init_3 obj _ _) PySem.F.entry_zip_new (Zrf S T xs ys) ⟨p1,p2,?_⟩
 have z1:(zh1 s.heap S).objs.size=s.heap.objs.size+1:=Qba ..
 have z2:(zh2 s.heap S T).objs.size=s.heap.objs.size+2:=by rw [Qba,z1]
 have z3:(zh3 s.heap S T).objs.size=s.heap.objs.size+3:=by rw [Qba,z2]
 have z4:(zh4 s.heap S T).objs.size=s.heap.objs.size+4:=by rw [Qba,z3]
 have g5:(zh5 s.heap S T).get? (zh4 s.heap S T).objs.size=some _:=Qao _ rfl
 have g4:(zh5 s.heap S T).get? (zh3 s.heap S T).objs.size=some _:=Qac _ (Qao _ rfl)
 have g3:(zh5 s.heap S T).get? (zh2 s.heap S T).objs.size=some _:=Qac _ (Qac _ (Qao _ rfl))
 have up:∀ c o,(zh2 s.heap S T).get? c=some o->(zh5 s.heap S T).get? c=some o:=fun c o e=>Qac _ (Qac _ (Qac _ e))
 have t2:T.it (zh5 s.heap S T) (zh1 s.heap S).objs.size 0:=T.itAt (T.new (h:=zh1 s.heap S)) fun o e=>up _ o e
 have t1:S.it (zh5 s.heap S T) s.heap.objs.size 0:=S.itAt (S.new (h:=s.heap)) fun o e=>up _ o (Qac _ e)
 show _/\_
 rw [z2,z3,z4] at g5
 rw [z1,z2] at g3
 rw [z3] at g4
 rw [z1] at t2
 rw [z4]
 exact ⟨⟨_,g5,rfl⟩,q _ g5 g3 g4 t1 t2 fun c o e=>up _ _ (Qac _ (Qac _ e))⟩
end
def Itz (K:Qab) (S T:Src):It :=
 ⟨fun i H=>∃ xs ys x y,S.sq K H xs/\T.sq K H ys/\xs[i]?=some x/\ys[i]?=some y,
  fun i H v H'=>∃ p x y,v=.ref p/\H p=none/\H'=upd H p (.tup [x,y])/\(∀ xs,S.sq K H xs->xs[i]?=some x)/\∀ ys,T.sq K H ys->ys[i]?=some y,
  fun i H=>∃ xs ys,S.sq K H xs/\T.sq K H ys/\(xs.length<=i\/ys.length<=i)⟩
theorem ZoI {n:Nat} {S T:Src} (h1:S.ad<n) (h2:T.ad<n):ZApart (n+4) (n+2) (n+3) n (n+1) [S.ad] [T.ad] where
 n1:=by (show @Ne Nat _ _;omega)
 n2:=by (show @Ne Nat _ _;omega)
 n3:=by (show @Ne Nat _ _;omega)
 n4:=by (show @Ne Nat _ _;omega)
 n5:=by (show @Ne Nat _ _;omega)
 n6:=by (show @Ne Nat _ _;omega)
 n7:=by (show @Ne Nat _ _;omega)
 n8:=by (show @Ne Nat _ _;omega)
 n9:=by (show @Ne Nat _ _;omega)
 n10:=by (show @Ne Nat _ _;omega)
 fz:=fun b hb=>by
  have hl:(b:Nat)<n:=by
   rcases hb with z | z
   ·rw [List.mem_singleton.mp z];exact h1
   ·rw [List.mem_singleton.mp z];exact h2
  exact ⟨fun e=>by subst e;exact absurd hl (by show ¬ @LT.lt Nat _ _ _;omega),fun e=>by subst e;exact absurd hl (by show ¬ @LT.lt Nat _ _ _;omega),fun e=>by subst e;exact absurd hl (by show ¬ @LT.lt Nat _ _ _;omega),fun e=>by subst e;exact absurd hl (by show ¬ @LT.lt Nat _ _ _;omega)⟩
theorem ZiK:Qbe "zip"=some (.type "zip"):=by decide +kernel
@[simp] def Zao:D->Option (List D)
  | .lst xs=>some xs
  | .tup xs=>some xs
  | _=>none
theorem DenQ.src {K:Qab} {M N:Fb} {H:Hp} {d:D} {v:V} {xs:List D} (h:DenQ K M N H d v) (e:Zao d=some xs) :
  ∃ (S:Src) (vs:List V),v=.ref S.ad/\DenL K N H xs vs/\∀ N2 H2,Step M N N2 H H2->S.sq K H2 vs:=by
 cases d with
 | lst ys fl =>
  cases fl with
  | true=>cases e
  | false =>
  cases e
  obtain ⟨a,vs,e1,hr,hd⟩:=h
  refine ⟨.l a,vs,e1,hd,fun N2 H2 S=>?_⟩
  rcases hr with ⟨hn,hr⟩ | hr
  ·exact .inl (hr.step S (by rcases hn with z | z;exact .inl z;exact .inr (.inl z)))
  ·exact hr.sq
 | tup ys =>
  cases e
  simp only [DenQ,Den] at h
  obtain ⟨a,vs,e1,hr,hd⟩:=h
  exact ⟨.t a,vs,e1,hd,fun N2 H2 S=>hr.step S⟩
 | _=>cases e
@[simp] def ZdC (f g:VE->Option D):VE->Option (List D):=fun ρ=>match (f ρ).bind Zao,(g ρ).bind Zao with
  | some xs,some ys=>some (QaV (fun x y=>D.tup [x,y]) xs ys)
  | _,_=>none
theorem Zts {K:Qab} {M N:Fb} {H:Hp} {S T:Src} {xs ys:List D} {us vs:List V} (h1:DenL K N H xs us) (h2:DenL K N H ys vs) (q1:∀ N2 H2,Step M N N2 H H2->S.sq K H2 us) (q2:∀ N2 H2,Step M N N2 H H2->T.sq K H2 vs) :
  Zlk K M N H (Itz K S T) (QaV (fun x y=>D.tup [x,y]) xs ys):=fun N2 H2 St i=>by
 have s1:=q1 _ _ St
 have s2:=q2 _ _ St
 have d1:=DenL.step St _ _ h1
 have d2:=DenL.step St _ _ h2
 refine ⟨fun d he=>?_,fun he=>⟨us,vs,s1,s2,?_⟩⟩
 ·rw [List.getElem?_zipWith] at he
  cases ex:xs[i]? with
  | none=>rw [ex] at he;cases he
  | some x =>
   cases ey:ys[i]? with
   | none=>rw [ex,ey] at he;cases he
   | some y =>
    rw [ex,ey] at he;cases he
    obtain ⟨u,eu,du⟩:=d1.get ex
    obtain ⟨v,ev,dv⟩:=d2.get ey
    refine ⟨⟨us,vs,u,v,s1,s2,eu,ev⟩,fun z H3 ⟨p,u',v',e1,hp,e3,w1,w2⟩=>?_⟩
    have:=w1 us s1;rw [eu] at this;cases this
    have:=w2 vs s2;rw [ev] at this;cases this
    subst e1 e3
    exact ⟨Zhd hp,Zc8 hp (DenL.cons du (DenL.cons dv DenL.nil))⟩
 ·have l1:=h1.length
  have l2:=h2.length
  simp only [List.length_zipWith] at he
  omega
section
variable {X:Cx} {M:Fb} {H0:Hp} {f g:VE->Option D} {a b:Expr} {elts:List Expr} {p pos tpos:Pos}
end
end L2
namespace L2
open PySem PySem.Spec PyProof.Rows
section
variable {prog:Qav} {w:World} {A:Around} {E:Value->Shared->Prop} {s:Shared}
theorem ZmW (l:Addr) (items:Array Value) (n:Nat) (dct:Option Addr) (sl:Array (Option Value)) (ob:Obj) (ho:ob={ cls:=.type "list_iterator",data:=.fields #[.ref l,.int 0 0] }) :
  Meets (Builtin.«enumerate.__new__» ⟨[.type "enumerate",.ref l],[]⟩) (fun _ R s=>s.heap.get? l=some { cls:=.type "list",dict:=dct,data:=.seq items n,slots:=sl } /\
   R (.ok (.ret (.ref (s.heap.push ob).objs.size))) { s with heap:=(s.heap.push ob).push { cls:=.type "enumerate",data:=.fields #[.none,.bool false,.ref s.heap.objs.size,rawInt 0,.none,.none] } }):=by
 subst ho;exact meets_enumerate_newL l items n dct sl
theorem Zno (l:Addr) (items:Array Value) (n:Nat) (dct:Option Addr) (sl:Array (Option Value)) :
  Meets (Builtin.«enumerate.__new__» ⟨[.type "enumerate",.ref l],[]⟩) (fun _ R s=>s.heap.get? l=some { cls:=.type "tuple",dict:=dct,data:=.seq items n,slots:=sl } /\
   R (.ok (.ret (.ref (s.heap.push (Src.obj (.t l))).objs.size))) { s with heap:=(s.heap.push (Src.obj (.t l))).push { cls:=.type "enumerate",data:=.fields #[.none,.bool false,.ref s.heap.objs.size,rawInt 0,.none,.none] } }) :=
 .of_wp fun prog w A R s h=>by
  obtain ⟨hp,g,d,tk,os⟩:=s;obtain ⟨e,q⟩:=h
  have hs:=sub_enumerate
  have hL:Src.ok (Shared.heap ⟨hp,g,d,tk,os⟩) items (.t l):=⟨_,e,rfl,n,rfl⟩
  have hI:∀ {prog:Qav} {w:World} {A:Around} {E:Value->Shared->Prop} {Q:Value->Shared->Prop},Q (.ref hp.objs.size) ⟨hp.push (Src.obj (.t l)),g,d,tk,os⟩->wpAny (model prog w) A (pyIter (.ref l)) Q E ⟨hp,g,d,tk,os⟩:=fun q=>Src.pyIter (.t l) hL q
  wp_walk using Qcs e
  refine wpAny_stack_any fun st=>Qae ?_
  split
  ·rename_i c _ _ _ _ _
   cases (c==Value.type "enumerate")
   ·wp_walk using Qcs e,hI
    exact ⟨_,rfl,q⟩
   ·wp_walk using Qcs e,hI
    exact ⟨_,rfl,q⟩
  ·wp_walk using Qcs e,hI
   exact ⟨_,rfl,q⟩
theorem ZoL {S:Src} {items:Array Value} {Q:Value->Shared->Prop} (p:S.ok s.heap items)
  (q:∀ h',IsEnum h' (s.heap.objs.size+1) s.heap.objs.size 0 .none->S.it h' s.heap.objs.size 0->(∀ b o,s.heap.get? b=some o->h'.get? b=some o)->Q (.ref (s.heap.objs.size+1)) { s with heap:=h' }) :
  wpAny (model prog w) A (call (.type "enumerate") [.ref S.ad]) Q E s:=by
 have hz:(s.heap.push S.obj).objs.size=s.heap.objs.size+1:=Qba ..
 have he:IsEnum ((s.heap.push S.obj).push { cls:=.type "enumerate",data:=.fields #[.none,.bool false,.ref s.heap.objs.size,rawInt 0,.none,.none] }) (s.heap.objs.size+1) s.heap.objs.size 0 .none:=by
  have:=Qao (s.heap.push S.obj) (o:={ cls:=.type "enumerate",data:=.fields #[.none,.bool false,.ref s.heap.objs.size,rawInt 0,.none,.none] }) rfl
  rw [hz] at this;exact this
 have fin:(s.TypeIs (.ref 0) "x"->True):=fun _=>trivial
 have last:=q _ he (S.itAt (S.new (h:=s.heap)) fun o e=>Qac _ e) fun b o e=>Qac _ (Qac _ e)
 cases S with
 | l a =>
  obtain ⟨⟨c,dct,dt,sl⟩,hl,hc,n,hd⟩:=p
  replace hc:c=.type "list":=hc
  replace hd:dt=.seq items n:=hd
  subst hc hd
  refine callType_new PySem.F.called_enumerate (by decide) (PySem.F.typeCall_enumerate_1 _) (PySem.F.newCall_enumerate_1 _) (fun obj=>PySem.F.args_object_init_2 obj _) PySem.F.entry_enumerate_new (ZmW a items n dct sl (Src.obj (.l a)) rfl) ⟨hl,?_⟩
  show _/\_
  rw [hz]
  exact ⟨⟨_,he,rfl⟩,last⟩
 | t a =>
  obtain ⟨⟨c,dct,dt,sl⟩,hl,hc,n,hd⟩:=p
  replace hc:c=.type "tuple":=hc
  replace hd:dt=.seq items n:=hd
  subst hc hd
  refine callType_new PySem.F.called_enumerate (by decide) (PySem.F.typeCall_enumerate_1 _) (PySem.F.newCall_enumerate_1 _) (fun obj=>PySem.F.args_object_init_2 obj _) PySem.F.entry_enumerate_new (Zno a items n dct sl) ⟨hl,?_⟩
  show _/\_
  rw [hz]
  exact ⟨⟨_,he,rfl⟩,last⟩
section
variable {e it:Addr} {fa:List Addr} {n k:Nat} {isA:Nat->Value->Prop} {sa:Nat->Heap->Prop} {old:Value}
theorem ZnA {Q:Option Value->Shared->Prop} (SA:Za0 prog w it fa n isA sa) (he:IsEnum s.heap e it k old) (ha:sa k s.heap) (kn:k<n) (hne:e≠it) (hfe:e∉fa)
  (q:∀ x h',isA k x->IsEnumOut h' e it ((k:Int)+1) x s.heap.objs.size->sa (k+1) h'->h'.get? s.heap.objs.size=some { cls:=.type "tuple",data:=.seq #[.int k s.toks,x] } ->
   (∀ b o,b≠e->b≠it->s.heap.get? b=some o->h'.get? b=some o)->Q (some (.ref s.heap.objs.size)) { s with heap:=h',toks:=s.toks+1 }) :
  wpAny (model prog w) A (pyNext (.ref e)) Q E s:=by
 obtain ⟨hp,g,d,tk,os⟩:=s
 have ty:Shared.TypeIs ⟨hp,g,d,tk,os⟩ (.ref e) "enumerate":=⟨_,he,rfl⟩
 unfold pyNext
 refine Qaa (Qb1 (QaU (name:=QaY "__next__") ty Qcb (Qa4 Qcb ty PySem.F.entry_enumerate_next ?_ (PySem.F.args_enumerate_next_1 _))))
 have fr:∀ {h h':Heap},sa (k+1) h->(∀ b o,b≠e->h.get? b=some o->h'.get? b=some o)->sa (k+1) h':=fun st kp=>SA.frame _ _ _ st fun b hb o x=>kp b o (by
  rcases hb with rfl | hb
  ·exact QaD hne
  ·intro z;subst z;exact hfe hb) x
 show wpAny _ _ (field (.ref e) 2 >>= _) _ _ _
 refine Qaa (QaM he rfl (x:=.ref it) rfl ?_)
 refine Qaa (SA.item _ _ _ k _ kn ha fun x h1 hx a1 s1=>?_)
 replace s1:QaX it hp h1:=s1
 have e1:IsEnum h1 e it k old:=(s1.2 e hne).trans he
 show wpAny _ _ (field (.ref e) 3 >>= _) _ _ ⟨h1,g,d,tk,os⟩
 refine Qaa (QaM e1 rfl (x:=rawInt k) rfl ?_)
 show wpAny _ _ (field (.ref e) 4 >>= _) _ _ ⟨h1,g,d,tk,os⟩
 refine Qaa (QaM e1 rfl (x:=.none) rfl ?_)
 show wpAny _ _ (mkInt k >>= _) _ _ ⟨h1,g,d,tk,os⟩
 refine Qaa (wpAny_mkInt ?_)
 show wpAny _ _ (setField (.ref e) 3 (rawInt ((k:Int)+1)) >>= _) _ _ ⟨h1,g,d,tk+1,os⟩
 refine Qaa (QaN e1 (by simp) fun h2 e2 s2=>?_)
 replace s2:QaX e h1 h2:=s2
 replace e2:IsEnum h2 e it ((k:Int)+1) old:=e2
 show wpAny _ _ (setField (.ref e) 4 .none >>= _) _ _ ⟨h2,g,d,tk+1,os⟩
 refine Qaa (QaN e2 (by simp) fun h3 e3 s3=>?_)
 replace s3:QaX e h2 h3:=s3
 replace e3:IsEnum h3 e it ((k:Int)+1) old:=e3
 show wpAny _ _ (newTuple [.int k tk,x] >>= _) _ _ ⟨h3,g,d,tk+1,os⟩
 refine Qaa (wpAny_newTuple ?_)
 have sz:h3.objs.size=hp.objs.size:=by rw [s3.1,s2.1,s1.1]
 have el:e<hp.objs.size:=Qaq he
 have e4:IsEnum (h3.push { cls:=.type "tuple",data:=.seq #[.int k tk,x] }) e it ((k:Int)+1) old:=Qac _ e3
 have t4:(h3.push { cls:=.type "tuple",data:=.seq #[.int k tk,x] }).get? hp.objs.size=some { cls:=.type "tuple",data:=.seq #[.int k tk,x] }:=by rw [<- sz];exact Qao _ rfl
 have k4:∀ b o,b≠e->b≠it->hp.get? b=some o->(h3.push { cls:=.type "tuple",data:=.seq #[.int k tk,x] }).get? b=some o:=fun b o he hi hb =>
  Qac _ (s3.extBut b o he (s2.extBut b o he (s1.extBut b o hi hb)))
 have a4:sa (k+1) (h3.push { cls:=.type "tuple",data:=.seq #[.int k tk,x] }):=fr a1 fun b o hb z=>Qac _ (s3.extBut b o hb (s2.extBut b o hb z))
 generalize (h3.push { cls:=.type "tuple",data:=.seq #[.int k tk,x] })=h4 at e4 t4 k4 a4 ⊢
 show wpAny _ _ (QaO (.ref e) >>= _) _ _ ⟨h4,g,d,tk+1,os⟩
 rw [sz]
 refine Qaa ?_
 unfold QaO
 refine Qaa (QaM e4 rfl (x:=.none) rfl (Qae ?_))
 rw [if_pos rfl]
 refine Qaa (Qb6 ?_)
 refine Qaa (QaM e4 rfl (x:=old) rfl ?_)
 refine Qaa (QaN e4 (by simp) fun h5 e5 s5=>?_)
 replace s5:QaX e h4 h5:=s5
 replace e5:IsEnum h5 e it ((k:Int)+1) x:=e5
 show wpAny _ _ (Qa8 (.ref e) (.ref hp.objs.size) >>= _) _ _ ⟨h5,g,d,tk+1,os⟩
 refine Qaa ?_
 unfold Qa8
 refine Qaa (QaN e5 (by simp) fun h6 e6 s6=>?_)
 replace s6:QaX e h5 h6:=s6
 replace e6:IsEnumOut h6 e it ((k:Int)+1) x hp.objs.size:=e6
 refine QaN e6 (by simp) fun h7 e7 s7=>?_
 replace s7:QaX e h6 h7:=s7
 replace e7:IsEnumOut h7 e it ((k:Int)+1) x hp.objs.size:=e7
 have up:∀ b o,b≠e->h4.get? b=some o->h7.get? b=some o:=fun b o hb z=>s7.extBut b o hb (s6.extBut b o hb (s5.extBut b o hb z))
 refine Qaa (Qb7 (Qae ⟨_,rfl,Qae (q x h7 hx e7 (fr a4 up) (up _ _ (Qbv el) t4) fun b o he hi z=>up b o he (k4 b o he hi z))⟩))
theorem Zo0 {Q:Option Value->Shared->Prop} (hh:A.handled=none) (SA:Za0 prog w it fa n isA sa) (he:IsEnum s.heap e it k old) (ha:sa k s.heap) (kn:n<=k)
  (q:∀ h',Heap.ExtBut it s.heap h'->Q none { s with heap:=h' }):wpAny (model prog w) A (pyNext (.ref e)) Q E s:=by
 have ty:s.TypeIs (.ref e) "enumerate":=⟨_,he,rfl⟩
 unfold pyNext
 refine Qaa (Qb1 (QaU (name:=QaY "__next__") ty Qcb (Qa4 Qcb ty PySem.F.entry_enumerate_next ?_ (PySem.F.args_enumerate_next_1 _))))
 show wpAny _ _ (field (.ref e) 2 >>= _) _ _ _
 refine Qaa (QaM he rfl (x:=.ref it) rfl ?_)
 refine Qaa (SA.fin _ _ _ k _ (by first | exact hh | simpa using hh) kn ha fun h' x e' hx=>?_)
 obtain ⟨o,ho,hc⟩:=hx
 exact Qaa (wpAny_isInstance (T:="StopIteration") (b:=true) ⟨o,ho,hc⟩ isSubtype_stop (Qae (q _ e')))
theorem ZrE {elts:List Expr} {x1} {pos:Pos} {i:Int} {v:Value} {T:Addr} {Q:Unit->Shared->Prop} (hz:IsEnumOut s.heap e it i v T)
  (q:∀ h',IsEnum h' e it i v->QaX e s.heap h'->Q () { s with heap:=h' }):wpAny (model prog w) A (Qcc (.Tuple elts x1 pos) (.ref e) (.ref T)) Q E s:=by
 unfold Qcc
 refine Qaa (wpAny_load hz ?_)
 show wpAny _ _ (if (["enumerate","zip","dict_itemiterator","dict_reverseitemiterator","odict_iterator","itertools.zip_longest","itertools.pairwise"].contains "enumerate"&&(#[rawInt T,.bool false,.ref it,rawInt i,.none,v]:Array Value)[0]?==some (rawInt T))=true then _ else _) Q E s
 rw [if_pos (by simp)]
 refine Qaa (Qb6 ?_)
 show wpAny _ _ (setField (.ref e) 0 .none) Q E s
 exact QaN hz (by simp) fun h' z sb=>q h' z sb
end
end
def Ite (K:Qab) (S:Src):It :=
 ⟨fun i H=>∃ xs x,S.sq K H xs/\xs[i]?=some x,
  fun i H v H'=>∃ p x,v=.ref p/\H p=none/\H'=upd H p (.tup [.int i,x])/\(∀ xs,S.sq K H xs->xs[i]?=some x),
  fun i H=>∃ xs,S.sq K H xs/\xs.length<=i⟩
theorem Zoo {P:Qav} {w:World} {K:Qab} {elts:List Expr} {x1} {pos:Pos} (S:Src) (n:Nat) (h1:S.ad<n) :
  ZeQ P w K (.Tuple elts x1 pos) (Ite K S) [n+1,n] (n+1) (fun i h=>(∃ old,IsEnum h (n+1) n i old)/\S.it h n i) where
 mem:=by simp
 obj:=fun i h ⟨⟨x,z⟩,c⟩ q hq=>by
  simp only [Qbk,Qbt,or_false] at hq
  rcases hq with rfl | rfl
  ·exact ⟨_,z,fun v e=>nomatch (show Data.fields _=QcA v from e)⟩
  ·exact S.itOb c
 keep:=fun i h h' ⟨⟨x,z⟩,c⟩ k=>⟨⟨x,k _ (by simp) _ z⟩,S.itAt c fun o e=>k _ (by simp) o e⟩
 item:=by
  intro X hP hw hK hc i pins s σ H E I hf ⟨⟨old,z⟩,c⟩ ⟨xs,x,hx,ex⟩
  subst hP hw hK
  obtain ⟨its,r1,o1,_⟩:=S.of I hx
  obtain ⟨u1,e1,ru1⟩:=r1.get ex
  have l1:=(List.getElem?_eq_some_iff.mp e1).1
  have hlt:n+1<s.heap.objs.size:=Qaq z
  have nea:S.ad≠(n+1:Nat):=fun e=>absurd (show @LT.lt Nat _ S.ad n from h1) (by rw [e];show ¬ @LT.lt Nat _ _ _;omega)
  refine ZnA (S.sub (P:=X.prog) (w:=X.w) its.toArray) z ⟨c,o1⟩ (by simpa using l1) (by (show @Ne Nat _ _;omega)) (fun z=>nea (List.mem_singleton.mp z).symm) fun x' h' hx' z' ⟨c',_⟩ new kp=>?_
  have hx1:x'=u1:=by simp [e1] at hx';exact hx'.symm
  subst hx1
  refine ⟨_,rfl,ZrE (s:={ s with heap:=h',toks:=s.toks+1 }) z' fun h2' z2 sb=>?_⟩
  have up:∀ q o,q≠n+1->h'.get? q=some o->h2'.get? q=some o:=fun q o hq e=>sb.extBut _ _ hq e
  have I1:Inv X pins σ (upd H s.heap.objs.size (.tup [.int i,x])) { s with heap:=h2' }:=by
   refine I.yielded hf (fun q o hq e=>up q o (fun z=>hq (by simp [z])) (kp q o (fun z=>hq (by simp [z])) (fun z=>hq (by simp [z])) e)) (Qau _) ?_
   exact ⟨show 2<=Qaj by decide,[.int i s.toks,x'],.cons ⟨_,rfl⟩ (.cons ru1 .nil),⟨_,up _ _ (by (show @Ne Nat _ _;omega)) new,rfl,_,rfl⟩⟩
  refine ⟨.ref s.heap.objs.size,_,I1.tok (s.toks+1),rfl,⟨_,x,rfl,I.hok.fresh (Qau _),rfl,fun zs hz=>by rw [S.inj I hz hx];exact ex⟩,⟨⟨x',?_⟩,S.itAt c' fun o e=>up _ o (by (show @Ne Nat _ _;omega)) e⟩,fun q hq=>?_⟩
  ·have:((i+1:Nat):Int)=(i:Int)+1:=by omega
   show IsEnum h2' (n+1) n ((i+1:Nat):Int) x'
   rw [this]
   exact z2
  rw [Zt]
  ·exact (hf q hq).1
  ·simp only [Qbk,Qbt,or_false] at hq
   rcases hq with rfl | rfl<;>(show @Ne Nat _ _;omega)
 done:=by
  intro X hP hw hK hc i pins s σ H E I hf ⟨⟨old,z⟩,c⟩ ⟨xs,hx,hl⟩
  subst hP hw hK
  obtain ⟨its,r1,o1,_⟩:=S.of I hx
  have q1:=r1.length
  refine Zo0 (I.ok.hd hc) (S.sub (P:=X.prog) (w:=X.w) its.toArray) z ⟨c,o1⟩ (by simp only [Qal];omega) fun h' kp=>⟨rfl,I.turnedL hf fun q o hq e=>kp q o (fun z=>hq (by simp [z])) e⟩
 self:=fun _ _ _ _ _ ⟨⟨_,z⟩,_⟩ q=>wpAny_pyIter_enum z q
theorem Zm0:Qbe "enumerate"=some (.type "enumerate"):=by decide +kernel
def ZaD:Nat->List D->List D
 | _,[]=>[]
 | k,d::ds=>.tup [.int k,d]::ZaD (k+1) ds
theorem Zds:∀ (xs:List D) (k:Nat),(ZaD k xs).length=xs.length
 | [],_=>rfl
 | _::xs,k=>by simp [ZaD,Zds xs]
theorem Zi1:∀ (xs:List D) (k i:Nat),(ZaD k xs)[i]?=(xs[i]?).map fun d=>D.tup [.int ((k+i:Nat):Int),d]
 | [],_,_=>by simp [ZaD]
 | x::xs,k,0=>by simp [ZaD]
 | x::xs,k,i+1=>by
  simp only [ZaD,Qaf,Zi1 xs]
  rw [show k+1+i=k+(i+1) by omega]
@[simp] def ZcV (f:VE->Option D):VE->Option (List D):=fun ρ=>match (f ρ).bind Zao with
  | some xs=>some (ZaD 0 xs)
  | none=>none
theorem Zrn {K:Qab} {M N:Fb} {H:Hp} {S:Src} {xs:List D} {us:List V} (h1:DenL K N H xs us) (q1:∀ N2 H2,Step M N N2 H H2->S.sq K H2 us):Zlk K M N H (Ite K S) (ZaD 0 xs):=fun N2 H2 St i=>by
 have s1:=q1 _ _ St
 have d1:=DenL.step St _ _ h1
 refine ⟨fun d he=>?_,fun he=>⟨us,s1,?_⟩⟩
 ·rw [Zi1] at he
  cases ex:xs[i]? with
  | none=>rw [ex] at he;cases he
  | some x =>
   rw [ex] at he;cases he
   obtain ⟨u,eu,du⟩:=d1.get ex
   refine ⟨⟨us,u,s1,eu⟩,fun z H3 ⟨p,u',e1,hp,e3,w1⟩=>?_⟩
   have:=w1 us s1;rw [eu] at this;cases this
   subst e1 e3
   refine ⟨Zhd hp,Zc8 hp (DenL.cons ?_ (DenL.cons du DenL.nil))⟩
   simp [Den]
 ·have l1:=h1.length
  rw [Zds] at he
  omega
section
variable {X:Cx} {M:Fb} {H0:Hp} {f:VE->Option D} {a:Expr} {elts:List Expr} {p pos tpos:Pos}
theorem Zez {x1} (hg:Gl X "enumerate") (hm:X.mg "enumerate"=none) (ha:JE X a (tQ X.K M H0 f)) (hs:Qas [a] X.env=[(false,eval a X.env)]:=by rfl) (hs3:Qas [] X.env=[]:=by rfl) :
  JI X (.Tuple elts x1 tpos) (.Call (.Name "enumerate" p) [a] [] pos) (tI X.K M H0 (ZcV f)):=⟨have ha:=ha.h;by
 intro pins s σ H Q I ⟨ρ,ds,R,e,q⟩
 unfold ZcV at e
 split at e
 ·next xs ex =>
  cases e
  cases hf:f ρ with
  | none=>rw [hf] at ex;cases ex
  | some d1 =>
   rw [hf] at ex
   have PA2:=ZaC ha pa_nil (by rw [hs,hs3])
   refine Call_ (Zb1 I hg hm Zm0 (Qbi (thn (PA2 pos pins s σ H (fun vs H2=>∃ S us,vs=[.ref (Src.ad S)]/\Same H H2/\DenL X.K (Nf M ρ σ) H2 xs us/\(∀ N2 H3,Step M (Nf M ρ σ) N2 H2 H3->S.sq X.K H3 us)) I ?_) fun us s1 ⟨vs,H1,I1,r1,q1⟩=>?_) hs rfl))
   ·refine ⟨ρ,d1,R,hf,fun v1 H1 z1 q1=>?_⟩
    obtain ⟨S,us,e1,dl1,k1⟩:=q1.src ex
    exact ⟨S,us,by rw [e1],z1,dl1,k1⟩
   ·obtain ⟨S,us',e1,z,dl1,k1⟩:=q1
    subst e1
    cases r1 with
    | cons r rr =>
     cases rr
     cases r
     obtain ⟨its,v1,o1,_⟩:=S.of I1 (k1 _ _ Step.refl)
     refine ZoL o1 fun h' a1 a4 kp=>wpAny_pyIter_enum a1 ?_
     refine ⟨_,_,_,_,H1,rfl,I1.kept (t':=s1.toks) kp,Zoo S s1.heap.objs.size (S.lt o1),⟨⟨_,a1⟩,a4⟩,fun b hb=>?_,q _ _ z (Zrn dl1 k1)⟩
     have hl:s1.heap.objs.size<=b:=by
      simp only [Qbk,Qbt,or_false] at hb
      rcases hb with rfl | rfl<;>(show @LE.le Nat _ _ _;omega)
     exact I1.fpOk hl (I1.hok.fresh hl)
 ·cases e⟩
end
end L2
namespace L2
open PySem PySem.Spec PyProof.Rows
abbrev T3:=KT×V×V
def ZaZ:List T3->List V
 | []=>[]
 | t::r=>t.2.1::t.2.2::ZaZ r
def Zbb:List T3->KT->Option V
 | [],_=>none
 | t::r,k=>if t.1=k then some t.2.2 else Zbb r k
def Zdu:List T3->KT->V->List T3
 | [],_,_=>[]
 | t::r,k,v=>(if t.1=k then (t.1,t.2.1,v) else t)::Zdu r k v
def ZbS (tr:List T3) (k:KT) (kv v:V):List T3:=if (Zbb tr k).isSome=true then Zdu tr k v else tr++[(k,kv,v)]
theorem ZkR (k:KT) (v:V):∀ tr:List T3,(Zdu tr k v).map (·.1)=tr.map (·.1)
 | []=>rfl
 | t::r=>by
  simp only [Zdu,Qai,ZkR k v r]
  split<;>rfl
theorem ZiE {k:KT}:∀ {tr:List T3},Zbb tr k=none->k∉tr.map (·.1)
 | [],_=>by simp
 | t::r,h=>by
  unfold Zbb at h
  split at h
  ·cases h
  ·next e =>
   simp only [Qai,Qbk,not_or]
   exact ⟨fun z=>e z.symm,ZiE h⟩
theorem ZdP {tr:List T3} {k:KT} {kv v:V} (h:(tr.map (·.1)).Nodup):((ZbS tr k kv v).map (·.1)).Nodup:=by
 unfold ZbS
 split
 ·rw [ZkR];exact h
 ·next e =>
  rw [Qbs,List.nodup_append]
  refine ⟨h,by simp,fun a ha b hb=>?_⟩
  have hn:Zbb tr k=none:=by
   cases hv:Zbb tr k with
   | none=>rfl
   | some x=>rw [hv] at e;exact absurd rfl e
  simp only [Qai,Qa3,List.mem_singleton] at hb
  subst hb
  rintro rfl
  exact ZiE hn ha
theorem Zkc (k:KT) (v:V):∀ tr:List T3,(Zdu tr k v).length=tr.length
 | []=>rfl
 | t::r=>by simp [Zdu,Zkc k v r]
theorem ZjU (tr:List T3) (k:KT) (kv v:V):(ZbS tr k kv v).length<=tr.length+1:=by
 unfold ZbS
 split
 ·rw [Zkc];omega
 ·simp
theorem Zdm {a:At} {u:Value} (h:RelV (atV a) u):Zgn a u=true:=by
 cases a with
 | non=>cases h;rfl
 | int i=>obtain ⟨t,rfl⟩:=h;exact ZpN i t
 | str x=>obtain ⟨t,rfl⟩:=h;exact ZpC x t
theorem ZtB {a:At} {u:Value} (h:Zgn a u=true):RelV (atV a) u:=by
 rcases Zbg h with ⟨rfl,rfl⟩ | ⟨i,t,rfl,rfl⟩ | ⟨x,t,rfl,rfl⟩
 ·rfl
 ·exact ⟨t,rfl⟩
 ·exact ⟨t,rfl⟩
abbrev RA:List T3->List (At×Value)->Prop:=Paired fun t u=>t.1=.at u.1/\t.2.1=atV u.1/\RelV t.2.2 u.2
theorem ZiW {P:Qav} {w:World}:∀ {tr:List T3} {es:List DictEntry},ZfL w (tr.map (·.1)) (ZaZ tr) es->(∀ t∈tr,∃ a,t.1=KT.at a) ->
  ∃ us,RA tr us/\Pairs (ZY P w) es us/\∀ e∈es,∃ k,(ZY P w).is k e.key=true/\e.hash=(ZY P w).hash k
 | [],es,h,_=>by
  obtain ⟨_,rfl⟩:=h
  exact ⟨[],.nil,.nil,fun _ z=>nomatch z⟩
 | t::r,es,h,ha=>by
  obtain ⟨kv,v,q,e,es',e1,e2,h1,h2,h3,h4,h5⟩:=h
  obtain ⟨a,ea⟩:=ha t Qam
  simp only [ZaZ,List.cons.injEq] at e1
  obtain ⟨e1,e1',e1''⟩:=e1
  subst e1 e1' e2 e1''
  dsimp only at h3 h4
  rw [ea] at h3 h4
  obtain ⟨us,r1,r2,r3⟩:=ZiW (P:=P) h5 fun t ht=>ha t (Qag _ ht)
  have h4:t.2.1=atV a:=h4
  rw [h4] at h1
  refine ⟨(a,e.val)::us,.cons ⟨ea,h4,h2⟩ r1,.cons (Zdm h1) rfl r2,fun e' he=>?_⟩
  rcases Qbk.mp he with rfl | he
  ·exact ⟨a,Zdm h1,h3⟩
  ·exact r3 e' he
theorem Zja {P:Qav} {w:World}:∀ {tr:List T3} {us:List (At×Value)} {es:List DictEntry},RA tr us->Pairs (ZY P w) es us->(∀ e∈es,∃ k,(ZY P w).is k e.key=true/\e.hash=(ZY P w).hash k) ->
  ZfL w (tr.map (·.1)) (ZaZ tr) es
 | _,_,_,.nil,.nil,_=>⟨rfl,rfl⟩
 | t::r,(a,u)::us,e::es,.cons ⟨h1,h2,h3⟩ hr,.cons p1 p2 pr,hk=>by
  refine ⟨t.2.1,t.2.2,ZaZ r,e,es,rfl,rfl,?_,?_,?_,?_,Zja hr pr fun e he=>hk e (Qag _ he)⟩
  ·rw [h2];exact ZtB p1
  ·rw [p2];exact h3
  ·obtain ⟨k,q1,q2⟩:=hk e Qam
   have:k=a:=(ZY P w).inj _ _ _ q1 p1
   subst this
   dsimp only;rw [h1];exact q2
  ·dsimp only;rw [h1];exact h2
theorem RA.val:∀ {tr:List T3} {us:List (At×Value)},RA tr us->∀ a,RelO (Zbb tr (.at a)) (valueAt us a)
 | _,_,.nil,_=>True.intro
 | t::r,u::us,.cons ⟨h1,h2,h3⟩ hr,a=>by
  have ih:=RA.val hr a
  unfold Zbb valueAt
  rw [h1,List.find?_cons]
  by_cases e:u.1=a
  ·rw [if_pos (by rw [e])];simp only [e,decide_true];exact h3
  ·rw [if_neg (fun z=>e (KT.at.inj z))];simp only [e,decide_false];exact ih
theorem RelO.isS:∀ {o:Option V} {u:Option Value},RelO o u->o.isSome=u.isSome
 | some _,some _,_=>rfl
 | none,none,_=>rfl
 | some _,none,h=>h.elim
 | none,some _,h=>h.elim
theorem RA.rep {a:At} {v:V} {u:Value} (rv:RelV v u):∀ {tr:List T3} {us:List (At×Value)},RA tr us->RA (Zdu tr (.at a) v) (us.map fun kv=>if kv.1=a then (kv.1,u) else kv)
 | _,_,.nil=>.nil
 | t::r,w::us,.cons ⟨h1,h2,h3⟩ hr=>by
  have ih:=RA.rep (a:=a) rv hr
  unfold Zdu
  rw [Qai]
  refine .cons ?_ ih
  by_cases e:w.1=a
  ·rw [if_pos (by rw [h1,e]),if_pos e];exact ⟨h1,h2,rv⟩
  ·rw [if_neg (fun z=>e (KT.at.inj (h1.symm.trans z))),if_neg e];exact ⟨h1,h2,h3⟩
theorem Paired.snoc' {α β:Type} {F:α->β->Prop} {x:α} {y:β} (h:F x y):∀ {l:List α} {m:List β},Paired F l m->Paired F (l++[x]) (m++[y])
 | _,_,.nil=>.cons h .nil
 | _,_,.cons r t=>.cons r (Paired.snoc' h t)
theorem ZqF {us:List (At×Value)} {a:At}:(us.any fun kv=>decide (kv.1=a))=(valueAt us a).isSome:=by
 unfold valueAt
 rw [Option.isSome_map]
 induction us with
 | nil=>rfl
 | cons x r ih =>
  rw [List.any_cons,List.find?_cons]
  cases decide (x.1=a) with
  | true=>rfl
  | false=>simpa using ih
theorem RA.put {tr:List T3} {us:List (At×Value)} {a:At} {v:V} {u:Value} (h:RA tr us) (rv:RelV v u):RA (ZbS tr (.at a) (atV a) v) (stored us a u):=by
 unfold ZbS stored
 rw [ZqF,(h.val a).isS]
 by_cases e:(valueAt us a).isSome=true
 ·rw [if_pos e,if_pos e];exact h.rep rv
 ·rw [if_neg e,if_neg e];exact Paired.snoc' ⟨rfl,rfl,rv⟩ h
theorem RA.fst:∀ {tr:List T3} {us:List (At×Value)},RA tr us->tr.map (·.1)=(us.map (·.1)).map KT.at
 | _,_,.nil=>rfl
 | t::r,u::us,.cons ⟨h1,_,_⟩ hr=>by rw [Qai,Qai,Qai,h1,RA.fst hr]
abbrev RT:List T3->List (List At×Addr×Value)->Prop:=Paired fun t u=>t.1=.tup u.1/\t.2.1=.ref u.2.1/\RelV t.2.2 u.2.2
theorem Zk7 {P:Qav} {w:World}:∀ {tr:List T3} {es:List DictEntry},ZfL w (tr.map (·.1)) (ZaZ tr) es->(∀ t∈tr,∃ l,t.1=KT.tup l) ->
  ∃ us,RT tr us/\es=us.map (entryOfKey (tupleKind (ZY P w)))
 | [],es,h,_=>by
  obtain ⟨_,rfl⟩:=h
  exact ⟨[],.nil,rfl⟩
 | t::r,es,h,ha=>by
  obtain ⟨kv,v,q,e,es',e1,e2,h1,h2,h3,h4,h5⟩:=h
  obtain ⟨l,el⟩:=ha t Qam
  simp only [ZaZ,List.cons.injEq] at e1
  obtain ⟨e1,e1',e1''⟩:=e1
  subst e1 e1' e2 e1''
  dsimp only at h3 h4
  rw [el] at h3 h4
  obtain ⟨us,r1,r2⟩:=Zk7 (P:=P) h5 fun t ht=>ha t (Qag _ ht)
  obtain ⟨p,ep⟩:=(h4:∃ p,t.2.1=.ref p)
  rw [ep] at h1
  obtain ⟨hh,hk,hv⟩:=e
  cases (h1:hk=QaR p)
  refine ⟨(l,p,hv)::us,.cons ⟨el,ep,h2⟩ r1,?_⟩
  rw [Qai,<- r2]
  have:hh=(KT.tup l).hash w:=h3
  rw [this];rfl
theorem ZkE {P:Qav} {w:World}:∀ {tr:List T3} {us:List (List At×Addr×Value)},RT tr us->ZfL w (tr.map (·.1)) (ZaZ tr) (us.map (entryOfKey (tupleKind (ZY P w))))
 | _,_,.nil=>⟨rfl,rfl⟩
 | t::r,u::us,.cons ⟨h1,h2,h3⟩ hr=>by
  refine ⟨t.2.1,t.2.2,ZaZ r,_,_,rfl,rfl,?_,h3,?_,?_,ZkE hr⟩
  ·rw [h2];rfl
  ·dsimp only;rw [h1];rfl
  ·dsimp only;rw [h1];exact ⟨_,h2⟩
theorem RT.val:∀ {tr:List T3} {us:List (List At×Addr×Value)},RT tr us->∀ l,RelO (Zbb tr (.tup l)) ((atKey us l).map (·.2))
 | _,_,.nil,_=>True.intro
 | t::r,u::us,.cons ⟨h1,h2,h3⟩ hr,l=>by
  have ih:=RT.val hr l
  unfold Zbb atKey
  rw [h1,List.find?_cons]
  by_cases e:u.1=l
  ·rw [if_pos (by rw [e])];simp only [e,decide_true];exact h3
  ·rw [if_neg (fun z=>e (KT.tup.inj z))];simp only [e,decide_false];exact ih
theorem RT.rep {l:List At} {v:V} {u:Value} (rv:RelV v u):∀ {tr:List T3} {us:List (List At×Addr×Value)},RT tr us->RT (Zdu tr (.tup l) v) (us.map (putAt l u))
 | _,_,.nil=>.nil
 | t::r,w::us,.cons ⟨h1,h2,h3⟩ hr=>by
  have ih:=RT.rep (l:=l) rv hr
  unfold Zdu
  rw [Qai]
  refine .cons ?_ ih
  unfold putAt
  by_cases e:w.1=l
  ·rw [if_pos (by rw [h1,e]),if_pos e];exact ⟨h1,h2,rv⟩
  ·rw [if_neg (fun z=>e (KT.tup.inj (h1.symm.trans z))),if_neg e];exact ⟨h1,h2,h3⟩
theorem RT.put {tr:List T3} {us:List (List At×Addr×Value)} {l:List At} {p:Addr} {v:V} {u:Value} (h:RT tr us) (rv:RelV v u):RT (ZbS tr (.tup l) (.ref p) v) (storedH us l p u):=by
 unfold ZbS storedH
 have e0:=(h.val l).isS
 rw [Option.isSome_map] at e0
 rw [e0]
 by_cases e:(atKey us l).isSome=true
 ·rw [if_pos e,if_pos e];exact h.rep rv
 ·rw [if_neg e,if_neg e];exact Paired.snoc' ⟨rfl,rfl,rv⟩ h
theorem RT.fst:∀ {tr:List T3} {us:List (List At×Addr×Value)},RT tr us->tr.map (·.1)=(us.map (·.1)).map KT.tup
 | _,_,.nil=>rfl
 | t::r,u::us,.cons ⟨h1,_,_⟩ hr=>by rw [Qai,Qai,Qai,h1,RT.fst hr]
theorem Zgb {α β:Type} {f:α->β} (hf:∀ a b,f a=f b->a=b):∀ {l:List α},(l.map f).Nodup->l.Nodup
 | [],_=>List.nodup_nil
 | a::l,h=>by
  rw [Qai,QbW] at h
  rw [QbW]
  exact ⟨fun z=>h.1 (List.mem_map.mpr ⟨a,z,rfl⟩),Zgb hf h.2⟩
def ZbU (K:Qab) (H:Hp):KT->V->Prop
 | .at a,v=>v=atV a
 | .tup l,v=>∃ p,v=.ref p/\SqT K H p (l.map atV)
theorem Zk2 {P:Qav} {w:World}:∀ {ks:List At} {us:List Value},Vals (ks.map atV) us->ItemsAre (ZY P w) ks us
 | [],_,r=>by rw [Qa3] at r;cases r;exact .nil
 | k::ks,_,r=>by
  rw [Qai] at r
  cases r with
  | cons h t=>exact .cons (Zdm h) (Zk2 t)
def Zfy:KT->List T3->Prop
 | .at _,tr=>∀ t∈tr,∃ a,t.1=KT.at a
 | .tup _,tr=>∀ t∈tr,∃ l,t.1=KT.tup l
def IsDc (K:Qab) (H:Hp) (a:Addr) (tr:List T3):Prop:=Rd H a (.dct (tr.map (·.1)) (ZaZ tr))/\∀ t∈tr,ZbU K H t.1 t.2.1
section
variable {X:Cx} {pins:List (Addr×Obj)} {σ:St} {H:Hp} {s:Shared} {a p:Addr} {y v:V} {u r:Value} {o:Option V} {A:Around} {E:Value->Shared->Prop} {tr:List T3} {k:KT}
theorem ZdR {l:List At} (I:Inv X pins σ H s) (h:SqT X.K H p (l.map atV)):(tupleKind (ZY X.prog X.w)).is s.heap l p:=by
 obtain ⟨its,r,⟨o,h1,h2,n,h3⟩,_⟩:=I.tuple h
 exact ⟨o,its.toArray,n,h1,h2,h3,by simpa using Zk2 r⟩
theorem Zgz (I:Inv X pins σ H s) (h:IsDc X.K H a tr) (hk:∀ t∈tr,∃ a,t.1=KT.at a):tr.length<=Qaj/\(a==Qb5)=false/\(tr.map (·.1)).Nodup/\∃ us,RA tr us/\s.heap.DictOf (ZY X.prog X.w) a us:=by
 obtain ⟨z,hs,nd,o,es,ep,e1,e2,e3,e4⟩:=h.1.ok I.hok
 obtain ⟨us,r1,r2,r3⟩:=ZiW (P:=X.prog) e4 hk
 refine ⟨by simpa using z,hs,nd,us,r1,o,es,ep,e1,e2,e3,fun e he=>r3 e (by simpa using he),r2,?_⟩
 rw [r1.fst] at nd
 exact Zgb (fun _ _ z=>KT.at.inj z) nd
theorem Zff (I:Inv X pins σ H s) (h:IsDc X.K H a tr) (hk:∀ t∈tr,∃ l,t.1=KT.tup l):tr.length<=Qaj/\(a==Qb5)=false/\(tr.map (·.1)).Nodup/\∃ us,RT tr us/\s.heap.DictOfH (tupleKind (ZY X.prog X.w)) a us:=by
 obtain ⟨z,hs,nd,o,es,ep,e1,e2,e3,e4⟩:=h.1.ok I.hok
 obtain ⟨us,r1,r2⟩:=Zk7 (P:=X.prog) e4 hk
 have nd':=nd
 rw [r1.fst] at nd'
 refine ⟨by simpa using z,hs,nd,us,r1,o,es,ep,e1,e2,e3,r2,fun x hx=>?_,Zgb (fun _ _ z=>KT.tup.inj z) nd'⟩
 have all:∀ {l:List T3} {m:List (List At×Addr×Value)},RT l m->(∀ t∈l,ZbU X.K H t.1 t.2.1)->∀ x∈m,(tupleKind (ZY X.prog X.w)).is s.heap x.1 x.2.1:=by
  intro l m q
  induction q with
  | nil=>intro _ x hx;exact nomatch hx
  | @cons t u ts us hq tl ih =>
   intro hl x hx
   rcases Qbk.mp hx with e | hx
   ·subst e
    have:=hl t Qam
    rw [hq.1,hq.2.1] at this
    obtain ⟨p,ep,sq⟩:=this
    cases ep
    exact ZdR I sq
   ·exact ih (fun t ht=>hl t (Qag _ ht)) x hx
 exact all r1 h.2 x hx
theorem RelO.to:∀ {v:V} {o:Option Value},RelO (some v) o->∃ w,o=some w/\RelV v w
 | _,some w,h=>⟨w,rfl,h⟩
 | _,none,h=>h.elim
theorem Znj {Q:Value->Shared->Prop} (hu:A.units+1<cLine) (I:Inv X pins σ H s) (h:IsDc X.K H a tr) (hk:Zfy k tr) (ky:ZbU X.K H k y) (ry:RelV y u) (hv:Zbb tr k=some v) (q:∀ w' s',Inv X pins σ H s'->RelV v w'->Q w' s') :
  wpAny (model X.prog X.w) A (getItem (.ref a) u) Q E s:=by
 cases k with
 | «at» b =>
  cases ky
  obtain ⟨z,hd,nd,us,rel,dd⟩:=Zgz I h hk
  have h1:=rel.val b
  rw [hv] at h1
  obtain ⟨w',hw,rw'⟩:=h1.to
  exact wpAny_getItem_of (knd:=ZY X.prog X.w) (Zdm ry) dd.mapOf hw (q w' _ (I.tok _) rw')
 | tup l =>
  obtain ⟨p,ep,sq⟩:=ky
  subst ep
  cases (show u=QaR p from ry)
  obtain ⟨z,hd,nd,us,rel,dd⟩:=Zff I h hk
  have h1:=rel.val l
  rw [hv] at h1
  obtain ⟨w',hw,rw'⟩:=h1.to
  obtain ⟨p',hp,hp2⟩:=Option.map_eq_some_iff.mp hw
  refine wpAny_getItem_heap (QcB hu) (ZdR I sq) dd hp ?_
  rw [hp2]
  exact q w' _ (I.tok _) rw'
theorem ZtU {Q:Value->Shared->Prop} (hu:A.units+1<cLine) (I:Inv X pins σ H s) (h:IsDc X.K H a tr) (hk:Zfy k tr) (ky:ZbU X.K H k y) (ry:RelV y u) (q:∀ s',Inv X pins σ H s'->Q (.bool (Zbb tr k).isSome) s') :
  wpAny (model X.prog X.w) A (QbG .In u (.ref a)) Q E s:=by
 cases k with
 | «at» b =>
  cases ky
  obtain ⟨z,hd,nd,us,rel,dd⟩:=Zgz I h hk
  refine wpAny_in_of (knd:=ZY X.prog X.w) (Zdm ry) hd dd.mapOf ?_
  rw [<- (rel.val b).isS]
  exact q _ (I.tok _)
 | tup l =>
  obtain ⟨p,ep,sq⟩:=ky
  subst ep
  cases (show u=QaR p from ry)
  obtain ⟨z,hd,nd,us,rel,dd⟩:=Zff I h hk
  refine wpAny_in_heap (QcB hu) (ZdR I sq) hd dd ?_
  have e0:=(rel.val l).isS
  rw [Option.isSome_map] at e0
  rw [<- e0]
  exact q _ (I.tok _)
theorem Zfn {h':Heap} {t':Nat} {ob:HO} (I:Inv X pins σ H s) (mu:Mut (H a)) (hs:QaX a s.heap h') (he:∃ q,h'.get? a=some q) (new:ObjOk X.prog X.w (upd H a ob) h' a ob) :
  Inv X pins σ (upd H a ob) { s with heap:=h',toks:=t' } :=
 I.write (x:=a) (e:=a) mu (.inl rfl) (fun b q hb z=>(hs.2 b hb).trans z) he new
def dcO (tr:List T3):HO:=.dct (tr.map (·.1)) (ZaZ tr)
theorem ZnH {P:Qav} {w:World} {H':Hp} {h':Heap} {us:List (At×Value)} (z:tr.length<=Qaj) (hd:(a==Qb5)=false) (nd:(tr.map (·.1)).Nodup) (rel:RA tr us) (dd:h'.DictOf (ZY P w) a us):ObjOk P w H' h' a (dcO tr):=by
 obtain ⟨o,es,ep,e1,e2,e3,e4,e5,e6⟩:=dd
 exact ⟨by simpa using z,hd,nd,o,es,ep,e1,e2,e3,Zja rel e5 fun e he=>e4 e (by simpa using he)⟩
theorem ZlO {P:Qav} {w:World} {H':Hp} {h':Heap} {us:List (List At×Addr×Value)} (z:tr.length<=Qaj) (hd:(a==Qb5)=false) (nd:(tr.map (·.1)).Nodup) (rel:RT tr us) (dd:h'.DictOfH (tupleKind (ZY P w)) a us):ObjOk P w H' h' a (dcO tr):=by
 obtain ⟨o,es,ep,e1,e2,e3,e4,e5,e6⟩:=dd
 refine ⟨by simpa using z,hd,nd,o,es,ep,e1,e2,e3,?_⟩
 rw [e4]
 exact ZkE rel
theorem ZmQ {Q:Unit->Shared->Prop} (hu:A.units+1<cLine) (I:Inv X pins σ H s) (e:H a=some (dcO tr)) (hkeys:∀ t∈tr,ZbU X.K H t.1 t.2.1) (hk:Zfy k tr) (ky:ZbU X.K H k y) (ry:RelV y u) (rv:RelV v r) (hl:tr.length<Qaj)
  (q:∀ s',Inv X pins σ (upd H a (dcO (ZbS tr k y v))) s'->Q () s'):wpAny (model X.prog X.w) A (setItem (.ref a) u r) Q E s:=by
 have h:IsDc X.K H a tr:=⟨.inl e,hkeys⟩
 have hl':(ZbS tr k y v).length<=Qaj:=by have:=ZjU tr k y v;omega
 cases k with
 | «at» b =>
  cases ky
  obtain ⟨z,hd,nd,us,rel,dd⟩:=Zgz I h hk
  have hz:us.length<=Qaj:=by rw [<- Qcg rel];exact z
  refine wpAny_setItem_pairs (knd:=ZY X.prog X.w) (hsz:=hz) (Zdm ry) dd fun h' dd' hs=>q _ ?_
  have he:∃ q,h'.get? a=some q:=let ⟨q,_,_,hq,_⟩:=dd';⟨q,hq⟩
  exact Zfn I (by rw [e];exact True.intro) hs he (ZnH hl' hd (ZdP nd) (rel.put rv) dd')
 | tup l =>
  obtain ⟨p,ep,sq⟩:=ky
  subst ep
  cases (show u=QaR p from ry)
  obtain ⟨z,hd,nd,us,rel,dd⟩:=Zff I h hk
  have hz:us.length<=Qaj:=by rw [<- Qcg rel];exact z
  refine wpAny_setItem_heap (hsz:=hz) (QcB hu) (ZdR I sq) dd fun h' dd' hs=>q _ ?_
  have he:∃ q,h'.get? a=some q:=let ⟨q,_,_,hq,_⟩:=dd';⟨q,hq⟩
  exact Zfn I (by rw [e];exact True.intro) hs he (ZlO hl' hd (ZdP nd) (rel.put rv) dd')
end
end L2
namespace PySem
section
variable {prog:Qav} {w:World} {K:Type} [DecidableEq K] {knd:HeapKind prog w K} {A:Around} {E:Value->Shared->Prop} {s:Shared}
end
end PySem
namespace L2
open PySem PySem.Spec PyProof.Rows
def Zql (K:Qab):R2:=fun x y H Q=>∃ a tr k v,x=.ref a/\IsDc K H a tr/\Zfy k tr/\ZbU K H k y/\Zbb tr k=some v/\Q v H
def Zqr (K:Qab) (neg:Bool):R2:=fun x y H Q=>∃ a tr k,y=.ref a/\IsDc K H a tr/\Zfy k tr/\ZbU K H k x/\Q (.bl (neg != (Zbb tr k).isSome)) H
def Zs0 (K:Qab):ZmU:=fun o i v H Q=>∃ a tr k,o=.ref a/\H a=some (dcO tr)/\(∀ t∈tr,ZbU K H t.1 t.2.1)/\Zfy k tr/\ZbU K H k i/\tr.length<Qaj/\Q (upd H a (dcO (ZbS tr k i v)))
theorem IsDc.typeIs {X:Cx} {pins:List (Addr×Obj)} {σ:St} {H:Hp} {s:Shared} {a:Addr} {tr:List T3} (I:Inv X pins σ H s) (h:IsDc X.K H a tr):s.TypeIs (.ref a) "dict":=by
 obtain ⟨_,_,_,o,_,_,e,c,_⟩:=h.1.ok I.hok
 exact ⟨o,e,c.1⟩
section
variable {X:Cx}
theorem Zsz (hu:X.A.units+64<cLine):IxR X (Zql X.K):=by
 intro value slice pins s σ H x y v u Q I rx ry h hs
 obtain ⟨a,tr,k,z,rfl,hd,hk,ky,hv,q⟩:=h
 cases rx
 have hT:=hd.typeIs I
 unfold subscriptTail
 refine Qaa ?_
 rw [getitemInPython_of_ne hT.not_modules]
 refine Qaa (wpAny_specialOf hT PySem.F.slot_dict_getitem.lookup ?_)
 have fin:wpAny (model X.prog X.w) X.A (subscripted slice false (.ref a) u) (fun r s₃=>wpAny (model X.prog X.w) X.A (letTemporaryGo value (.ref a) r >>= fun _=>pure r) (EP X pins σ Q) X.xe s₃) X.xe s:=by
  rw [hs]
  exact wpAny_operating (Znj (by omega) I hd hk ky ry hv fun w' s' I' rw'=>Qaa (wpAny_letTemporaryGo (Qae ⟨z,H,I',rw',q⟩)))
 first
  | exact Qae (Qaa fin)
  | exact Qaa (Qae (Qaa fin))
  | exact Qaa fin
theorem Zl7 (hu:X.A.units+64<cLine):OpR X (QbG .In) (Zqr X.K false):=by
 intro pins s σ H x y v u Q I rx ry h
 obtain ⟨a,tr,k,rfl,hd,hk,ky,q⟩:=h
 cases ry
 exact ZtU (by omega) I hd hk ky rx fun s' I'=>⟨.bl (Zbb tr k).isSome,H,I',rfl,by simpa using q⟩
theorem Zrk (hu:X.A.units+64<cLine):Zr5 X (Zs0 X.K):=by
 intro pins s σ H o i v ov iv u Q I ro ri rv h
 obtain ⟨a,tr,k,rfl,e,hks,hk,ky,hl,q⟩:=h
 cases ro
 exact ZmQ (by omega) I e hks hk ky ri rv hl fun s' I'=>⟨_,I',q⟩
theorem Inv.big (I:Inv X pins σ H s):Qb5<s.heap.objs.size:=by
 have h:Qak<s.heap.objs.size:=(I.mod.glob.keeps I.bk).lt
 exact Qb9 (by decide) h
theorem pe_dnew {pos:Pos}:PE X (.Dict [] [] pos) (fun _ H Q=>∀ p,H p=none->Q (.ref p) (upd H p (dcO []))):=fun pins s σ H Q I h =>
 wpAny_Dict_empty ⟨.ref s.heap.objs.size,_,I.laid (a:=s.heap.objs.size) (o:=dcO []) (t':=s.toks) (fun _ _ q=>Qac _ q) (Qau _)
  ⟨Nat.zero_le _,beq_eq_false_iff_ne.mpr (QaD (QaL I.big)),List.nodup_nil,_,#[],0,Qao _ rfl,⟨rfl,rfl,rfl⟩,rfl,rfl,rfl⟩,rfl,h _ (I.hok.fresh (Qau _))⟩
end
def okA:D->Option At
 | .non=>some .non
 | .int i=>some (.int i)
 | .str x=>some (.str x)
 | _=>none
def ZfE:List D->Option (List At)
 | []=>some []
 | d::r=>(okA d).bind fun a=>(ZfE r).map (a::·)
def okK:D->Option KT
 | .tup l=>(ZfE l).map KT.tup
 | d=>(okA d).map KT.at
def aD:At->D
 | .non=>.non
 | .int i=>.int i
 | .str x=>.str x
def kD:KT->D
 | .at a=>aD a
 | .tup l=>.tup (l.map aD)
theorem Zmq {d:D} {a:At} (h:okA d=some a):d=aD a:=by
 unfold okA at h
 split at h<;>cases h<;>rfl
theorem ZjS:∀ {l:List D} {as:List At},ZfE l=some as->l=as.map aD
 | [],_,h=>by cases h;rfl
 | d::r,as,h=>by
  unfold ZfE at h
  cases h1:okA d with
  | none=>rw [h1] at h;cases h
  | some a =>
   rw [h1] at h
   cases h2:ZfE r with
   | none=>rw [h2] at h;cases h
   | some bs=>rw [h2] at h;cases h;rw [Qai,<- Zmq h1,<- ZjS h2]
theorem ZdS {d:D} {k:KT} (h:okK d=some k):d=kD k:=by
 unfold okK at h
 split at h
 ·next l =>
  cases h1:ZfE l with
  | none=>rw [h1] at h;cases h
  | some as=>rw [h1] at h;cases h;rw [ZjS h1];rfl
 ·cases h1:okA d with
  | none=>rw [h1] at h;cases h
  | some a=>rw [h1] at h;cases h;rw [Zmq h1];rfl
theorem Zr2 (a:At):okA (aD a)=some a:=by cases a<;>rfl
theorem ZjO:∀ (l:List At),ZfE (l.map aD)=some l
 | []=>rfl
 | a::l=>by rw [Qai];unfold ZfE;rw [Zr2,ZjO l];rfl
@[simp] theorem Zki (k:KT):okK (kD k)=some k:=by
  cases k with
  | «at» a=>cases a<;>rfl
  | tup l=>show (ZfE (l.map aD)).map KT.tup=_;rw [ZjO];rfl
@[simp] theorem Zva:okK .non=some (.at .non):=rfl
@[simp] theorem Zvh (i:Int):okK (.int i)=some (.at (.int i)):=rfl
@[simp] theorem Zvb (x:Str):okK (.str x)=some (.at (.str x)):=rfl
theorem ZrP (a:At):ZpB (aD a)=a:=by cases a<;>rfl
theorem ZqQ (k:KT):Zo8 (kD k)=k:=by
 cases k with
 | «at» a=>cases a<;>rfl
 | tup l =>
  unfold kD Zo8
  simp only [Qbw,KT.tup.injEq]
  induction l with
  | nil=>rfl
  | cons a l ih=>rw [Qai,ih];simp [ZrP]
abbrev KDs:=List (KT×D)
def ZJ:KDs->List D
 | []=>[]
 | p::r=>kD p.1::p.2::ZJ r
def unf:List D->Option KDs
 | []=>some []
 | k::v::r=>(okK k).bind fun kt=>(unf r).map ((kt,v)::·)
 | _=>none
@[simp] theorem ZfK:∀ kvs:KDs,unf (ZJ kvs)=some kvs
  | []=>rfl
  | p::r=>by unfold ZJ unf;rw [Zki,ZfK r];rfl
@[simp] theorem Zvf:unf []=some []:=rfl
theorem Zc4:∀ {xs:List D} {kvs:KDs},unf xs=some kvs->xs=ZJ kvs
 | [],_,h=>by cases h;rfl
 | [_],_,h=>by cases h
 | k::v::r,kvs,h=>by
  unfold unf at h
  cases h1:okK k with
  | none=>rw [h1] at h;cases h
  | some kt =>
   rw [h1] at h
   cases h2:unf r with
   | none=>rw [h2] at h;cases h
   | some q=>rw [h2] at h;cases h;unfold ZJ;rw [<- ZdS h1,<- Zc4 h2]
theorem Zhn:∀ kvs:KDs,ZfA (ZJ kvs)=kvs.map (·.1)
 | []=>rfl
 | p::r=>by unfold ZJ ZfA;rw [ZqQ,Zhn r];rfl
def ZL:KDs->KT->Option D
 | [],_=>none
 | t::r,k=>if t.1=k then some t.2 else ZL r k
def Zbz:KDs->KT->D->KDs
 | [],_,_=>[]
 | t::r,k,v=>(if t.1=k then (t.1,v) else t)::Zbz r k v
def Zak (kvs:KDs) (k:KT) (v:D):KDs:=if (ZL kvs k).isSome=true then Zbz kvs k v else kvs++[(k,v)]
def Zdw:KT->Bool
 | .at _=>true
 | _=>false
def Zbv (k:KT) (kvs:KDs):Bool:=kvs.all fun p=>Zdw p.1==Zdw k
section
variable {K:Qab} {N:Fb} {H:Hp}
abbrev PD (K:Qab) (N:Fb) (H:Hp):KDs->List T3->Prop:=Paired fun p t=>p.1=t.1/\Den K N H (kD p.1) t.2.1/\Den K N H p.2 t.2.2
theorem ZnL {a:At} {v:V} (h:Den K N H (aD a) v):v=atV a:=by cases a<;>simpa only [aD,Den,atV] using h
theorem Zl6:∀ {l:List At} {vs:List V},DenL K N H (l.map aD) vs->vs=l.map atV
 | [],_,h=>by simpa only [Qa3,DenL] using h
 | a::l,vs,h=>by
  simp only [Qai,DenL] at h
  obtain ⟨v,r,e,h1,h2⟩:=h
  rw [e,ZnL h1,Zl6 h2];rfl
theorem ZdQ {k:KT} {v:V} (h:Den K N H (kD k) v):ZbU K H k v:=by
 cases k with
 | «at» a=>exact ZnL h
 | tup l =>
  simp only [kD,Den] at h
  obtain ⟨p,vs,e,sq,hl⟩:=h
  rw [Zl6 hl] at sq
  exact ⟨p,e,sq⟩
theorem Zec {k:KT} {v:V} (h:DenP K N H (kD k) v):Den K N H (kD k) v:=by
 cases k with
 | «at» a=>cases a<;>exact h
 | tup l=>exact h
theorem Zjv:∀ {kvs:KDs} {vs:List V},DenL K N H (ZJ kvs) vs->∃ tr,vs=ZaZ tr/\PD K N H kvs tr
 | [],vs,h=>⟨[],by simpa only [ZJ,DenL,ZaZ] using h,.nil⟩
 | p::r,vs,h=>by
  simp only [ZJ,DenL] at h
  obtain ⟨v,t,e,h1,v',t',e',h2,h3⟩:=h
  obtain ⟨tr,e2,q⟩:=Zjv h3
  exact ⟨(p.1,v,v')::tr,by rw [e,e',e2];rfl,.cons ⟨rfl,h1,h2⟩ q⟩
theorem PD.flat:∀ {kvs:KDs} {tr:List T3},PD K N H kvs tr->DenL K N H (ZJ kvs) (ZaZ tr)
 | _,_,.nil=>DenL.nil
 | _,_,.cons ⟨_,h1,h2⟩ t=>DenL.cons h1 (DenL.cons h2 (PD.flat t))
theorem PD.fst:∀ {kvs:KDs} {tr:List T3},PD K N H kvs tr->kvs.map (·.1)=tr.map (·.1)
 | _,_,.nil=>rfl
 | _,_,.cons ⟨h1,_,_⟩ t=>by rw [Qai,Qai,h1,PD.fst t]
theorem PD.keys:∀ {kvs:KDs} {tr:List T3},PD K N H kvs tr->∀ t∈tr,ZbU K H t.1 t.2.1
 | _,_,.nil,_,h=>nomatch h
 | _,_,.cons ⟨h1,h2,_⟩ t,x,hx=>by
  rcases Qbk.mp hx with rfl | hx
  ·rw [<- h1];exact ZdQ h2
  ·exact PD.keys t x hx
def RelD (K:Qab) (N:Fb) (H:Hp):Option D->Option V->Prop
 | some d,some v=>Den K N H d v
 | none,none=>True
 | _,_=>False
theorem PD.val:∀ {kvs:KDs} {tr:List T3},PD K N H kvs tr->∀ k,RelD K N H (ZL kvs k) (Zbb tr k)
 | _,_,.nil,_=>True.intro
 | p::kvs,t::tr,.cons ⟨h1,_,h2⟩ r,k=>by
  have ih:=PD.val r k
  unfold ZL Zbb
  rw [h1]
  split
  ·exact h2
  ·exact ih
theorem RelD.isS:∀ {o:Option D} {u:Option V},RelD K N H o u->o.isSome=u.isSome
 | some _,some _,_=>rfl
 | none,none,_=>rfl
 | some _,none,h=>h.elim
 | none,some _,h=>h.elim
theorem PD.rep {k:KT} {d:D} {v:V} (hd:Den K N H d v):∀ {kvs:KDs} {tr:List T3},PD K N H kvs tr->PD K N H (Zbz kvs k d) (Zdu tr k v)
 | _,_,.nil=>.nil
 | p::kvs,t::tr,.cons ⟨h1,h2,h3⟩ r=>by
  have ih:=PD.rep (k:=k) hd r
  unfold Zbz Zdu
  rw [h1]
  refine .cons ?_ ih
  split
  ·exact ⟨rfl,h1 ▸ h2,hd⟩
  ·exact ⟨h1,h2,h3⟩
theorem PD.put {kvs:KDs} {tr:List T3} {k:KT} {d:D} {kv v:V} (h:PD K N H kvs tr) (hk:Den K N H (kD k) kv) (hd:Den K N H d v):PD K N H (Zak kvs k d) (ZbS tr k kv v):=by
 unfold Zak ZbS
 rw [(h.val k).isS]
 split
 ·exact h.rep hd
 ·exact Paired.snoc' ⟨rfl,hk,hd⟩ h
theorem PD.hom {k:KT}:∀ {kvs:KDs} {tr:List T3},PD K N H kvs tr->Zbv k kvs=true->Zfy k tr
 | _,_,.nil,_=>by cases k<;>exact fun _ h=>nomatch h
 | p::kvs,t::tr,.cons ⟨h1,_,_⟩ r,e=>by
  simp only [Zbv,Qc0,QaW] at e
  have ih:=PD.hom (k:=k) r e.2
  have e1:=e.1
  rw [h1] at e1
  cases k with
  | «at» a =>
   intro x hx
   rcases Qbk.mp hx with rfl | hx
   ·cases hx:x.1 with
    | «at» b=>exact ⟨b,rfl⟩
    | tup l=>rw [hx] at e1;cases e1
   ·exact ih x hx
  | tup l =>
   intro x hx
   rcases Qbk.mp hx with rfl | hx
   ·cases hx:x.1 with
    | «at» b=>rw [hx] at e1;cases e1
    | tup l=>exact ⟨l,rfl⟩
   ·exact ih x hx
theorem ZhA {a:Addr} {kvs:KDs} {vs:List V} (h:Rd H a (.dct (ZfA (ZJ kvs)) vs)) (hd:DenL K N H (ZJ kvs) vs):∃ tr,IsDc K H a tr/\PD K N H kvs tr:=by
 obtain ⟨tr,e,p⟩:=Zjv hd
 subst e
 rw [Zhn,p.fst] at h
 exact ⟨tr,⟨h,p.keys⟩,p⟩
theorem ZgM {kvs:KDs} {tr:List T3} (p:PD K N H kvs tr):CO true (ZJ kvs) (ZaZ tr)=dcO tr:=by
 unfold CO dcO
 dsimp only
 rw [Zhn,p.fst]
end
def ZbD:D->D->Option D
 | .lst xs true,y=>(unf xs).bind fun kvs=>(okK y).bind fun k=>if Zbv k kvs then ZL kvs k else none
 | _,_=>none
@[simp] theorem ZfG (kvs:KDs) (y:D):ZbD (.lst (ZJ kvs) true) y=(okK y).bind fun k=>if Zbv k kvs then ZL kvs k else none:=by simp [ZbD]
@[simp] theorem Zuw (y:D):ZbD (.lst [] true) y=(okK y).bind fun k=>none:=by simp [ZbD,ZL]
def ZcM (neg:Bool):D->D->Option D
 | y,.lst xs true=>(unf xs).bind fun kvs=>(okK y).bind fun k=>if Zbv k kvs then some (.bl (neg != (ZL kvs k).isSome)) else none
 | _,_=>none
@[simp] theorem ZiH (neg:Bool) (kvs:KDs) (y:D):ZcM neg y (.lst (ZJ kvs) true)=(okK y).bind fun k=>if Zbv k kvs then some (.bl (neg != (ZL kvs k).isSome)) else none:=by simp [ZcM]
@[simp] theorem Zuz (neg:Bool) (y:D):ZcM neg y (.lst [] true)=(okK y).bind fun k=>some (.bl neg):=by simp [ZcM,ZL,Zbv]
section
variable {X:Cx} {K:Qab} {M:Fb} {H0:Hp} {e a b:Expr} {f g:VE->Option D} {pos:Pos}
theorem ZsE:R2D K (Zql K) ZbD:=by
 intro N H x y d1 d2 d Q nh h1 h2 e q
 unfold ZbD at e
 split at e
 ·next xs =>
  cases hu:unf xs with
  | none=>rw [hu] at e;cases e
  | some kvs =>
   rw [hu] at e
   cases hk:okK d2 with
   | none=>rw [hk] at e;cases e
   | some k =>
    rw [hk] at e
    have e:(if Zbv k kvs then ZL kvs k else none)=some d:=e
    split at e
    ·next hh =>
     rw [Zc4 hu] at h1
     obtain ⟨p,vs,ep,r,hd⟩:=h1
     obtain ⟨tr,dc,pd⟩:=ZhA r hd
     rw [ZdS hk] at h2
     have hv:=pd.val k
     rw [e] at hv
     cases hw:Zbb tr k with
     | none=>rw [hw] at hv;exact hv.elim
     | some w=>rw [hw] at hv;exact ⟨p,tr,k,w,ep,dc,pd.hom hh,ZdQ (Zec h2),hw,q w H (Same.refl H) hv⟩
    ·cases e
 ·cases e
theorem ZnS {neg:Bool}:R2D K (Zqr K neg) (ZcM neg):=by
 intro N H x y d1 d2 d Q nh h1 h2 e q
 unfold ZcM at e
 split at e
 ·next xs =>
  cases hu:unf xs with
  | none=>rw [hu] at e;cases e
  | some kvs =>
   rw [hu] at e
   cases hk:okK d1 with
   | none=>rw [hk] at e;cases e
   | some k =>
    rw [hk] at e
    have e:(if Zbv k kvs then some (D.bl (neg != (ZL kvs k).isSome)) else none)=some d:=e
    split at e
    ·next hh =>
     cases e
     rw [Zc4 hu] at h2
     obtain ⟨p,vs,ep,r,hd⟩:=h2
     obtain ⟨tr,dc,pd⟩:=ZhA r hd
     rw [ZdS hk] at h1
     refine ⟨p,tr,k,ep,dc,pd.hom hh,ZdQ (Zec h1),?_⟩
     rw [<- (pd.val k).isS]
     exact q _ H (Same.refl H) Zdo
    ·cases e
 ·cases e
theorem Zfo (hu:X.A.units+64<cLine) (ha:JE X a (tP X.K M H0 f)) (hb:JE X b (tP X.K M H0 g)) (hs:Zg0 b):JE X (.Subscript a b pos) (tD X.K M H0 (Zf ZbD f g)):=⟨have ha:=ha.h;have hb:=hb.h;ZqB (Zsz hu) ZsE ha hb hs⟩
theorem Zo9 (hu:X.A.units+64<cLine) (ha:JE X a (tP X.K M H0 f)) (hb:JE X b (tP X.K M H0 g)) (hm:QbZ .In b=false:=by with_unfolding_all rfl):JE X (.Compare a [.In] [b] pos) (tD X.K M H0 (Zf (ZcM false) f g)):=⟨have ha:=ha.h;have hb:=hb.h;ZhL (Zl7 hu) ZnS ha hb hm⟩
theorem ZnB (hu:X.A.units+64<cLine) (ha:JE X a (tP X.K M H0 f)) (hb:JE X b (tP X.K M H0 g)) (hm:QbZ .In b=false:=by with_unfolding_all rfl):JT X (.Compare a [.In] [b] pos) (tB' X.K M H0 fun ρ=>asB (Zf (ZcM false) f g ρ)):=⟨have ha:=ha.h;have hb:=hb.h;Zf7 (Zl7 hu) ZnS ha hb hm⟩
def Zqp:List D->Option D
 | [.lst xs true]=>(unf xs).bind fun kvs=>if kvs.all (fun p=>Zdw p.1) then some (.int kvs.length) else none
 | _=>none
@[simp] theorem Zuu (kvs:KDs):Zqp [.lst (ZJ kvs) true]=if kvs.all (fun p=>Zdw p.1) then some (.int kvs.length) else none:=by simp [Zqp]
theorem Zk4 {pos:Pos}:JE X (.Dict [] [] pos) (tFb true K M H0 fun _=>some []):=⟨pe_dnew.mono fun σ H Q ⟨ρ,xs,R,e,q⟩ p hp=>by
 cases e
 exact Zgx (xs:=[]) (vs:=[]) (fl:=true) (Same.refl H) hp DenL.nil q⟩
def ZgZ (i:Nat) (ok ov:Option D) (ρ:VE):Res:=match rdG ρ i,ok,ov with
 | some xs,some y,some d=>match unf xs,okK y with
  | some kvs,some k=>if Zbv k kvs&&decide (kvs.length<Qaj) then .next (ρ.set i (.own (ZJ (Zak kvs k d)) true)) else .fail
  | _,_=>.fail
 | _,_,_=>.fail
theorem ZiO {i:Nat} {x:Str} {vpos tpos pos:Pos} {ei e:Expr} {fi f:VE->Option D} (hu:X.A.units+64<cLine) (hi:JE X ei (tP X.K M H0 fi)) (he:JE X e (tD X.K M H0 f)) (hN:X.N[i]?=some x:=by rfl)
  (hv:Vis X.env.scope x:=by first | exact Or.inl rfl | exact Or.inr (Or.inl rfl) | exact Or.inr (Or.inr rfl)) (hd:(x==("__debug__":Str))=false:=by decide) (hcd:(x==("__classdict__":Str))=false:=by decide)
  (ha:∀ v,assign (.Subscript (.Name x vpos) ei tpos) X.env v=(do
   let ov <- holding [v] (eval (.Name x vpos) X.env)
   let iv <- holding [v,ov] (eval ei X.env)
   standAt tpos
   holding [v,ov,iv] (setItem ov iv v)
   release [v,ov,iv] []):=by intro _;rfl)
  (hs:swapsWithSole [.Subscript (.Name x vpos) ei tpos] e pos.line X.env=pure false:=by rfl) (hw:swappedStores [.Subscript (.Name x vpos) ei tpos] e X.env=pure none:=by rfl)
  (h1:(QbS [.Subscript (.Name x vpos) ei tpos] X.env).map (·.2)=[assign (.Subscript (.Name x vpos) ei tpos) X.env]:=by rfl) :
  JS X (.Assign [.Subscript (.Name x vpos) ei tpos] e pos) (tS X.K M H0 fun ρ=>ZgZ i (fi ρ) (f ρ) ρ):=⟨have hi:=hi.h;have he:=he.h;(ZnE he (Zs5 (Zcn hN hv hd hcd) hi (Zrk hu) ha) hs hw h1).mono fun D' σ H ⟨ρ,R,q⟩=>by
 try dsimp only at q
 unfold ZgZ at q
 split at q
 ·next xs y d hr hfi hf =>
  split at q
  ·next kvs k hun hk =>
   split at q
   ·next hh =>
    rw [QaW,decide_eq_true_eq] at hh
    refine ⟨ρ,d,R,hf,fun v H1 s1 hv=>?_⟩
    have hi':=Zj0 hr
    have R1:=R.st s1
    have ex:=Zc4 hun
    subst ex
    obtain ⟨a,vs,e1,z1,z2,z3,z4⟩:=R1.slot i _ hi'
    have ha:=join_some e1
    refine ⟨.ref a,ha,ρ,y,R1,hfi,fun w H2 s2 hw=>?_⟩
    have R2:=R1.st s2
    obtain ⟨tr,dc,pd⟩:=ZhA (K:=X.K) (.inl (s2 _ _ z3)) (z4.same s2)
    obtain ⟨tr',e',pd'⟩:=Zjv (z4.same s2)
    subst e'
    rw [ZdS hk] at hw
    have pp:=pd'.put (k:=k) (Zec hw) (hv.same s2)
    obtain ⟨R3,S3⟩:=R2.chg (fl2:=true) (ys:=ZJ (Zak kvs k d)) (ws:=ZaZ (ZbS tr' k w v)) hi' ha pp.flat
    rw [ZgM pp] at R3 S3
    refine ⟨a,tr',k,rfl,?_,pd'.keys,pd'.hom hh.1,ZdQ (Zec hw),by rw [<- Qcg pd'];exact hh.2,q _ _ R3 ((Step.of_same (s1.trans s2)).trans S3)⟩
    rw [<- ZgM pd']
    exact s2 _ _ z3
   ·exact QaJ q
  ·exact QaJ q
 ·exact QaJ q⟩
end
end L2
namespace L2
open PySem PySem.Spec PyProof.Rows
theorem Zkh (k:KT) (v:D) (k':KT):∀ kvs:KDs,ZL (Zbz kvs k v) k'=if k=k' then (ZL kvs k').map (fun _=>v) else ZL kvs k'
 | []=>by simp [Zbz,ZL]
 | t::r=>by
  have ih:=Zkh k v k' r
  unfold Zbz ZL
  by_cases h1:t.1=k
  ·subst h1
   rw [if_pos rfl]
   by_cases h2:t.1=k'
   ·subst h2;simp
   ·simp only [if_neg h2,ih]
  ·rw [if_neg h1]
   by_cases h2:t.1=k'
   ·subst h2
    rw [if_pos rfl,if_neg (fun z=>h1 z.symm),if_pos rfl]
   ·rw [if_neg h2,ih,if_neg h2]
theorem Zky (k:KT):∀ (a b:KDs),ZL (a++b) k=match ZL a k with | some v=>some v | none=>ZL b k
 | [],b=>by simp [ZL]
 | t::r,b=>by
  have ih:=Zky k r b
  rw [List.cons_append]
  have e1:ZL (t::(r++b)) k=if t.1=k then some t.2 else ZL (r++b) k:=rfl
  have e2:ZL (t::r) k=if t.1=k then some t.2 else ZL r k:=rfl
  rw [e1,e2]
  by_cases h:t.1=k
  ·rw [if_pos h,if_pos h]
  ·rw [if_neg h,if_neg h];exact ih
theorem Zfx (kvs:KDs) (k:KT) (v:D) (k':KT):ZL (Zak kvs k v) k'=if k=k' then some v else ZL kvs k':=by
 unfold Zak
 by_cases h:(ZL kvs k).isSome=true
 ·rw [if_pos h,Zkh]
  by_cases e:k=k'
  ·subst e
   rw [if_pos rfl,if_pos rfl]
   cases hv:ZL kvs k with
   | none=>rw [hv] at h;cases h
   | some w=>rfl
  ·rw [if_neg e,if_neg e]
 ·rw [if_neg h,Zky]
  have hn:ZL kvs k=none:=by
   cases hv:ZL kvs k with
   | none=>rfl
   | some w=>rw [hv] at h;exact absurd rfl h
  by_cases e:k=k'
  ·subst e;rw [hn];simp [ZL]
  ·rw [if_neg e]
   cases ZL kvs k' with
   | none=>simp [ZL,e]
   | some w=>rfl
theorem ZjJ {k:KT} {v:D} {p:KT×D}:∀ {kvs:KDs},p∈Zbz kvs k v->p∈kvs\/p=(k,v)
 | [],h=>nomatch h
 | t::r,h=>by
  unfold Zbz at h
  rcases Qbk.mp h with hp | h
  ·by_cases e:t.1=k
   ·rw [if_pos e,e] at hp;exact .inr hp
   ·rw [if_neg e] at hp;subst hp;exact .inl Qam
  ·rcases ZjJ h with h | h
   ·exact .inl (Qag _ h)
   ·exact .inr h
theorem Zpy {k:KT} {v:D} {p:KT×D} {kvs:KDs} (h:p∈Zak kvs k v):p∈kvs\/p=(k,v):=by
 unfold Zak at h
 split at h
 ·exact ZjJ h
 ·rcases List.mem_append.mp h with h | h
  ·exact .inl h
  ·exact .inr (by simpa using h)
theorem ZjQ (k:KT) (v:D):∀ kvs:KDs,(Zbz kvs k v).length=kvs.length
 | []=>rfl
 | t::r=>by simp [Zbz,ZjQ k v r]
theorem ZjI (kvs:KDs) (k:KT) (v:D):(Zak kvs k v).length<=kvs.length+1:=by
 unfold Zak
 split
 ·rw [ZjQ];omega
 ·simp
theorem ZgR {kvs:KDs} (a:At) (h:∀ p∈kvs,Zdw p.1=true):Zbv (.at a) kvs=true:=by
 unfold Zbv
 rw [Qct]
 intro p hp
 rw [h p hp];rfl
theorem Zp1 {kvs:KDs} (l:List At) (h:∀ p∈kvs,Zdw p.1=false):Zbv (.tup l) kvs=true:=by
 unfold Zbv
 rw [Qct]
 intro p hp
 rw [h p hp];rfl
end L2
namespace L2
open PySem PySem.Spec PyProof.Rows
section
variable {X:Cx} {K:Qab} {M:Fb} {H0:Hp} {e a b ek ev:Expr} {f g fk fv:VE->Option D} {fx:VE->Option (D×VE)} {pos:Pos}
def Zu6:D->D->Option D
 | .bl i,.bl j=>some (.bl (decide (i=j)))
 | _,_=>none
@[simp] theorem Zvs (i j:Bool):Zu6 (.bl i) (.bl j)=some (.bl (decide (i=j))):=rfl
end
end L2
namespace L2
open PySem PySem.Spec PyProof.Rows
section
variable {X:Cx} {K:Qab}
def ZoH:V->List V->Hp->VK->Prop:=fun x vs H Q=>∃ z i,x=.str z/\vs=[.int i]/\PadOk i=true/\Q (.str (Txt.zfill z i)) H
theorem ZpD:MtR X "str.zfill" ZoH:=by
 intro pins s σ H x vs v us Q I rx rv h
 obtain ⟨z,i,rfl,rfl,hp,q⟩:=h
 obtain ⟨t,rfl⟩:=rx
 obtain ⟨u,rfl,t',rfl⟩:=ZaV rv
 exact SC.zfill hp fun t'' k=>⟨.str _,H,I.tok _,⟨_,rfl⟩,q⟩
noncomputable def Zgp (z:Str):List D->Option D
 | [.int i]=>gd (0<=i/\i<1000000) (some (.str (Txt.zfill z i)))
 | _=>none
theorem ZrU {i:Int} (h0:0<=i) (h1:i<1000000):PadOk i=true:=by
 unfold PadOk fitsSsize Builtin.Str.tooLong
 rw [QaW,Bool.not_eq_true',Bool.not_eq_true',Bool.or_eq_false_iff]
 refine ⟨⟨decide_eq_false (by omega),decide_eq_false (by omega)⟩,decide_eq_false ?_⟩
 have h2:i.toNat<1000000:=by omega
 have h3:(1000000:Nat)<=Qaj:=by decide
 omega
theorem Zo5:RmD K ZoH Zgp:=by
 intro N H z vs ds d Q nh h e q
 unfold Zgp at e
 split at e
 ·next i =>
  obtain ⟨hi,e⟩:=Zkk e
  cases e
  obtain ⟨v,rfl,hv⟩:=Paired.one' h
  exact ⟨z,i,rfl,by rw [hv.int],ZrU hi.1 hi.2,q _ H (Same.refl H) Ze6⟩
 ·cases e
@[simp] theorem Zn6 (z:Str) (i:Int) (h0:0<=i) (h1:i<1000000):Zgp z [.int i]=some (.str (Txt.zfill z i)):=by
  unfold Zgp
  exact ZgF ⟨h0,h1⟩
@[simp] def ZtJ (z:Str):List D->Option D
  | [.str y]=>some (.bl (Txt.startswith z y))
  | _=>none
end
end L2
namespace L2
open PySem PySem.Spec PyProof.Rows
@[simp] def Zj4 (b:D->VE->Option VE) (o:Option D) (ρ:VE):Res:=match o with
  | some d=>(match b d ρ with
   | some ρ'=>.next ρ'
   | none=>.fail)
  | none=>.fail
section
variable {X:Cx} {K:Qab} {M:Fb} {H0:Hp} {e tg:Expr} {f:VE->Option D} {b:D->VE->Option VE} {pos:Pos}
theorem ZpV {ws:List Nat} (he:JE X e (tD K M H0 f)) (hg:JG X tg (tG K M H0 ws b)) (hs:swapsWithSole [tg] e pos.line X.env=pure false:=by rfl) (hw:swappedStores [tg] e X.env=pure none:=by rfl)
  (h1:(QbS [tg] X.env).map (·.2)=[assign tg X.env]:=by rfl):JS X (.Assign [tg] e pos) (tS K M H0 fun ρ=>Zj4 b (f ρ) ρ):=⟨have he:=he.h;have hg:=hg.h;(ZnE he hg hs hw h1).mono fun D' σ H ⟨ρ,R,q⟩=>by
 try dsimp only at q
 cases hf:f ρ with
 | none=>rw [hf] at q;exact QaJ q
 | some d =>
  rw [hf] at q
  cases hb:b d ρ with
  | none=>simp only [Zj4,hb] at q;exact QaJ q
  | some ρ' =>
   simp only [Zj4,hb] at q
   exact ⟨ρ,d,R,hf,fun v H1 s hv=>⟨ρ,d,ρ',R.st s,hv,hb,fun σ1 R1 S1 _=>q σ1 H1 R1 ((Step.of_same s).trans S1)⟩⟩⟩
end
end L2
namespace L2
open PySem PySem.Spec PyProof.Rows PySem.W
section
variable (lt:Nat->Nat->Bool)
structure WO (n:Nat):Prop where
 asym:∀ a b,a<n->b<n->lt a b=true->lt b a=false
 neg:∀ a b c,a<n->b<n->c<n->lt a c=true->lt a b=true\/lt b c=true
def le' (a b:Nat):Prop:=lt b a=false
end
section
variable {lt:Nat->Nat->Bool} {n:Nat} (W:WO lt n)
include W
theorem WO.refl {a:Nat} (ha:a<n):le' lt a a:=by
 unfold le'
 cases h:lt a a with
 | false=>rfl
 | true=>have:=W.asym a a ha ha h;rw [h] at this;cases this
theorem WO.trans {a b c:Nat} (ha:a<n) (hb:b<n) (hc:c<n) (h1:le' lt a b) (h2:le' lt b c):le' lt a c:=by
 unfold le' at *
 cases h:lt c a with
 | false=>rfl
 | true =>
  rcases W.neg c b a hc hb ha h with z | z
  ·rw [z] at h2;cases h2
  ·rw [z] at h1;cases h1
theorem WO.of_lt {a b:Nat} (ha:a<n) (hb:b<n) (h:lt a b=true):le' lt a b:=W.asym a b ha hb h
end
abbrev pvA (p:Array Nat) (i:Nat):Nat:=p.getD i 0
def ZeE (lt:Nat->Nat->Bool) (p:Array Nat) (k:Nat):Prop:=∀ i j,i<=j->j<k->le' lt (pvA p i) (pvA p j)
def Zeh (lt:Nat->Nat->Bool) (p:Array Nat) (k:Nat):Prop:=∀ i j,i<=j->j<k->le' lt (pvA p j) (pvA p i)
def Eqv (lt:Nat->Nat->Bool) (a b:Nat):Prop:=le' lt a b/\le' lt b a
def Bs (n:Nat) (p:Array Nat):Prop:=p.Perm (Qaw n).toArray
theorem Bs.size {n:Nat} {p:Array Nat} (h:Bs n p):p.size=n:=by have:=h.size_eq;simpa using this
theorem Bs.lt {n:Nat} {p:Array Nat} (h:Bs n p) {i:Nat} (hi:i<n):pvA p i<n:=by
 have hs:=h.size
 have hi':i<p.size:=by omega
 have hm:p[i]∈p:=Array.getElem_mem hi'
 have:=(h.mem_iff (a:=p[i])).mp hm
 simp at this
 unfold pvA
 rw [QcP,Qbn hi']
 exact this
theorem ZgH {p q:Array Nat} {i j:Nat} (h:p[i]?=q[j]?):pvA p i=pvA q j:=by
 unfold pvA
 rw [QcP,QcP,h]
theorem Zfe {p:Array Nat} {i j:Nat} (hj:j<=p.size) (k:Nat):pvA (kas_rev p i j) k=if i<=k/\k<j then pvA p (i+j-1-k) else pvA p k:=by
 have:=getElem?_mirror_all (xs:=p) (i:=i) (j:=j) hj k
 by_cases h:i<=k/\k<j
 ·rw [if_pos h] at this ⊢;exact ZgH this
 ·rw [if_neg h] at this ⊢;exact ZgH this
theorem Zmo {p:Array Nat} {k d:Nat} (hk:k<p.size) (hd:d<=k) (i:Nat):pvA (bubble p k d) i=if i=k-d then pvA p k else if k-d<i/\i<=k then pvA p (i-1) else pvA p i:=by
 have:=getElem?_bubble (xs:=p) (src:=k) hk d hd i
 by_cases h:i=k-d
 ·rw [if_pos h] at this ⊢;exact ZgH this
 ·rw [if_neg h] at this ⊢
  by_cases h2:k-d<i/\i<=k
  ·rw [if_pos h2] at this ⊢;exact ZgH this
  ·rw [if_neg h2] at this ⊢;exact ZgH this
theorem Bs.rev {n:Nat} {p:Array Nat} (h:Bs n p) (i j:Nat):Bs n (kas_rev p i j):=(mirror_perm p i j _).trans h
theorem Bs.bub {n:Nat} {p:Array Nat} (h:Bs n p) (k d:Nat):Bs n (bubble p k d):=(bubble_perm p k d).trans h
section
variable {lt:Nat->Nat->Bool} {n:Nat} (W:WO lt n) {cmp:Nat->Nat->(Bool->Shared->Prop)->Shared->Prop} {s:Shared} (hc:∀ i j C,i<n->j<n->C (lt i j) s->cmp i j C s)
include W hc
theorem Zks {p:Array Nat} (hp:Bs n p):∀ (f m:Nat) {Q:Nat->Shared->Prop},1<=m->m+f<=n->ZeE lt p m->(∀ m',m<=m'->m'<=m+f->ZeE lt p m'->(m'=m+f\/lt (pvA p m') (pvA p (m'-1))=true)->Q m' s)->QaZ cmp (kas_asc p f m) Q s
 | 0,m,Q,h1,h2,h3,q=>by
  rw [kas_asc,QaZ]
  exact q m (Qau _) (by omega) h3 (.inl rfl)
 | f+1,m,Q,h1,h2,h3,q=>by
  rw [kas_asc,QaZ]
  refine hc _ _ _ (hp.lt (by omega)) (hp.lt (by omega)) ?_
  cases hb:lt (pvA p m) (pvA p (m-1)) with
  | true =>
   simp only [if_true,QaZ]
   exact q m (Qau _) (by omega) h3 (.inr hb)
  | false =>
   simp only [QaS,if_false]
   refine Zks hp f (m+1) (by omega) (by omega) (fun i j hij hj=>?_) fun m' a b c d=>q m' (by omega) (by omega) c (by rcases d with d | d;exact .inl (by omega);exact .inr d)
   rcases QcN j m with z | z
   ·exact h3 i j hij z
   ·have e:j=m:=by omega
    subst e
    rcases QcN i j with y | y
    ·exact W.trans (hp.lt (by omega)) (hp.lt (i:=j-1) (by omega)) (hp.lt (by omega)) (h3 i (j-1) (by omega) (by omega)) hb
    ·have e:i=j:=by omega
     subst e
     exact W.refl (hp.lt (by omega))
theorem Ziy {p:Array Nat} (hp:Bs n p) {i j:Nat} (hij:i<j) (hj:j<=n) (he:∀ k,i<=k->k<j->Eqv lt (pvA p k) (pvA p (j-1))) (k:Nat) (hk:k<n):Eqv lt (pvA (kas_rev p i j) k) (pvA p k):=by
 rw [Zfe (by rw [hp.size];exact hj)]
 by_cases h:i<=k/\k<j
 ·rw [if_pos h]
  have a:=he (i+j-1-k) (by omega) (by omega)
  have b:=he k h.1 h.2
  exact ⟨W.trans (hp.lt (by omega)) (hp.lt (by omega)) (hp.lt (by omega)) a.1 b.2,W.trans (hp.lt (by omega)) (hp.lt (by omega)) (hp.lt (by omega)) b.1 a.2⟩
 ·rw [if_neg h]
  exact ⟨W.refl (hp.lt hk),W.refl (hp.lt hk)⟩
theorem Zi7 {p q:Array Nat} (hp:Bs n p) (hq:Bs n q) {k:Nat} (hk:k<=n) (he:∀ i,i<n->Eqv lt (pvA q i) (pvA p i)) (h:Zeh lt p k):Zeh lt q k:=fun i j hij hj =>
 W.trans (hq.lt (by omega)) (hp.lt (i:=j) (by omega)) (hq.lt (by omega)) (he j (by omega)).1 (W.trans (hp.lt (by omega)) (hp.lt (i:=i) (by omega)) (hq.lt (by omega)) (h i j hij hj) (he i (by omega)).2)
theorem ZgV:∀ (f:Nat) (p:Array Nat) (m q:Nat) {Q:Array Nat×Nat×Nat->Shared->Prop},Bs n p->1<=m->m+f<=n->q+1<=m->Zeh lt p m->(∀ i,m-(q+1)<=i->i<m->Eqv lt (pvA p i) (pvA p (m-1))) ->
  (∀ p' m' q',Bs n p'->m<=m'->m'<=m+f->q'+1<=m'->Zeh lt p' m'->(∀ i,m'-(q'+1)<=i->i<m'->Eqv lt (pvA p' i) (pvA p' (m'-1)))->Q (p',m',q') s)->QaZ cmp (kas_desc f p m q) Q s
 | 0,p,m,q,Q,hp,h1,h2,h3,h4,h5,hq=>by
  rw [kas_desc,QaZ]
  exact hq p m q hp (Qau _) (by omega) h3 h4 h5
 | f+1,p,m,q,Q,hp,h1,h2,h3,h4,h5,hq=>by
  rw [kas_desc,QaZ]
  refine hc _ _ _ (hp.lt (by omega)) (hp.lt (by omega)) ?_
  have step:∀ (p':Array Nat),Bs n p'->Zeh lt p' m->le' lt (pvA p' m) (pvA p' (m-1))->Zeh lt p' (m+1):=fun p' hp' h hb i j hij hj=>by
   rcases QcN j m with z | z
   ·exact h i j hij z
   ·have e:j=m:=by omega
    subst e
    rcases QcN i j with y | y
    ·exact W.trans (hp'.lt (by omega)) (hp'.lt (i:=j-1) (by omega)) (hp'.lt (by omega)) hb (h i (j-1) (by omega) (by omega))
    ·have e:i=j:=by omega
     subst e
     exact W.refl (hp'.lt (by omega))
  cases hb:lt (pvA p m) (pvA p (m-1)) with
  | true =>
   have hle:=W.of_lt (hp.lt (by omega)) (hp.lt (by omega)) hb
   simp only [if_true]
   have one:∀ (p':Array Nat),Bs n p'->∀ i,m+1-(0+1)<=i->i<m+1->Eqv lt (pvA p' i) (pvA p' (m+1-1)):=fun p' hp' i a b=>by
    have e:i=m:=by omega
    subst e
    exact ⟨W.refl (hp'.lt (by omega)),W.refl (hp'.lt (by omega))⟩
   by_cases h0:q > 0
   ·simp only [h0,if_true]
    have hp':=hp.rev (m-(q+1)) m
    have hev:=Ziy W hc hp (i:=m-(q+1)) (j:=m) (by omega) (by omega) h5
    have hni:=Zi7 W hc hp hp' (k:=m) (by omega) (fun i hi=>hev i hi) h4
    have em:pvA (kas_rev p (m-(q+1)) m) m=pvA p m:=by rw [Zfe (by rw [hp.size];omega),if_neg (by omega)]
    have hle':le' lt (pvA (kas_rev p (m-(q+1)) m) m) (pvA (kas_rev p (m-(q+1)) m) (m-1)):=by
     rw [em]
     exact W.trans (hp.lt (by omega)) (hp.lt (by omega)) (hp'.lt (by omega)) hle (hev (m-1) (by omega)).2
    exact ZgV f _ (m+1) 0 hp' (by omega) (by omega) (by omega) (step _ hp' hni hle') (one _ hp') fun p2 m2 q2 a b c d e g=>hq p2 m2 q2 a (by omega) (by omega) d e g
   ·simp only [h0,if_false]
    exact ZgV f _ (m+1) 0 hp (by omega) (by omega) (by omega) (step _ hp h4 hle) (one _ hp) fun p2 m2 q2 a b c d e g=>hq p2 m2 q2 a (by omega) (by omega) d e g
  | false =>
   simp only [QaS,if_false,QaZ]
   refine hc _ _ _ (hp.lt (by omega)) (hp.lt (by omega)) ?_
   cases hd:lt (pvA p (m-1)) (pvA p m) with
   | true =>
    simp only [if_true,QaZ]
    exact hq p m q hp (Qau _) (by omega) h3 h4 h5
   | false =>
    simp only [QaS,if_false]
    refine ZgV f _ (m+1) (q+1) hp (by omega) (by omega) (by omega) (step _ hp h4 hd) (fun i a b=>?_) fun p2 m2 q2 a b c d e g=>hq p2 m2 q2 a (by omega) (by omega) d e g
    show Eqv lt (pvA p i) (pvA p m)
    rcases QcN i m with z | z
    ·have:=h5 i (by omega) z
     exact ⟨W.trans (hp.lt (by omega)) (hp.lt (i:=m-1) (by omega)) (hp.lt (by omega)) this.1 hb,W.trans (hp.lt (by omega)) (hp.lt (i:=m-1) (by omega)) (hp.lt (by omega)) hd this.2⟩
    ·have e:i=m:=by omega
     subst e
     exact ⟨W.refl (hp.lt (by omega)),W.refl (hp.lt (by omega))⟩
theorem ZkM {p:Array Nat} {m nr:Nat} {Q:Nat×Array Nat->Shared->Prop} (hp:Bs n p) (h1:1<=m) (h2:m<=nr) (h3:nr<=n) (h4:Zeh lt p m)
  (q:∀ m' p',Bs n p'->1<=m'->m'<=nr->ZeE lt p' m'->Q (m',p') s):QaZ cmp (kas_tail3 m nr p) Q s:=by
 unfold kas_tail3
 rw [Qc3]
 have hp':=hp.rev 0 m
 refine Zks W hc hp' (nr-m) m h1 (by omega) (fun i j hij hj=>?_) fun m' a b c _=>?_
 ·rw [Zfe (by rw [hp.size];omega),Zfe (by rw [hp.size];omega),if_pos (by omega),if_pos (by omega)]
  exact h4 (0+m-1-j) (0+m-1-i) (by omega) (by omega)
 ·rw [QaZ]
  exact q m' _ hp' (by omega) (by omega) c
theorem Zlv {p:Array Nat} {m nr:Nat} {Q:Nat×Array Nat->Shared->Prop} (hp:Bs n p) (h2:m+1<=nr) (h3:nr<=n) (h4:Zeh lt p (m+1))
  (q:∀ m' p',Bs n p'->1<=m'->m'<=nr->ZeE lt p' m'->Q (m',p') s):QaZ cmp (kas_descPart m nr p) Q s:=by
 unfold kas_descPart
 rw [Qc3]
 refine ZgV W hc (nr-(m+1)) p (m+1) 0 hp (by omega) (by omega) (by omega) h4 (fun i a b=>?_) fun p' m' q' a b c d e g=>?_
 ·have e:i=m:=by omega
  subst e
  exact ⟨W.refl (hp.lt (by omega)),W.refl (hp.lt (by omega))⟩
 ·by_cases h0:q' > 0
  ·simp only [h0,if_true]
   exact ZkM W hc (a.rev _ _) (by omega) (by omega) h3 (Zi7 W hc a (a.rev _ _) (by omega) (fun i hi=>Ziy W hc a (by omega) (by omega) g i hi) e) q
  ·simp only [h0,if_false]
   exact ZkM W hc a (by omega) (by omega) h3 e q
theorem Zpc {p:Array Nat} {Q:Nat×Array Nat->Shared->Prop} (hp:Bs n p) (h1:1<=n) (q:∀ m' p',Bs n p'->1<=m'->m'<=n->ZeE lt p' m'->Q (m',p') s):QaZ cmp (kas_count n p) Q s:=by
 unfold kas_count
 rw [Qc3]
 refine Zks W hc hp (n-1) 1 (by omega) (by omega) (fun i j hij hj=>?_) fun m a b c d=>?_
 ·have e:i=0:=by omega
  have e2:j=0:=by omega
  subst e e2
  exact W.refl (hp.lt (by omega))
 ·by_cases hm:m=n
  ·subst hm
   simp only [beq_self_eq_true,if_true,QaZ]
   exact q m p hp a (by omega) c
  ·have hb:(m==n)=false:=by simpa using hm
   have hlt:lt (pvA p m) (pvA p (m-1))=true:=by
    rcases d with d | d
    ·exact absurd (by omega) hm
    ·exact d
   simp only [hb,QaS,if_false]
   have desc:∀ (p':Array Nat),Bs n p'->(∀ i,i<m->Eqv lt (pvA p' i) (pvA p' (m-1)))->lt (pvA p' m) (pvA p' (m-1))=true->QaZ cmp (kas_descPart m n p') Q s:=fun p' hp' he hl =>
    Zlv W hc hp' (by omega) (by omega) (fun i j hij hj=>by
     rcases QcN j m with z | z
     ·exact W.trans (hp'.lt (by omega)) (hp'.lt (i:=m-1) (by omega)) (hp'.lt (by omega)) (he j z).1 (he i (by omega)).2
     ·have e:j=m:=by omega
      subst e
      rcases QcN i j with y | y
      ·exact W.trans (hp'.lt (by omega)) (hp'.lt (i:=j-1) (by omega)) (hp'.lt (by omega)) (W.of_lt (hp'.lt (by omega)) (hp'.lt (by omega)) hl) (he i y).2
      ·have e:i=j:=by omega
       subst e
       exact W.refl (hp'.lt (by omega))) q
   by_cases h1m:m > 1
   ·simp only [h1m,if_true,QaZ]
    refine hc _ _ _ (hp.lt (by omega)) (hp.lt (by omega)) ?_
    cases hx:lt (pvA p 0) (pvA p (m-1)) with
    | true =>
     simp only [if_true,QaZ]
     exact q m p hp a (by omega) c
    | false =>
     simp only [QaS,if_false]
     have hp':=hp.rev 0 m
     have he:∀ i,i<m->Eqv lt (pvA p i) (pvA p (m-1)):=fun i hi=>⟨c i (m-1) (by omega) (by omega),W.trans (hp.lt (by omega)) (hp.lt (i:=0) (by omega)) (hp.lt (by omega)) hx (c 0 i (by omega) hi)⟩
     have hev:=fun k hk=>Ziy W hc hp (i:=0) (j:=m) (by omega) (by omega) (fun k _ hk=>he k hk) k hk
     have em:pvA (kas_rev p 0 m) m=pvA p m:=by rw [Zfe (by rw [hp.size];omega),if_neg (by omega)]
     refine desc _ hp' (fun i hi=>?_) ?_
     ·have x1:=hev i (by omega)
      have x2:=hev (m-1) (by omega)
      have x3:=he i hi
      exact ⟨W.trans (hp'.lt (by omega)) (hp.lt (i:=i) (by omega)) (hp'.lt (by omega)) x1.1 (W.trans (hp.lt (by omega)) (hp.lt (i:=m-1) (by omega)) (hp'.lt (by omega)) x3.1 x2.2),
       W.trans (hp'.lt (by omega)) (hp.lt (i:=m-1) (by omega)) (hp'.lt (by omega)) x2.1 (W.trans (hp.lt (by omega)) (hp.lt (i:=i) (by omega)) (hp'.lt (by omega)) x3.2 x1.2)⟩
     ·rw [em]
      have x2:=hev (m-1) (by omega)
      rcases W.neg (pvA p m) (pvA (kas_rev p 0 m) (m-1)) (pvA p (m-1)) (hp.lt (by omega)) (hp'.lt (by omega)) (hp.lt (by omega)) hlt with z | z
      ·exact z
      ·have:=x2.2;unfold le' at this;rw [z] at this;cases this
   ·have e:m=1:=by omega
    subst e
    simp only [h1m,if_false]
    refine desc p hp (fun i hi=>?_) hlt
    have e:i=0:=by omega
    subst e
    exact ⟨W.refl (hp.lt (by omega)),W.refl (hp.lt (by omega))⟩
theorem Zhh {p:Array Nat} (hp:Bs n p) {k:Nat} (hk:k<n) (hs:ZeE lt p k):∀ (f l r:Nat) {Q:Nat->Shared->Prop},l<=r->r<=k->r<=l+f->(∀ i,i<l->le' lt (pvA p i) (pvA p k))->(∀ i,r<=i->i<k->lt (pvA p k) (pvA p i)=true) ->
  (∀ l',l'<=k->(∀ i,i<l'->le' lt (pvA p i) (pvA p k))->(∀ i,l'<=i->i<k->lt (pvA p k) (pvA p i)=true)->Q l' s)->QaZ cmp (kas_place p k f l r) Q s
 | 0,l,r,Q,h1,h2,h3,h4,h5,q=>by
  rw [kas_place,QaZ]
  have e:l=r:=by omega
  subst e
  exact q l h2 h4 h5
 | f+1,l,r,Q,h1,h2,h3,h4,h5,q=>by
  rw [kas_place]
  by_cases hlr:l≥r
  ·have e:l=r:=by omega
   subst e
   rw [if_pos hlr,QaZ]
   exact q l h2 h4 h5
  ·rw [if_neg hlr,QaZ]
   refine hc _ _ _ (hp.lt hk) (hp.lt (by omega)) ?_
   cases hb:lt (pvA p k) (pvA p ((l+r) / 2)) with
   | true =>
    simp only [if_true]
    refine Zhh hp hk hs f l ((l+r) / 2) (by omega) (by omega) (by omega) h4 (fun i a b=>?_) q
    have hle:=hs ((l+r) / 2) i a b
    rcases W.neg (pvA p k) (pvA p i) (pvA p ((l+r) / 2)) (hp.lt hk) (hp.lt (by omega)) (hp.lt (by omega)) hb with z | z
    ·exact z
    ·unfold le' at hle;rw [z] at hle;cases hle
   | false =>
    simp only [QaS,if_false]
    refine Zhh hp hk hs f ((l+r) / 2+1) r (by omega) h2 (by omega) (fun i a=>?_) h5 q
    exact W.trans (hp.lt (by omega)) (hp.lt (i:=(l+r) / 2) (by omega)) (hp.lt hk) (hs i ((l+r) / 2) (by omega) (by omega)) hb
theorem ZnZ:∀ (f:Nat) (p:Array Nat) (k:Nat) {Q:Array Nat->Shared->Prop},Bs n p->k+f=n->ZeE lt p k->(∀ p',Bs n p'->ZeE lt p' n->Q p' s)->QaZ cmp (kas_bin f p k) Q s
 | 0,p,k,Q,hp,h1,h2,q=>by
  rw [kas_bin,QaZ]
  have e:k=n:=by omega
  subst e
  exact q p hp h2
 | f+1,p,k,Q,hp,h1,h2,q=>by
  rw [kas_bin,Qc3]
  refine Zhh W hc hp (k:=k) (by omega) h2 k 0 k (by omega) (Qau _) (by omega) (fun i z=>by omega) (fun i a b=>by omega) fun l a b c=>?_
  refine ZnZ f _ (k+1) (hp.bub _ _) (by omega) (fun i j hij hj=>?_) q
  have hkp:k<p.size:=by rw [hp.size];omega
  have hkl:k-(k-l)=l:=by omega
  rw [Zmo hkp (by omega),Zmo hkp (by omega),hkl]
  by_cases hi:i=l
  ·rw [if_pos hi]
   by_cases hj':j=l
   ·rw [if_pos hj'];exact W.refl (hp.lt (by omega))
   ·rw [if_neg hj',if_pos (by omega)]
    exact W.of_lt (hp.lt (by omega)) (hp.lt (by omega)) (c (j-1) (by omega) (by omega))
  ·rw [if_neg hi]
   by_cases hi2:l<i/\i<=k
   ·rw [if_pos hi2,if_neg (by omega),if_pos (by omega)]
    exact h2 (i-1) (j-1) (by omega) (by omega)
   ·rw [if_neg hi2]
    by_cases hj':j=l
    ·rw [if_pos hj'];exact b i (by omega)
    ·rw [if_neg hj']
     by_cases hj2:l<j/\j<=k
     ·rw [if_pos hj2];exact h2 i (j-1) (by omega) (by omega)
     ·rw [if_neg hj2];exact h2 i j hij (by omega)
theorem Zrr {Q:Array Nat->Shared->Prop} (h1:1<=n) (q:∀ p',Bs n p'->ZeE lt p' n->Q p' s):QaZ cmp (kas_sort n) Q s:=by
 unfold kas_sort
 rw [Qc3]
 refine Zpc W hc (p:=(Qaw n).toArray) (Array.Perm.refl _) h1 fun m p' a b c d=>?_
 by_cases hm:m<n
 ·simp only [hm,if_true]
  have e:max m 1=m:=by omega
  rw [e]
  exact ZnZ W hc (n-m) p' m a (by omega) d q
 ·have e:m=n:=by omega
  subst e
  simp only [Qbu,if_false,QaZ]
  exact q p' a d
end
end L2
namespace L2
open PySem PySem.Spec PyProof.Rows PySem.W
section
variable {prog:Qav} {w:World} {A:Around} {E:Value->Shared->Prop} {s:Shared}
theorem ZoF {l b:Addr} {items items2:Array Value} {r:Bool} {n n2:Nat} {dd dd2:Option Addr} {sl sl2:Array (Option Value)} {Q:Bool->Shared->Prop} (hl:s.heap.get? l=some { cls:=.type "list",dict:=dd,data:=.seq items n,slots:=sl }) (hb:s.heap.get? b=some { cls:=.type "list",dict:=dd2,data:=.seq items2 n2,slots:=sl2 }) (hr:ZcA A.in1 s items.toList items2.toList r)
  (hu:A.units<cLine) (h:Q r s):wpAny (model prog w) A (oneLt' true (.ref l) (.ref b)) Q E s:=by
 rw [oneLt'_eq]
 simp only [if_true]
 refine Qaa (wpAny_cRoomFor hu ?_)
 refine Qaa (wpAny_callSpecialIfBound?_slot (T:="list") ⟨_,hl,rfl⟩ PySem.F.slot_list_lt (call_meets PySem.F.slot_list_lt ⟨_,hl,rfl⟩ PySem.F.entry_list_lt (PySem.F.args_list_lt_2 _ _) (ZhB l b items items2 n n2 dd dd2 sl sl2 r) ⟨hl,hb,hr,?_⟩))
 exact QbD h
end
section
variable {X:Cx} {pins:List (Addr×Obj)} {σ:St} {H:Hp} {s:Shared} {N:Fb}
theorem Zuk (I:Inv X pins σ H s) {prog:Qav} {w:World} (A:Around) (hu:A.units+40<cLine) (b fin:Bool) {Q:Bool->Shared->Prop}:∀ (xs ys:List D) (vs1 vs2:List V) (us1 us2:List Value) (i:Nat) (r:Bool),Zck (ltN 5) xs ys=some r ->
  DenL X.K N H xs vs1->DenL X.K N H ys vs2->Vals vs1 us1->Vals vs2 us2->fin=decide (xs.length<ys.length) ->
  (b=false\/i≠0\/((∀ x,xs.head?=some x->∃ n,x=.int n)/\∀ y,ys.head?=some y->∃ n,y=.int n))->Q r s->KatLex prog w A b fin Q (us1.zip us2) i s:=by
 intro xs
 induction xs with
 | nil =>
  intro ys vs1 vs2 us1 us2 i r h d1 d2 r1 r2 hf hb q
  simp only [DenL] at d1;subst d1;cases r1
  rw [List.zip_nil_left]
  refine kat_nil ?_
  cases ys with
  | nil=>simp only [Zck] at h;cases h;rw [hf];exact q
  | cons y ys=>simp only [Zck] at h;cases h;rw [hf];simpa using q
 | cons x xs ih =>
  intro ys vs1 vs2 us1 us2 i r h d1 d2 r1 r2 hf hb q
  simp only [DenL] at d1;obtain ⟨w1,t1,e1,dw1,dt1⟩:=d1;subst e1
  cases r1 with
  | cons rw1 rt1 =>
   cases ys with
   | nil =>
    simp only [DenL] at d2;subst d2;cases r2
    rw [List.zip_nil_right]
    simp only [Zck] at h;cases h
    refine kat_nil ?_
    rw [hf];simpa using q
   | cons y ys =>
    simp only [DenL] at d2;obtain ⟨w2,t2,e2,dw2,dt2⟩:=d2;subst e2
    cases r2 with
    | cons rw2 rt2 =>
     rw [Qca]
     simp only [Zck] at h
     split at h
     ·next ho =>
      rw [QaW] at ho
      have he:=(Zd2 I ZaH A x y _ _ _ _ (by unfold ZaH;omega) ho.1 ho.2 dw1.p dw2.p rw1 rw2).2.1
      refine kat_cons ?_
      split at h
      ·next e =>
       rw [e] at he
       refine he prog w _ _ ?_
       show KatGo prog w A b fin Q _ _ _ i true s
       unfold KatGo
       rw [if_pos rfl]
       exact ih ys _ _ _ _ (i+1) r h dt1 dt2 rt1 rt2 (by rw [hf];simp) (.inr (.inl (by omega))) q
      ·next e =>
       rw [Qcr] at e
       rw [e] at he
       refine he prog w _ _ ?_
       refine kat_no ?_
       by_cases hm:(b&&i==0)=true
       ·rw [hm]
        have hm':b=true/\i=0:=by simpa using hm
        rcases hb with z | z | ⟨z1,z2⟩
        ·rw [hm'.1] at z;cases z
        ·exact absurd hm'.2 z
        ·obtain ⟨n1,rfl⟩:=z1 x rfl
         obtain ⟨n2,rfl⟩:=z2 y rfl
         have g1:=dw1.p.int
         have g2:=dw2.p.int
         subst g1 g2
         obtain ⟨k1,rfl⟩:=rw1
         obtain ⟨k2,rfl⟩:=rw2
         simp only [ltN] at h
         cases h
         exact oneLt_int q
       ·rw [Qcr] at hm
        rw [hm]
        refine kat_one _ _ ?_
        exact ZkV I 5 A x y _ _ _ _ r (by unfold ZaH;omega) h dw1.p dw2.p rw1 rw2 prog w _ (PySem.W.BoolBack Q) q
     ·cases h
theorem ZsD (I:Inv X pins σ H s) (n:Nat) (A:Around) (hu:A.units+n+1+ZaH<cLine) {b:Bool}:∀ (xs ys:List D) (vs1 vs2:List V) (us1 us2:List Value),Zck (ltN n) xs ys=some b->DenL X.K N H xs vs1->DenL X.K N H ys vs2->Vals vs1 us1->Vals vs2 us2->ZcA A.in1 s us1 us2 b:=by
 intro xs
 induction xs with
 | nil =>
  intro ys vs1 vs2 us1 us2 h d1 d2 r1 r2
  simp only [DenL] at d1;subst d1;cases r1
  cases ys with
  | nil=>simp only [DenL] at d2;subst d2;cases r2;cases h;exact .nn
  | cons y ys=>simp only [DenL] at d2;obtain ⟨w,t,e,_,_⟩:=d2;subst e;cases r2;cases h;exact .nc
 | cons x xs ihx =>
  intro ys vs1 vs2 us1 us2 h d1 d2 r1 r2
  simp only [DenL] at d1;obtain ⟨w1,t1,e1,dw1,dt1⟩:=d1;subst e1
  cases r1 with
  | cons rw1 rt1 =>
   cases ys with
   | nil=>simp only [DenL] at d2;subst d2;cases r2;cases h;exact .cn
   | cons y ys =>
    simp only [DenL] at d2;obtain ⟨w2,t2,e2,dw2,dt2⟩:=d2;subst e2
    cases r2 with
    | cons rw2 rt2 =>
     simp only [Zck] at h
     split at h
     ·next ho =>
      rw [QaW] at ho
      have he:=(Zd2 I ZaH A.in1 x y _ _ _ _ (by rw [ZcE];omega) ho.1 ho.2 dw1.p dw2.p rw1 rw2).2.1
      split at h
      ·next e=>rw [e] at he;exact .eq he (ihx ys _ _ _ _ h dt1 dt2 rt1 rt2)
      ·next e =>
       rw [Qcr] at e
       rw [e] at he
       exact .ne he fun prog wo E Q q=>ZkV I n A.in1 x y _ _ _ _ b (by rw [ZcE];omega) h dw1.p dw2.p rw1 rw2 prog wo E Q q
     ·cases h
def KMode (b:Option Bool) (k:D):Prop:=match b with
 | some true=>∃ i r,k=.tup (.int i::r)
 | some false=>∃ f r,k=.tup (.tup f::r)
 | none=>∃ r,k=.lst r
abbrev kmK:Option Bool->SortKind
 | some b=>tuples' b
 | none=>oneType'
theorem KMode.tup {b:Bool} {k:D} (h:KMode (some b) k):∃ f r,k=.tup (f::r):=by
 cases b with
 | true=>obtain ⟨i,r,e⟩:=h;exact ⟨_,_,e⟩
 | false=>obtain ⟨i,r,e⟩:=h;exact ⟨_,_,e⟩
theorem Zq3 (I:Inv X pins σ H s) {prog:Qav} {w:World} (A:Around) (hu:A.units+40<cLine) (b r:Bool) {k1 k2:D} {v1 v2:V} {u1 u2:Value} {Q:Bool->Shared->Prop} {E:Value->Shared->Prop} (h:ltN 6 k1 k2=some r) (m1:KMode (some b) k1) (m2:KMode (some b) k2)
  (d1:Den X.K N H k1 v1) (d2:Den X.K N H k2 v2) (r1:RelV v1 u1) (r2:RelV v2 u2) (q:Q r s):wpAny (model prog w) A (keyLt' (tuples' b) u1 u2) Q E s:=by
 obtain ⟨f1,g1,e1⟩:=m1.tup
 obtain ⟨f2,g2,e2⟩:=m2.tup
 subst e1 e2
 simp only [Den] at d1 d2
 obtain ⟨a1,vs1,e1,q1,dl1⟩:=d1
 obtain ⟨a2,vs2,e2,q2,dl2⟩:=d2
 subst e1 e2
 cases r1
 cases r2
 obtain ⟨its1,rv1,p1,_⟩:=I.tuple q1
 obtain ⟨its2,rv2,p2,_⟩:=I.tuple q2
 obtain ⟨o1,ho1,_,n1,hd1⟩:=p1
 obtain ⟨o2,ho2,_,n2,hd2⟩:=p2
 refine kat_lt ho1 hd1 ho2 hd2 ?_
 have l1:=dl1.length
 have l2:=dl2.length
 have l3:=rv1.length
 have l4:=rv2.length
 have:=Zuk I (prog:=prog) (w:=w) (N:=N) A hu b (decide (its1.toArray.size<its2.toArray.size)) (Q:=Q) (f1::g1) (f2::g2) vs1 vs2 its1 its2 0 r h dl1 dl2 rv1 rv2 (by rw [Qal,Qal,<- l3,<- l4,<- l1,<- l2]) (by
  cases b with
  | false=>exact .inl rfl
  | true =>
   obtain ⟨i1,_,e1⟩:=m1
   obtain ⟨i2,_,e2⟩:=m2
   cases e1
   cases e2
   exact .inr (.inr ⟨fun x hx=>by cases hx;exact ⟨_,rfl⟩,fun x hx=>by cases hx;exact ⟨_,rfl⟩⟩)) q
 simpa using this
theorem ZsX (I:Inv X pins σ H s) {prog:Qav} {w:World} (A:Around) (hu:A.units+40<cLine) (b:Option Bool) (r:Bool) {k1 k2:D} {v1 v2:V} {u1 u2:Value} {Q:Bool->Shared->Prop} {E:Value->Shared->Prop} (h:ltN 6 k1 k2=some r) (m1:KMode b k1) (m2:KMode b k2)
  (d1:Den X.K N H k1 v1) (d2:Den X.K N H k2 v2) (r1:RelV v1 u1) (r2:RelV v2 u2) (q:Q r s):wpAny (model prog w) A (keyLt' (kmK b) u1 u2) Q E s:=by
 cases b with
 | some b=>exact Zq3 I A hu b r h m1 m2 d1 d2 r1 r2 q
 | none =>
  obtain ⟨g1,e1⟩:=m1
  obtain ⟨g2,e2⟩:=m2
  subst e1 e2
  obtain ⟨a1,vs1,e1,q1,dl1⟩:=d1.p
  obtain ⟨a2,vs2,e2,q2,dl2⟩:=d2.p
  subst e1 e2
  cases r1
  cases r2
  obtain ⟨its1,rv1,⟨⟨cls,dd,data,sl⟩,n1,ho1,hc1,hdd1,hd1⟩,_⟩:=I.list q1
  obtain ⟨its2,rv2,⟨⟨cls2,dd2,data2,sl2⟩,n2,ho2,hc2,hdd2,hd2⟩,_⟩:=I.list q2
  simp only at hc1 hd1 hc2 hd2
  subst hc1 hd1 hc2 hd2
  show wpAny (model prog w) A (oneLt' true _ _) Q E s
  exact ZoF ho1 ho2 (by simpa using ZsD I 5 A (by unfold ZaH;omega) g1 g2 _ _ _ _ h dl1 dl2 rv1 rv2) (by omega) q
theorem ZoS (I:Inv X pins σ H s) {M:Model} (b:Bool):∀ (ks:List D) (kvs:List V) (us:List Value),DenL X.K N H ks kvs->Vals kvs us->(∀ k∈ks,KMode (some b) k) ->
  ∃ fs,KatTups s.heap us fs/\fs.length=us.length/\∀ v∈fs,Looks M s.heap (typeOf v) (.type (if b then "int" else "tuple")):=by
 intro ks
 induction ks with
 | nil =>
  intro kvs us d r _
  simp only [DenL] at d;subst d;cases r
  exact ⟨[],KatTups.nil,rfl,fun _ h=>nomatch h⟩
 | cons k ks ih =>
  intro kvs us d r hm
  simp only [DenL] at d;obtain ⟨v,t,e,dv,dt⟩:=d;subst e
  cases r with
  | cons rv rt =>
   obtain ⟨fs,h1,h2,h3⟩:=ih t _ dt rt fun k hk=>hm k (Qag _ hk)
   have m:=hm k Qam
   obtain ⟨f,g,e⟩:=m.tup
   subst e
   simp only [Den] at dv
   obtain ⟨a,vs,e,q,dl⟩:=dv
   subst e
   cases rv
   obtain ⟨its,rv1,⟨o,ho,hc,n,hd⟩,_⟩:=I.tuple q
   obtain ⟨w,vs',e,dw,_⟩:=dl
   subst e
   cases rv1 with
   | cons rw1 rt1 =>
    rename_i u us'
    refine ⟨u::fs,KatTups.cons ho hc hd (by simp) h1,by simp [h2],fun v hv=>?_⟩
    rcases Qbk.mp hv with e | hv
    ·subst e
     intro A Q E s' hk hq
     cases b with
     | true =>
      obtain ⟨i,_,e⟩:=m
      cases e
      have g:=dw.p.int
      subst g
      obtain ⟨t,rfl⟩:=rw1
      exact Qcp (T:="int") rfl hq
     | false =>
      obtain ⟨i,_,e⟩:=m
      cases e
      simp only [Den] at dw
      obtain ⟨a2,vs2,e,q2,_⟩:=dw
      subst e
      cases rw1
      obtain ⟨_,_,⟨o2,ho2,hc2,_⟩,_⟩:=I.tuple q2
      exact Qcp (T:="tuple") ⟨o2,hk _ _ ho2,hc2⟩ hq
    ·exact h3 v hv
theorem ZoR (I:Inv X pins σ H s) {M:Model}:∀ (ks:List D) (kvs:List V) (us:List Value),DenL X.K N H ks kvs->Vals kvs us->(∀ k∈ks,KMode none k)->∀ u∈us,Looks M s.heap (typeOf u) (.type "list"):=by
 intro ks
 induction ks with
 | nil =>
  intro kvs us d r _
  simp only [DenL] at d;subst d;cases r
  exact fun _ h=>nomatch h
 | cons k ks ih =>
  intro kvs us d r hm
  simp only [DenL] at d;obtain ⟨v,t,e,dv,dt⟩:=d;subst e
  cases r with
  | cons rv rt =>
   intro u hu
   rcases Qbk.mp hu with e | hu
   ·subst e
    obtain ⟨g,e⟩:=hm k Qam
    subst e
    obtain ⟨a,vs,e,q,_⟩:=dv.p
    subst e
    cases rv
    obtain ⟨_,_,⟨o,n,ho,hc,_⟩,_⟩:=I.list q
    intro A Q E s' hk hq
    exact Qcp (T:="list") ⟨o,hk _ _ ho,hc⟩ hq
   ·exact ih t _ dt rt (fun k hk=>hm k (Qag _ hk)) u hu
theorem Zpg (I:Inv X pins σ H s) {M:Model} {A:Around} {E:Value->Shared->Prop} (b:Option Bool) (ks:List D) (kvs:List V) (us:List Value) (d:DenL X.K N H ks kvs) (r:Vals kvs us) (hm:∀ k∈ks,KMode b k) (h2:2<=us.length) {Q:SortKind->Shared->Prop} (q:Q (kmK b) s):wpAny M A (keyKind' us.toArray) Q E s:=by
 cases b with
 | some b =>
  obtain ⟨fs,k1,k2,k3⟩:=ZoS I (M:=M) b ks kvs us d r hm
  refine kat_kind k1 (by omega) k3 (by cases b<;>rfl) ?_
  have em:(Value.type (if b=true then "int" else "tuple") != Value.type "tuple")=b:=by cases b<;>rfl
  rw [em]
  exact q
 | none=>exact kas_kind h2 (ZoR I ks kvs us d r hm) rfl rfl q
structure Off (X:Cx) (pins:List (Addr×Obj)) (a:Addr):Prop where
 nL:a≠X.env.locals
 s0:X.s₀.heap.objs.size<=a
 cl:∀ x c,X.env.cells.lookup x=some c->c≠a
 pn:∀ p∈X.pn++pins,p.1≠a
 nf:a∉X.fs
theorem Inv.off (I:Inv X pins σ H s) {a:Addr} (h:s.heap.objs.size<=a):Off X pins a where
 nL:=fun e=>by have h2:=I.lt;rw [<- e] at h2;exact absurd (Qay h2 h) (Qbu _)
 s0:=QaP I.sz h
 cl:=fun x c e z=>by
  obtain ⟨v,o,ho,_⟩:=I.cell x c e
  have h2:=Qaq ho
  rw [z] at h2
  exact absurd (Qay h2 h) (Qbu _)
 pn:=fun p hp z=>by
  have h2:=Qaq (I.pin p hp).1
  rw [z] at h2
  exact absurd (Qay h2 h) (Qbu _)
 nf:=I.nofs h
theorem Inv.pin1 {a:Addr} {o:Obj} (I:Inv X pins σ H s) (hH:H a=none) (f:Off X pins a) (e:s.heap.get? a=some o) (hc:∀ v,o.data≠.cell v):Inv X (pins++[(a,o)]) σ H s :=
 I.pins_of fun p hp=>by
  rcases List.mem_append.mp hp with hp | hp
  ·exact I.pin p (Qax _ hp)
  ·simp only [List.mem_singleton] at hp;subst hp;exact ⟨e,hH,f.nL,f.nf,hc⟩
theorem Inv.catch {a:Addr} {its:List Value} {n:Nat} {vs:List V} (I:Inv X pins σ H s) (hH:H a=none) (f:Off X pins a) (e:s.heap.get? a=some { cls:=.type "list",data:=.seq its.toArray n }) (hv:Vals vs its) (hz:vs.length<=Qaj):Inv X pins σ (upd H a (.lst vs)) s:=by
 have ne:∀ b u,H b=some u->b≠a:=fun b u q z=>by rw [z,hH] at q;cases q
 have:=I.step (h':=s.heap) (g':=s.gens) (d':=s.drawn) (t':=s.toks) (ch:=[a]) (H':=upd H a (.lst vs)) (fun b hb=>by
   have e:b=a:=by simpa using hb
   subst e
   exact ⟨.inr f.s0,f.nL,f.cl,f.pn⟩) (fun b o _ _ _ q _=>q) (fun b o _ _ _ q _=>⟨o.slots,q⟩) (fun b o hb _ n=>by rw [Zt (fun z=>hb (by simp [z]))];exact n) (fun b o _ q=>⟨o,q⟩)
  (fun b xs q=>by rw [Zt (ne _ _ q)];exact q) (fun b o u q=>by rw [Zt (ne _ _ q)];exact q) (fun b ps q=>⟨#[],by rw [Zt (ne _ _ q),q];simp⟩) (fun m hm=>hm) (fun b u q=>by
   by_cases hb:b=a
   ·subst hb
    rw [Zad] at q
    cases q
    exact ⟨hz,its,n,hv,e⟩
   ·rw [Zt hb] at q
    exact (I.hok b u q).stay (fun c v _ r=>r) (fun c r=>by rw [Zt (ne _ _ r)];exact r) fun c xs r=>by rw [Zt (ne _ _ r)];exact r) I.bare
 exact this
end
end L2
namespace L2
open PySem PySem.Spec PyProof.Rows PySem.W
def Za9 (F:List Sl->Option Rv) (x:D):D:=((F [.val x]).map rvD).getD .non
def ltF (F:List Sl->Option Rv) (x y:D):Bool:=match ltN 6 (Za9 F x) (Za9 F y) with
 | some true=>true
 | _=>false
theorem Zhp {F:List Sl->Option Rv} {x y:D} {r:Bool} (h:ltN 6 (Za9 F x) (Za9 F y)=some r):ltF F x y=r:=by
 unfold ltF;rw [h];cases r<;>rfl
structure SortOk (F:List Sl->Option Rv) (xs:List D):Prop where
 few:xs.length<64
 tells:∀ x∈xs,∃ r,F [.val x]=some r
 mode:∃ b,∀ x∈xs,KMode b (Za9 F x)
 cmp:∀ x∈xs,∀ y∈xs,∃ r,ltN 6 (Za9 F x) (Za9 F y)=some r
 asym:∀ x∈xs,∀ y∈xs,ltF F x y=true->ltF F y x=false
 neg:∀ x∈xs,∀ y∈xs,∀ z∈xs,ltF F x z=true->ltF F x y=true\/ltF F y z=true
 anti:∀ x∈xs,∀ y∈xs,ltF F x y=false->ltF F y x=false->x=y
def Zfv (lt:D->D->Bool) (x:D):List D->List D
 | []=>[x]
 | y::r=>if lt x y then x::y::r else y::Zfv lt x r
def ZcT (lt:D->D->Bool):List D->List D
 | []=>[]
 | x::r=>Zfv lt x (ZcT lt r)
theorem Zgm (lt:D->D->Bool) (x:D):∀ l,(Zfv lt x l).Perm (x::l)
 | []=>.refl _
 | y::r=>by
  unfold Zfv
  split
  ·exact .refl _
  ·exact ((Zgm lt x r).cons y).trans (.swap x y r)
theorem Zep (lt:D->D->Bool):∀ l,(ZcT lt l).Perm l
 | []=>.refl _
 | x::r=>(Zgm lt x _).trans ((Zep lt r).cons x)
theorem ZiM {F:List Sl->Option Rv} {xs:List D} (h:SortOk F xs) {x:D} (hx:x∈xs):∀ l:List D,(∀ y∈l,y∈xs)->l.Pairwise (fun a b=>ltF F b a=false)->(Zfv (ltF F) x l).Pairwise fun a b=>ltF F b a=false
 | [],_,_=>by simp [Zfv]
 | y::r,hm,hp=>by
  obtain ⟨h1,h2⟩:=List.pairwise_cons.mp hp
  have hy:=hm y Qam
  unfold Zfv
  split
  ·next hl =>
   refine List.pairwise_cons.mpr ⟨fun z hz=>?_,hp⟩
   rcases Qbk.mp hz with e | hz
   ·subst e;exact h.asym x hx z hy hl
   ·cases hc:ltF F z x with
    | false=>rfl
    | true =>
     rcases h.neg z (hm z (Qag _ hz)) y hy x hx hc with q | q
     ·rw [h1 z hz] at q;cases q
     ·rw [h.asym x hx y hy hl] at q;cases q
  ·next hl =>
   rw [Qcr] at hl
   refine List.pairwise_cons.mpr ⟨fun z hz=>?_,ZiM h hx r (fun z hz=>hm z (Qag _ hz)) h2⟩
   rcases Qbk.mp ((Zgm (ltF F) x r).subset hz) with e | hz
   ·subst e;exact hl
   ·exact h1 z hz
theorem ZiV {F:List Sl->Option Rv} {xs:List D} (h:SortOk F xs):∀ l:List D,(∀ y∈l,y∈xs)->(ZcT (ltF F) l).Pairwise fun a b=>ltF F b a=false
 | [],_=>.nil
 | x::r,hm=>ZiM h (hm x Qam) _ (fun y hy=>hm y (Qag _ ((Zep _ r).subset hy))) (ZiV h r fun y hy=>hm y (Qag _ hy))
noncomputable def Zek (F:List Sl->Option Rv) (xs:List D):Option (List D):=gd (SortOk F xs) (some (ZcT (ltF F) xs))
theorem SortOk.same {F:List Sl->Option Rv} {xs ys:List D} (h:SortOk F xs) (hp:ys.Perm xs) (hs:ys.Pairwise fun a b=>ltF F b a=false):ys=ZcT (ltF F) xs :=
 Qc8 (le:=fun a b=>ltF F b a=false) (fun a b ha hb h1 h2=>h.anti a (hp.subset ha) b ((Zep _ xs).subset hb) h2 h1) hs (ZiV h xs fun _ hy=>hy) (hp.trans (Zep _ xs).symm)
theorem Zla {F:List Sl->Option Rv} {xs:List D} (h:SortOk F xs):Zek F xs=some (ZcT (ltF F) xs):=ZgF h
theorem Zk5 {F:List Sl->Option Rv} {xs ys:List D} (h:Zek F xs=some ys):SortOk F xs/\ys=ZcT (ltF F) xs:=by
 unfold Zek gd at h
 split at h
 ·next hh=>cases h;exact ⟨hh,rfl⟩
 ·cases h
section
variable {X:Cx} {pins:List (Addr×Obj)} {σ:St} {H:Hp} {s:Shared} {N:Fb}
theorem ZkO {K:Qab} {ds:List D} {vs:List V} (h:DenL K N H ds vs):∀ (js:List Nat),(∀ j∈js,j<ds.length)->DenL K N H (js.map fun j=>ds.getD j .non) (js.map fun j=>vs.getD j .non)
 | [],_=>DenL.nil
 | j::js,hj=>by
  have hl:=hj j Qam
  obtain ⟨v,e,d⟩:=h.get (QaF hl)
  refine DenL.cons ?_ (ZkO h js fun k hk=>hj k (Qag _ hk))
  have e1:ds.getD j .non=ds[j]:=by simp [Qbh,hl]
  have e2:vs.getD j .non=v:=by simp [Qbh,e]
  show Den K N H (ds.getD j .non) (vs.getD j .non)
  rw [e1,e2];exact d
theorem Zef {vs:List V} {us:List Value} (h:Vals vs us):∀ (js:List Nat),Vals (js.map fun j=>vs.getD j .non) (js.map fun j=>us.getD j .none)
 | []=>.nil
 | j::js=>by
  refine .cons ?_ (Zef h js)
  induction h generalizing j with
  | nil=>simp;rfl
  | cons a _ ih =>
   cases j with
   | zero=>simpa using a
   | succ j=>simpa using ih j
theorem Zqf (I:Inv X pins σ H s) {prog:Qav} {w:World} (A:Around) (hu:A.units+40<cLine) {E:Value->Shared->Prop} {F:List Sl->Option Rv} {ds:List D} (h:SortOk F ds) {kvs:List V} {us items:List Value}
  (d:DenL X.K N H (ds.map (Za9 F)) kvs) (r:Vals kvs us) (hi:items.length=ds.length) {a:Addr} {e1:Nat} {kS:Value} {P:PySem.Fin->Shared->Prop}
  (q:∀ (p:List Nat) (st:SortSt),p.Perm (Qaw ds.length)->(p.map fun j=>ds.getD j .non)=ZcT (ltF F) ds->Array.map (fun x=>x.2) (arrOf st)=(p.map fun j=>items.getD j .none).toArray->failedOf st=none->wpAny (model prog w) A (ksk_tail a false e1 kS st) P E s) :
  wpAny (model prog w) A (ksk_end a false items.toArray e1 kS us.toArray) P E s:=by
 unfold ksk_end
 simp only [QaS,if_false]
 have l1:=d.length
 have l2:=r.length
 rw [Qaz] at l1
 by_cases h2:items.toArray.size<2
 ·rw [if_pos h2]
  simp only [h2,if_true]
  have hz:us.length=items.length:=by omega
  rw [Qal] at h2
  refine Qaa (Qae ?_)
  refine Qaa ?_
  show wpAny _ _ (pure ((),SortSt.mk' general' (us.toArray.zip items.toArray) #[] 7 none)) _ _ _
  refine Qae ?_
  refine q (Qaw ds.length) (SortSt.mk' general' (us.toArray.zip items.toArray) #[] 7 none) (.refl _) ?_ ?_ rfl
  ·have e:(Qaw ds.length).map (fun j=>ds.getD j .non)=ds:=by
    apply QbY
    intro i
    by_cases hi:i<ds.length
    ·simp [hi]
    ·simp [hi]
   rw [e]
   refine h.same (.refl _) ?_
   match ds,hi with
   | [],_=>exact .nil
   | [a],_=>exact List.pairwise_singleton _ _
   | a::b::c,hi=>simp at hi;omega
  ·show Array.map (fun x=>x.2) (us.toArray.zip items.toArray)=_
   have e:(Qaw ds.length).map (fun j=>items.getD j .none)=items:=by
    rw [<- hi]
    apply QbY
    intro i
    by_cases hi:i<items.length
    ·simp [hi]
    ·simp [hi]
   rw [e]
   rw [List.zip_toArray,List.map_toArray]
   congr 1
   exact List.map_snd_zip (by omega)
 ·rw [if_neg h2]
  simp only [h2,if_false]
  rw [Qal] at h2
  obtain ⟨b,hb⟩:=h.mode
  refine Qaa (Zpg I b (ds.map (Za9 F)) kvs us d r (fun k hk=>by
   obtain ⟨x,hx,rfl⟩:=List.mem_map.mp hk
   exact hb x hx) (by omega) ?_)
  have hz:us.length=items.length:=by omega
  have hsz:(us.toArray.zip items.toArray).size=ds.length:=by simp;omega
  have hr:=kas_range (us.toArray.zip items.toArray)
  rw [hsz] at hr
  have hst:SortSt.mk' (kmK b) (us.toArray.zip items.toArray) #[] 7 none=kas_st (kmK b) (us.toArray.zip items.toArray) (Qaw ds.length).toArray:=by
   unfold kas_st;rw [hr]
  refine Qaa ?_
  rw [hst]
  have W:WO (fun i j=>ltF F (ds.getD i .non) (ds.getD j .non)) ds.length:=by
   have mem:∀ i,i<ds.length->ds.getD i .non∈ds:=fun i hi=>by
    have e1:ds.getD i .non=ds[i]:=by simp [Qbh,hi]
    rw [e1];exact Qbd hi
   exact ⟨fun a b ha hb hl=>h.asym _ (mem a ha) _ (mem b hb) hl,fun a b c ha hb hc hl=>h.neg _ (mem a ha) _ (mem b hb) _ (mem c hc) hl⟩
  have hc:∀ i j (C:Bool->Shared->Prop),i<ds.length->j<ds.length->C (ltF F (ds.getD i .non) (ds.getD j .non)) s->kas_cmp prog w A (kmK b) (us.toArray.zip items.toArray) i j C s:=fun i j C hi' hj' hq=>by
   unfold kas_cmp
   rw [kat_item hz,kat_item hz]
   have mem:∀ i,i<ds.length->ds.getD i .non∈ds:=fun i hi=>by
    have e1:ds.getD i .non=ds[i]:=by simp [Qbh,hi]
    rw [e1];exact Qbd hi
   obtain ⟨rr,hrr⟩:=h.cmp _ (mem i hi') _ (mem j hj')
   rw [Zhp hrr] at hq
   have den:∀ i,i<ds.length->∃ v,Den X.K N H (Za9 F (ds.getD i .non)) v/\RelV v (us.getD i .none):=fun i hi=>by
    have e1:ds.getD i .non=ds[i]:=by simp [Qbh,hi]
    obtain ⟨v,ev,dv⟩:=d.get (i:=i) (d:=Za9 F ds[i]) (by simp [hi])
    refine ⟨v,by rw [e1];exact dv,?_⟩
    have:=Zef r [i]
    cases this with
    | cons a _ =>
     have e2:kvs.getD i .non=v:=by simp [Qbh,ev]
     rw [<- e2]
     exact a
   obtain ⟨v1,dv1,rv1⟩:=den i hi'
   obtain ⟨v2,dv2,rv2⟩:=den j hj'
   exact ZsX I A hu b rr hrr (hb _ (mem i hi')) (hb _ (mem j hj')) dv1 dv2 rv1 rv2 hq
  refine kas_runs (Q:=fun _ st s'=>wpAny (model prog w) A (ksk_tail a false e1 kS st) P E s') (G:=fun p s'=>s'=s/\Bs ds.length p/\ZeE (fun i j=>ltF F (ds.getD i .non) (ds.getD j .non)) p ds.length) (by omega) h.few (fun p st s' hp ha hf hg=>?_) (Zrr W hc (by omega) fun p a b=>⟨rfl,a,b⟩)
  obtain ⟨rfl,hB,hS⟩:=hg
  have hperm:p.toList.Perm (Qaw ds.length):=by
   have:=hB.toList
   simpa using this
  refine q p.toList st hperm ?_ (kat_snds hz ha) hf
  refine h.same ?_ ?_
  ·have e:(Qaw ds.length).map (fun j=>ds.getD j .non)=ds:=by
    apply QbY
    intro i
    by_cases hi:i<ds.length
    ·simp [hi]
    ·simp [hi]
   have:=hperm.map fun j=>ds.getD j .non
   rw [e] at this
   exact this
  ·rw [List.pairwise_map]
   rw [List.pairwise_iff_getElem]
   intro i j hi hj hij
   have hsz':=hB.size
   have:=hS i j (by omega) (by simp at hj;omega)
   unfold le' pvA at this
   simp at hi hj
   simpa [Array.getD,hi,hj] using this
end
end L2
namespace L2
open PySem PySem.Spec PyProof.Rows PySem.W
section
variable {X:Cx} {pins:List (Addr×Obj)} {σ:St} {H:Hp} {s:Shared} {N:Fb}
abbrev lob (its:List Value) (n:Nat):Obj:={ cls:=.type "list",data:=.seq its.toArray n }
theorem Inv.rawset {a:Addr} {its its':List Value} {n:Nat} {f:Array Value->Array Value} (I:Inv X pins σ H s) (hH:H a=none) (o:Off X pins a) (e:s.heap.get? a=some (lob its n)) (hf:f its.toArray=its'.toArray) :
  ∃ n',(s.heap.update a (Qck f)).get? a=some (lob its' n')/\Inv X pins σ H { s with heap:=s.heap.update a (Qck f) }:=by
 have q:=PySem.IsL.update e f
 rw [hf] at q
 exact ⟨_,q,I.turned (t':=s.toks) (fun b u hb hu=>(QbL s.heap (Qck f) (QaD hb)).trans hu) hH o.nL (.inr o.s0) o.cl o.pn⟩
theorem Zhw (its:List Value) (n:Nat) (v:Option Value):(lob its n).data≠.cell v:=nofun
theorem Off.more {a b:Addr} {o:Obj} (f:Off X pins a) (h:b≠a):Off X (pins++[(b,o)]) a :=
 ⟨f.nL,f.s0,f.cl,fun p hp=>by
  rw [<- QbE] at hp
  rcases List.mem_append.mp hp with hp | hp
  ·exact f.pn p hp
  ·simp only [List.mem_singleton] at hp;subst hp;exact h,f.nf⟩
theorem Inv.pinGet {a:Addr} {o:Obj} (I:Inv X pins σ H s) (h:(a,o)∈pins):s.heap.get? a=some o/\H a=none:=⟨(I.pin _ (Qax _ h)).1,(I.pin _ (Qax _ h)).2.1⟩
theorem Zo6 {prog:Qav} {w:World} (A:Around) {D kS:Addr} {e1 e2:Nat} {us out:List Value} {vs:List V} {E:Value->Shared->Prop} {P:PySem.Fin->Shared->Prop} {st:SortSt} (I:Inv X (pins++[(D,lob [] e1)]++[(kS,lob us e2)]) σ H s)
  (fD:Off X pins D) (fK:Off X pins kS) (ne:D≠kS) (hus:us.length<=Qaj) (hst:Array.map (fun x=>x.2) (arrOf st)=out.toArray) (hf:failedOf st=none) (hv:Vals vs out) (hz:vs.length<=Qaj)
  (q:∀ s',Inv X pins σ (upd H D (.lst vs)) s'->P (.done (.ret .none)) s'):wpAny (model prog w) A (ksk_tail D false e1 (.ref kS) st) P E s:=by
 obtain ⟨gk,hk⟩:=I.pinGet (a:=kS) (Qax _ Qam)
 obtain ⟨gd',hd⟩:=I.pinGet (a:=D) (QbR _ (Qax _ Qam))
 have I1:Inv X (pins++[(D,lob [] e1)]) σ H s:=I.unpinned
 obtain ⟨n2,g2,I2⟩:=I1.rawset (f:=fun _=>#[]) (its':=[]) hk (fK.more ne) gk rfl
 unfold ksk_tail
 refine Qaa (listUpdate_at gk rfl ?_ (by simpa using hus) (by simp))
 refine Qaa (Qb7 ?_)
 obtain ⟨gd2,_⟩:=I2.pinGet (a:=D) (Qax _ Qam)
 refine Qaa (seqEpoch_at gd2 rfl ?_)
 have I3:Inv X pins σ H _:=I2.unpinned
 have hol:out.length<=Qaj:=by rw [<- hv.length];exact hz
 obtain ⟨n3,g3,I4⟩:=I3.rawset (f:=fun _=>out.toArray) (its':=out) hd fD gd2 rfl
 simp only [QaS,if_false,hst]
 refine Qaa (listUpdate_at gd2 rfl ?_ (by simp) (by simp;omega))
 have hb:(e1 != e1)=false:=by simp
 rw [hf]
 simp only [hb,QaS,if_false]
 exact Qae (q _ (I4.catch hd fD g3 hv hz))
variable {k:Nat} {fn:Addr} {fd:QaH} {ps:List Str} {F:List Sl->Option Rv}
theorem Zq7 (Fo:FnOk X.prog X.w X.K X.mg X.base CX0 k fn fd ps (spD X.K F)) (hb:Binds X.K fd ps []) (I:Inv X pins σ H s) (A:Around) (hr:Room k A) (e0:Env0 X.prog X.w X.K X.mg X.base A X.stack s H) (nh:∀ a,N a->H a≠none) {x:D} {v:V} {u:Value} (d:Den X.K N H x v) (rv:RelV v u) {r:Rv} (hF:F [.val x]=some r)
  {E:Value->Shared->Prop} {Q:Value->Shared->Prop} (q:∀ u' s' v' H',Inv X pins σ H' s'->Same H H'->Den X.K N H' (Za9 F x) v'->RelV v' u'->Q u' s'):wpAny (model X.prog X.w) A (call (.ref fn) [u]) Q E s:=by
 have hsp:spD X.K F [v] H (fun v' H'=>Same H H'/\Den X.K N H' (Za9 F x) v') E0:=by
  refine ⟨N,[.val x],r,nh,?_,hF,fun v' H' hs ho=>⟨hs,?_⟩⟩
  ·exact ⟨v,[],rfl,d,rfl⟩
  ·have e:Za9 F x=rvD r:=by unfold Za9;rw [hF];rfl
   rw [e]
   cases r with
   | val y=>exact ho
   | own ys fl =>
    obtain ⟨a,ws,e1,z1,z2,z3⟩:=ho
    simp only [rvD,Den]
    exact ⟨a,ws,e1,.of (fun z=>nh a z z1) z2,z3.nw fun b hb=>.inl (.inl hb)⟩
 have hl:([u]:List Value).length=ps.length:=by
  have:=Fo.len _ _ _ _ hsp
  simpa using this
 refine wpAny_call (codeAny_mono (Fo.run A X.stack s H ⟨[u],[]⟩ [u] [v] _ E0 hr e0 (by simpa using hb s [u] I.kIn (by simpa using hl)) (.cons rv .nil) hsp) fun r s' hq=>?_)
 cases r with
 | error e=>exact QaJ hq
 | ok fl =>
  cases fl with
  | ret u' =>
   obtain ⟨v',H',I',rv',hs,hd⟩:=I.after hq
   exact q u' s' v' H' I' hs hd rv'
  | next=>exact QaJ hq
  | brk=>exact QaJ hq
  | cont=>exact QaJ hq
theorem Same.none {H H':Hp} (h:Same H H') {a:Addr} (e:H' a=none):H a=none:=by
 cases q:H a with
 | none=>rfl
 | some o=>rw [h a o q] at e;cases e
theorem ZpF (Fo:FnOk X.prog X.w X.K X.mg X.base CX0 k fn fd ps (spD X.K F)) (hb:Binds X.K fd ps []) (A:Around) (hr:Room k A) (hu:A.units+40<cLine) (hA:∀ s H,Env0 X.prog X.w X.K X.mg X.base X.A X.stack s H->Env0 X.prog X.w X.K X.mg X.base A X.stack s H)
  {da kS:Addr} {e1 e0:Nat} (I:Inv X (pins++[(da,lob [] e1)]++[(kS,lob [] e0)]) σ H s) (nh:∀ a,N a->H a≠none) {items:List Value} {xs:List V} {ds:List D} (fD:Off X pins da) (fK:Off X pins kS) (ne:da≠kS) (rv:Vals xs items) (dn:DenL X.K N H ds xs) (ok:SortOk F ds)
  {E:Value->Shared->Prop} {P:PySem.Fin->Shared->Prop} (q:∀ s' H' vs,Inv X pins σ (upd H' da (.lst vs)) s'->Same H H'->H' da=none->DenL X.K N H' (ZcT (ltF F) ds) vs->P (.done (.ret .none)) s') :
  wpAny (model X.prog X.w) A (ksk_rest da (.ref fn) false items.toArray e1 (.ref kS)) P E s:=by
 have l1:=dn.length
 have l2:=rv.length
 have few:=ok.few
 have hsl:Qaj=16777216:=sizeLine_eq
 unfold ksk_rest
 refine Qaa (Qb6 ?_)
 refine Qaa (wpAny_forIn_array' _ (fun Zaa _ s'=>∃ (done:List Value) (H':Hp) (us:List Value) (kvs:List V) (e2:Nat),items=done++Zaa/\us.length=done.length/\Inv X (pins++[(da,lob [] e1)]++[(kS,lob us e2)]) σ H' s'/\Same H H'/\Vals kvs us/\DenL X.K N H' ((ds.take done.length).map (Za9 F)) kvs) _ ?_ ?_ items.toArray PUnit.unit ?_)
 ·rintro u Zaa b s1 ⟨done,H1,us,kvs,e2,hi,hl,I1,sm,rk,dk⟩
  have hdl:done.length<ds.length:=by
   have:=congrArg List.length hi
   simp at this
   omega
  have hx:ds[done.length]?=some ds[done.length]:=QaF hdl
  generalize ds[done.length]=x at hx
  obtain ⟨v,hv,dv⟩:=dn.get hx
  have ru:RelV v u:=by
   have:=Zef rv [done.length]
   cases this with
   | cons a _ =>
    have e1:xs.getD done.length .non=v:=by simp [Qbh,hv]
    have e2:items.getD done.length .none=u:=by rw [hi];simp [Qbh]
    rw [<- e1,<- e2];exact a
  obtain ⟨r,hF⟩:=ok.tells x (QcR hx)
  refine Qaa (Qb1 ?_)
  refine Zq7 (N:=N) Fo hb I1 A hr (hA _ _ I1.env0) (fun a ha z=>nh a ha (sm.none z)) (dv.same sm) ru hF fun u' s2 v' H2 I2 sm2 dv2 rv2=>?_
  obtain ⟨gk,hk⟩:=I2.pinGet (a:=kS) (Qax _ Qam)
  have I3:Inv X (pins++[(da,lob [] e1)]) σ H2 s2:=I2.unpinned
  obtain ⟨n3,g3,I4⟩:=I3.rawset (f:=fun x=>x.push u') (its':=us++[u']) hk (fK.more ne) gk (by simp)
  refine Qaa (listUpdate_at gk rfl ?_ (by simp;omega) (by simp;omega))
  refine Qae ?_
  refine ⟨done++[u],H2,us++[u'],kvs++[v'],n3,by rw [hi];simp,by simp [hl],I4.pin1 hk (fK.more ne) g3 (Zhw _ _),sm.trans sm2,rk.append (.cons rv2 .nil),?_⟩
  have e:(ds.take (done++[u]).length).map (Za9 F)=(ds.take done.length).map (Za9 F)++[Za9 F x]:=by
   rw [Qbg,List.length_singleton,List.take_succ,hx]
   simp
  rw [e]
  exact (dk.same sm2).append (DenL.cons dv2 DenL.nil)
 ·rintro b s1 ⟨done,H1,us,kvs,e2,hi,hl,I1,sm,rk,dk⟩
  rw [Qa9] at hi
  subst hi
  obtain ⟨gk,hk⟩:=I1.pinGet (a:=kS) (Qax _ Qam)
  obtain ⟨gd',hd⟩:=I1.pinGet (a:=da) (QbR _ (Qax _ Qam))
  refine Qaa (listItems_at gk rfl ?_)
  have ht:ds.take items.length=ds:=Qbx (by omega)
  rw [ht] at dk
  refine Zqf (N:=N) I1 A hu ok dk rk (by omega) fun p st hp hs ha hf=>?_
  have hpl:p.length=ds.length:=by have:=hp.length_eq;simpa using this
  refine Zo6 A I1 fD fK ne (by omega) ha hf (Zef rv p) (by rw [Qaz];omega) fun s' J=>?_
  refine q s' H1 _ J sm hd ?_
  rw [<- hs]
  exact ZkO (dn.same sm) p fun j hj=>by have:=hp.subset hj;simpa using this
 ·exact ⟨[],H,[],[],e0,by simp,rfl,I,Same.refl H,.nil,DenL.nil⟩
theorem ZkI (Fo:FnOk X.prog X.w X.K X.mg X.base CX0 k fn fd ps (spD X.K F)) (hb:Binds X.K fd ps []) (A:Around) (hr:Room k A) (hu:A.units+40<cLine) (hA:∀ s H,Env0 X.prog X.w X.K X.mg X.base X.A X.stack s H->Env0 X.prog X.w X.K X.mg X.base A X.stack s H)
  (I:Inv X pins σ H s) (nh:∀ a,N a->H a≠none) {da:Addr} {items:List Value} {n0:Nat} {xs:List V} {ds:List D} (g:s.heap.get? da=some (lob items n0)) (hD:H da=none) (fD:Off X pins da) (rv:Vals xs items) (dn:DenL X.K N H ds xs) (ok:SortOk F ds)
  {E:Value->Shared->Prop} {P:PySem.Fin->Shared->Prop} (q:∀ s' H' vs,Inv X pins σ (upd H' da (.lst vs)) s'->Same H H'->H' da=none->DenL X.K N H' (ZcT (ltF F) ds) vs->P (.done (.ret .none)) s') :
  wpAny (model X.prog X.w) A (ksk_tree da (.ref fn) false) P E s:=by
 have l1:=dn.length
 have l2:=rv.length
 have few:=ok.few
 have hsl:Qaj=16777216:=sizeLine_eq
 unfold ksk_tree
 refine Qaa (listItems_at g rfl ?_)
 obtain ⟨n1,g1,I1⟩:=I.rawset (f:=fun _=>#[]) (its':=[]) hD fD g rfl
 refine Qaa (listUpdate_at g rfl ?_ (by simp;omega) (by simp))
 refine Qaa (seqEpoch_at g1 rfl ?_)
 refine Qaa (wpAny_newTuple ?_ (by simp;omega))
 generalize hs1:({ heap:=s.heap.update da (Qck fun x=>#[]),gens:=s.gens,drawn:=s.drawn,toks:=s.toks,os:=s.os }:Shared)=s1 at *
 have g1':s1.heap.get? da=some (lob [] n1):=by rw [<- hs1];exact g1
 have I2:=I1.kept (t':=s1.toks) (fun b u e=>Qac { cls:=.type "tuple",data:=.seq items.toArray } e)
 have g2:=Qac { cls:=.type "tuple",data:=.seq items.toArray } g1'
 generalize hs2:({ heap:=s1.heap.push { cls:=.type "tuple",data:=.seq items.toArray },gens:=s1.gens,drawn:=s1.drawn,toks:=s1.toks,os:=s1.os }:Shared)=s2 at *
 have g2':s2.heap.get? da=some (lob [] n1):=by rw [<- hs2];exact g2
 refine Qaa (wpAny_newList ?_ (by simp))
 have I3:=I2.kept (t':=s2.toks) (fun b u e=>Qac (lob [] 0) e)
 have g3:=Qac (lob [] 0) g2'
 have gk:=Qao s2.heap (o:=lob [] 0) rfl
 have fK:=I2.off (Qau s2.heap.objs.size)
 have hK:H s2.heap.objs.size=none:=I2.fresh
 have ne:da≠s2.heap.objs.size:=QaL (Qaq g2')
 refine Qa6 ?_
 exact ZpF (N:=N) Fo hb A hr hu hA ((I3.pin1 hD fD g3 (Zhw _ _)).pin1 hK (fK.more ne) gk (Zhw _ _)) nh fD fK ne rv dn ok q
theorem Znq (Fo:FnOk X.prog X.w X.K X.mg X.base CX0 k fn fd ps (spD X.K F)) (hb:Binds X.K fd ps []) (hr:Room (k+2) X.A)
  (I:Inv X pins σ H s) (nh:∀ a,N a->H a≠none) {a:Addr} {xs:List V} {ds:List D} (hs:SqL X.K H a xs) (dn:DenL X.K N H ds xs) (ok:SortOk F ds) {Q:VK}
  (q:∀ da vs H',Same H H'->H da=none->H' da=some (.lst vs)->DenL X.K (fun b=>N b\/b=da) H' (ZcT (ltF F) ds) vs->Q (.ref da) H') :
  wpAny (model X.prog X.w) X.A (call (.builtin "sorted") [.ref a] [("key",.ref fn)]) (EP X pins σ Q) X.xe s:=by
 have l1:=dn.length
 have few:=ok.few
 have hsl:Qaj=16777216:=sizeLine_eq
 obtain ⟨its,rv,⟨o,n,ho,hc,hdd,hd⟩,hz⟩:=I.list hs
 have l2:=rv.length
 refine wpAny_call (QbX plain_sorted entry_sorted ?_)
 have hck:QcW "sorted" ⟨[.ref a],[("key",.ref fn)]⟩=pure ():=by rfl
 rw [hck]
 refine Qae ?_
 unfold PySem.Builtin.sorted
 have hcc:checkCount "sorted" 1 1 1=pure ():=rfl
 show wpAny _ _ (do checkCount "sorted" 1 1 1;let y <- collect (.ref a);let l <- newList y;let _ <- holding [l] (call (.builtin "list.sort") [l] [("key",.ref fn)]);ret l) _ _ _
 rw [hcc]
 refine Qaa (Qae ?_)
 refine Qaa (wpAny_collect_seq a (T:="list") (.inl rfl) ho hc hd (fun h1 k1=>?_) (by simp;omega))
 have I1:=I.kept (t':=s.toks) k1
 refine Qaa (wpAny_newList ?_ (by simp;omega))
 generalize hs1:({ heap:=h1,gens:=s.gens,drawn:=s.drawn,toks:=s.toks,os:=s.os }:Shared)=s1 at *
 have I2:=I1.kept (t':=s1.toks) (fun b u e=>Qac (lob its 0) e)
 have g:=Qao s1.heap (o:=lob its 0) rfl
 have fD:=I1.off (Qau s1.heap.objs.size)
 have hD:H s1.heap.objs.size=none:=I1.fresh
 refine Qaa (Qa6 ?_)
 refine wpAny_call (QbX PySem.F.slot_list_sort.plain PySem.F.entry_list_sort ?_)
 refine PySem.F.slot_list_sort.check _ _ _ _ _ _ _ _ ⟨_,g,rfl⟩ rfl ?_
 rw [ksk_t1]
 refine ZkI (N:=N) Fo hb X.A.in1.in1 hr.in1.in1 ?_ (fun s H e=>e.in1.in1) I2 nh g hD fD rv dn ok fun s' H' vs J sm hn dv=>?_
 ·have:=hr.un;show X.A.units+1+1+40<_;omega
 ·refine Qae ?_
  refine ⟨.ref _,_,J,rfl,q _ vs _ (fun b u e=>?_) hD Zad ?_⟩
  ·rw [Zt (fun z=>by rw [z,hD] at e;cases e)];exact sm b u e
  ·exact DenL.step (M:=fun _=>False) ⟨fun b u e z=>by
    rw [Zt (fun z=>by rw [z,hn] at e;cases e)];exact e,fun b hb=>by
    rcases hb with hb | hb
    ·exact .inl hb
    ·subst hb;exact .inr hn⟩ _ _ dv
end
end L2
namespace L2
open PySem PySem.Spec PyProof.Rows PySem.W
section
variable {X:Cx} {M:Fb} {H0:Hp} {k:Nat} {fn:Addr} {fd:QaH} {ps:List Str} {F:List Sl->Option Rv} {e:Expr} {f:VE->Option D} {x y:Str} {p p2 kpos pos:Pos}
noncomputable def Zh2 (F:List Sl->Option Rv) (f:VE->Option D):VE->Option (List D):=fun ρ=>match f ρ with
 | some (.lst xs)=>Zek F xs
 | _=>none
theorem Zng (Fo:FnOk X.prog X.w X.K X.mg X.base CX0 k fn fd ps (spD X.K F)) (hr:Room (k+2) X.A) (hg:Gl X x) (hm:X.mg x=none) (hv:Qbe x=some (.builtin "sorted")) (hgf:Gl X y) (hmf:X.mg y=some (.ref fn)) (hb:Binds X.K fd ps []) (he:JE X e (tP X.K M H0 f))
  (hn:x≠"__name__":=by decide) (hdb:(x==("__debug__":Str))=false:=by decide) (hdb2:(y==("__debug__":Str))=false:=by decide) (hs:Qas [e] X.env=(false,eval e X.env)::Qas [] X.env:=by exact ZaM (fun _ _ z=>nomatch z)) :
  JE X (.Call (.Name x p) [e] [⟨some "key",.Name y p2,kpos⟩] pos) (tF X.K M H0 (Zh2 F f)):=⟨have he:=he.h;by
 intro pins s σ H Q I h
 obtain ⟨ρ,ys,R,ev,q⟩:=h
 refine Qb8 (Zb1 I hg hm hv ?_ hn hdb)
 unfold Zh2 at ev
 split at ev
 ·next xs hf =>
  obtain ⟨ok,rfl⟩:=Zk5 ev
  have ha:=(ZaC he (pa_nil (X:=X)) hs) pos pins s σ H (fun vs H1=>∃ v,vs=[v]/\Same H H1/\DenP X.K (Nf M ρ σ) H1 (.lst xs) v) I ⟨ρ,.lst xs,R,hf,fun v H1 s1 d1=>⟨v,rfl,s1,d1⟩⟩
  have hkw:=ZlR (nm:=some "key") (kpos:=kpos) (ZgN (v:=.ref fn) (pos:=p2) hgf hmf rfl hdb2) (ZoA (X:=X))
  rw [hs] at ha ⊢
  refine callWith_builtin_kwB rfl rfl ?_
  unfold evalArgs
  refine Qaa (thn ha fun us s1 hh=>?_)
  obtain ⟨vs,H1,I1,r1,v,rfl,sm,d1⟩:=hh
  refine Qaa (Qae ?_)
  refine Qa6 ?_
  refine Qaa (thn (hkw pos pins s1 σ H1 (fun zs H2=>zs=[.ref fn]/\H2=H1) I1 ⟨rfl,rfl⟩) fun ks s2 hh=>?_)
  obtain ⟨zs,H2,I2,r2,rfl,rfl⟩:=hh
  refine Qaa (Qae ?_)
  refine Qae ?_
  obtain ⟨u,rfl,ru⟩:=ZaV r1
  obtain ⟨u2,rfl,ru2⟩:=ZaV r2
  cases ru2
  obtain ⟨a,ws,rfl,sq,dl⟩:=d1
  cases ru
  have R1:=R.st sm
  exact Znq (N:=Nf M ρ σ) Fo hb hr I2 R1.nh sq dl ok fun da vs H' s' hn' hd' dv=>q da vs H' (sm.trans s') (sm.none hn') hd' dv
 ·cases ev⟩
end
end L2
namespace L2
open PySem PySem.Spec PyProof.Rows
section
variable {X:Cx} {K:Qab} {M:Fb} {H0:Hp} {pos:Pos} {tg elt iter:Expr} {ifs:List Expr} {scope:Scope} {ws:List Nat} {f:VE->Option (List D)} {b:D->VE->Option VE} {t:VE->Option Bool} {e:VE->Option D} {k:Nat} {oix:List Nat}
@[simp] theorem Zsm (xs:List D):ZkC (.lst xs)=some xs:=rfl
end
end L2
namespace L2
open PySem PySem.Spec PyProof.Rows PySem.W
theorem ZoV:typeLookup (.type "list") ("keys":Str)=pure none:=am_miss_of_fast (by kernel_rfl)
theorem Zre {prog:Qav} {w:World} {A:Around} {E:Value->Shared->Prop} {s:Shared} {a:Addr} {its:Array Value} {Q:Option Value->Shared->Prop} (p:PlainL s.heap a its) (hA:A.handled=none)
  (q:∀ h' tk,(∀ b o,s.heap.get? b=some o->h'.get? b=some o)->Q none { s with heap:=h',toks:=tk }):wpAny (model prog w) A (getAttr? (.ref a) "keys") Q E s:=by
 obtain ⟨o,n,e,hc,hd,hs⟩:=p
 obtain ⟨c,dc,dt,sl⟩:=o
 dsimp only at hc hd hs
 subst hc hd hs
 obtain ⟨hp,g,d,tk,os⟩:=s
 have ty:∀ t,(⟨hp,g,d,t,os⟩:Shared).TypeIs (.ref a) "list":=fun _=>⟨_,e,rfl⟩
 have l1:=sub_AttributeError
 have l2:=F.slot_list_getattribute.lookup
 have l3:=F.slot_list_getattribute.bind (.ref a)
 have l4:=am_list_getattr_none
 unfold getAttr? getAttrBy? getAttrBy
 repeat (any_goals (first
  | assumption
  | exact ty _
  | ((with_reducible show wpAny _ _ (call (Value.builtin "list.__getattribute__") _ _) _ _ _)
     refine call_meets F.slot_list_getattribute (ty _) am_entry_list_getattribute (F.args_list_getattribute_2 _ _) (meets_getattribute_miss_list a its n sl "keys" _ ZoV (by decide +kernel) (by decide +kernel)) ⟨e,hA,fun h1 t1 x1 new=>?_⟩)
  | wp_step))
 obtain ⟨x2,x3,ex⟩:=new.there
 show wpAny _ _ (getattributeRaised _ _ _ _ _ _ _) _ _ _
 unfold getattributeRaised
 repeat (any_goals (first | assumption | wp_step))
 exact q h1 _ new.keeps
theorem ZeT:entryFor table "dict.update.loop"=some Builtin.«dict.update.loop»:=entryFor_of_tree (by kernel_rfl)
theorem Zcg:plainId "dict.update.loop"=true:=by decide +kernel
section
variable {X:Cx} {pins:List (Addr×Obj)} {σ:St} {H:Hp} {s:Shared} {A:Around} {E:Value->Shared->Prop} {tr:List T3} {a:Addr} {k:KT} {y v:V} {u r:Value}
theorem Znl {Q:Unit->Shared->Prop} (hu:A.units+1<cLine) (I:Inv X pins σ H s) (e:H a=some (dcO tr)) (hkeys:∀ t∈tr,ZbU X.K H t.1 t.2.1) (hk:Zfy k tr) (ky:ZbU X.K H k y) (ry:RelV y u) (rv:RelV v r) (hl:tr.length<Qaj)
  (q:∀ h' t',Inv X pins σ (upd H a (dcO (ZbS tr k y v))) { s with heap:=h',toks:=t' }->QaX a s.heap h'->Q () { s with heap:=h',toks:=t' }):wpAny (model X.prog X.w) A.in1 (dictSet a u r) Q E s:=by
 have h:IsDc X.K H a tr:=⟨.inl e,hkeys⟩
 have hl':(ZbS tr k y v).length<=Qaj:=by have:=ZjU tr k y v;omega
 cases k with
 | «at» b =>
  cases ky
  obtain ⟨z,hd,nd,us,rel,dd⟩:=Zgz I h hk
  have hz:us.length<=Qaj:=by rw [<- Qcg rel];exact z
  refine wpAny_dictSet_pairs (knd:=ZY X.prog X.w) (hsz:=hz) (Zdm ry) dd fun h' dd' hs=>q _ _ ?_ hs
  have he:∃ q,h'.get? a=some q:=let ⟨q,_,_,hq,_⟩:=dd';⟨q,hq⟩
  exact Zfn I (by rw [e];exact True.intro) hs he (ZnH hl' hd (ZdP nd) (rel.put rv) dd')
 | tup l =>
  obtain ⟨p,ep,sq⟩:=ky
  subst ep
  cases (show u=QaR p from ry)
  obtain ⟨z,hd,nd,us,rel,dd⟩:=Zff I h hk
  have hz:us.length<=Qaj:=by rw [<- Qcg rel];exact z
  refine wpAny_dictSet_heap (hsz:=hz) (QcB hu) (ZdR I sq) dd fun h' dd' hs=>q _ _ ?_ hs
  have he:∃ q,h'.get? a=some q:=let ⟨q,_,_,hq,_⟩:=dd';⟨q,hq⟩
  exact Zfn I (by rw [e];exact True.intro) hs he (ZlO hl' hd (ZdP nd) (rel.put rv) dd')
end
theorem ZiS {K:Qab} {H H':Hp} {k:KT} {v:V} (h:ZbU K H k v) (s:Same H H'):ZbU K H' k v:=by
 cases k with
 | «at» a=>exact h
 | tup l=>obtain ⟨p,e,sq⟩:=h;exact ⟨p,e,sq.same s⟩
def ZcG:KDs->List D->Option KDs
 | kvs,[]=>some kvs
 | kvs,.tup [y,d]::r=>match okK y with
  | some k=>if Zbv k kvs&&decide (kvs.length<Qaj) then ZcG (Zak kvs k d) r else none
  | none=>none
 | _,_=>none
theorem Zp5 {M:Model} {A:Around} {E:Value->Shared->Prop} {s:Shared} {p:Addr} {its:Array Value} {Q:List Value->Shared->Prop} (h:IsTup s.heap p its) (q:Q its.toList s):wpAny M A (Builtin.Dict.pairItems (.ref p)) Q E s:=by
 obtain ⟨o,e,hc,n,hd⟩:=h
 unfold Builtin.Dict.pairItems
 refine Qaa (Qcp (T:="tuple") ⟨o,e,hc⟩ ?_)
 rw [if_pos (by decide)]
 unfold seqItems?
 refine Qaa (Qaa (wpAny_load e ?_))
 rw [hd]
 exact Qae (Qae q)
section
variable {X:Cx} {pins:List (Addr×Obj)} {σ:St} {H:Hp} {A:Around} {a it l:Addr} {N:Fb} {us:List Value} {R:Result->Shared->Prop}
theorem ZhI (hu:A.units+1<cLine) (hA:A.in1.handled=none) (hH:H a=none) (fp:Zc3 X pins H it) (hia:it≠a) (hil:l≠it) (hla:l≠a):∀ (ds:List D) (vs:List V) (ws:List Value) (i:Nat) (s:Shared) (kvs:KDs) (tr:List T3) (kvs':KDs),
  us.drop i=ws->Vals vs ws->DenL X.K N H ds vs->PD X.K N H kvs tr->Inv X pins σ (upd H a (dcO tr)) s->s.heap.IsListIter it l i->s.heap.IsList l us.toArray->ZcG kvs ds=some kvs' ->
  (∀ s' tr',Inv X pins σ (upd H a (dcO tr')) s'->PD X.K N H kvs' tr'->R (.ok (.ret .none)) s') ->
  codeAny (model X.prog X.w) A (.builtin "dict.update.loop" ⟨[.ref a,.ref it,rawInt (i:Int),.none],[]⟩) R s
 | [],vs,ws,i,s,kvs,tr,kvs',hd,hv,dn,pd,I,hit,hl,hf,q=>by
  cases dn
  cases hv
  cases hf
  refine Qce ZeT ?_
  rw [QbT Zcg _]
  show wpAny _ A.in1 (pyNext (.ref it) >>= _) _ _ s
  have hno:us.toArray[i]?=none:=by
   have:=List.drop_eq_nil_iff.mp hd
   simp [this]
  refine Qaa (wpAny_pyNext_list_end hA hit hl hno fun h' ke=>?_)
  have I':=I.turned (t':=s.toks) (fun b o hb e=>ke b o hb e) (by rw [Zt hia];exact fp.1) fp.2.1 fp.2.2.2.1 fp.2.2.2.2.1 fp.2.2.2.2.2
  exact Qaa (Qae (Qae (q _ tr I' pd)))
 | d::ds,vs,ws,i,s,kvs,tr,kvs',hd,hv,dn,pd,I,hit,hl,hf,q=>by
  simp only [DenL] at dn
  obtain ⟨v,vs',rfl,d1,dn'⟩:=dn
  cases hv with
  | @cons _ u _ ws' rv hv' =>
  unfold ZcG at hf
  split at hf
  ·cases ‹_::_=[]›
  ·next y dd r e1 =>
   cases e1
   cases hk:okK y with
   | none=>rw [hk] at hf;cases hf
   | some k =>
    rw [hk] at hf
    dsimp only at hf
    split at hf
    ·next hc =>
     rw [QaW,decide_eq_true_eq] at hc
     have ey:=ZdS hk
     subst ey
     simp only [Den] at d1
     obtain ⟨p,vs2,rfl,sq,dl⟩:=d1
     simp only [DenL] at dl
     obtain ⟨kv,r2,rfl,dk,vv,r3,rfl,dv,rfl⟩:=dl
     cases rv
     have hat:us.toArray[i]?=some (.ref p):=by
      have h0:(us.drop i)[0]?=some (QaR p):=by rw [hd];rfl
      rw [Qc6] at h0
      simpa using h0
     have hd':us.drop (i+1)=ws':=by
      rw [<- List.tail_drop,hd];rfl
     refine Qce ZeT ?_
     rw [QbT Zcg _]
     show wpAny _ A.in1 (pyNext (.ref it) >>= _) _ _ s
     refine Qaa (wpAny_pyNext_list_item hit hl hat fun h' hit' sb=>?_)
     have I':=I.turned (t':=s.toks) (fun b o hb e=>(sb.2 b hb).trans e) (by rw [Zt hia];exact fp.1) fp.2.1 fp.2.2.2.1 fp.2.2.2.2.1 fp.2.2.2.2.2
     have sm:Same H (upd H a (dcO tr)):=ZaS hH
     obtain ⟨its,rv2,ht,_⟩:=I'.tuple (sq.same sm)
     obtain ⟨u1,u2,rfl,r1,r2⟩:=ZhQ rv2
     have hl':h'.IsList l us.toArray:=hl.at fun o e=>(sb.2 l hil).trans e
     refine Qaa (Qa6 ?_)
     refine Qaa (wpAny_tryCatch (Zp5 ht ?_))
     dsimp only
     refine Qa6 ?_
     refine Znl hu I' Zad (fun t ht=>ZiS (pd.keys t ht) sm) (pd.hom hc.1) (ZiS (ZdQ dk) sm) r1 r2 (by have:=Qcg pd;omega) fun h2 t2 I2 sb2=>?_
     rw [ZqX] at I2
     refine Qae ⟨plainId_quiet Zcg _,?_⟩
     have e2:rawInt ((i:Int)+1)=rawInt ((i+1:Nat):Int):=by simp
     rw [e2]
     refine ZhI hu hA hH fp hia hil hla ds vs' ws' (i+1) _ (Zak _ k dd) (ZbS tr k kv vv) kvs' hd' hv' dn' (pd.put dk dv) I2 ?_ ?_ hf q
     ·obtain ⟨o,e,hh⟩:=hit'
      exact ⟨o,(sb2.2 it hia).trans e,hh⟩
     ·exact hl'.at fun o e=>(sb2.2 l hla).trans e
    ·cases hf
  ·cases hf
theorem ZmX (hc:X.calm=true) (hu:X.A.units+64<cLine) {s:Shared} {E:Value->Shared->Prop} {Q:VK} (I:Inv X pins σ H s) {ds:List D} {vs:List V} {kvs:KDs} (sq:SqL X.K H l vs) (dn:DenL X.K N H ds vs) (hf:ZcG [] ds=some kvs)
  (q:∀ tr p,H p=none->PD X.K N H kvs tr->Q (.ref p) (upd H p (dcO tr))):wpAny (model X.prog X.w) X.A (call (.type "dict") [.ref l]) (EP X pins σ Q) E s:=by
 obtain ⟨us,rv,pl,hz⟩:=I.list sq
 have hlt:l<s.heap.objs.size:=by obtain ⟨o,n,e,_⟩:=pl;exact Qaq e
 have hA:X.A.handled=none:=I.ok.hd hc
 refine callType_codes (Q₁:=fun x s1=>x=.ref s.heap.objs.size/\s1={ s with heap:=s.heap.push { cls:=.type "dict",data:=.dict #[] } }) F.kt_called_dict (F.kt_typeCall_dict_1 (.ref l)) F.entry_dict_init (kt_code_dict_new (.ref l) ⟨rfl,rfl⟩) ?_
 rintro x s1 ⟨rfl,rfl⟩
 have hfr:H s.heap.objs.size=none:=I.hok.fresh (Qau _)
 have I1:Inv X pins σ (upd H s.heap.objs.size (dcO [])) { s with heap:=s.heap.push { cls:=.type "dict",data:=.dict #[] } } :=
  I.laid (a:=s.heap.objs.size) (o:=dcO []) (t':=s.toks) (fun _ _ z=>Qac _ z) (Qau _) ⟨Nat.zero_le _,beq_eq_false_iff_ne.mpr (QaD (QaL I.big)),List.nodup_nil,_,#[],0,Qao _ rfl,⟨rfl,rfl,rfl⟩,rfl,rfl,rfl⟩
 have pl1:PlainL (s.heap.push { cls:=.type "dict",data:=.dict #[] }) l us.toArray:=by
  obtain ⟨o,n,e,hh⟩:=pl
  exact ⟨o,n,Qac _ e,hh⟩
 have ty1:Shared.TypeIs { s with heap:=s.heap.push { cls:=.type "dict",data:=.dict #[] } } (.ref s.heap.objs.size) "dict":=⟨_,Qao _ rfl,rfl⟩
 refine ⟨ty1,F.args_dict_init_2 _ _,?_⟩
 unfold Builtin.«dict.__init__» Builtin.Dict.selfAndRest
 refine Qaa (Qaa (wpAny_notOrdered_dict ty1 ?_))
 show wpAny _ _ (pure (s.heap.objs.size,[QaR l])) _ _ _
 refine Qae ?_
 show wpAny _ _ (Builtin.Dict.updateFrom "dict.__init__" s.heap.objs.size (.ref l) [] .none) _ _ _
 unfold Builtin.Dict.updateFrom
 refine Qaa (Qcp (T:="list") (by obtain ⟨o,n,e,hh,_⟩:=pl1;exact ⟨o,e,hh⟩) ?_)
 rw [if_pos (by decide)]
 refine Qaa (Zre pl1 hA fun h2 t2 k2=>?_)
 rw [if_pos (show (none:Option Value).isNone=true from rfl)]
 have I2:=I1.kept (h':=h2) (t':=t2) k2
 have pl2:PlainL h2 l us.toArray:=by
  obtain ⟨o,n,e,hh⟩:=pl1
  exact ⟨o,n,k2 _ _ e,hh⟩
 refine Qaa (Qb6 ?_)
 refine Qaa (QcF pl2.isList ?_)
 have I3:=I2.kept (h':=h2.push { cls:=.type "list_iterator",data:=.fields #[.ref l,.int 0 0] }) (t':=t2) fun b o e=>Qac _ e
 have hsz:s.heap.objs.size<h2.objs.size:=Qaq (k2 _ _ (Qao _ rfl))
 have fp:Zc3 X pins H h2.objs.size:=I2.fpOk (Qau _) (by
  have:=I2.hok.fresh (a:=h2.objs.size) (Qau _)
  rw [Zt (Qbv hsz)] at this
  exact this)
 refine Qae ⟨plainId_quiet Zcg _,?_⟩
 refine ZhI (A:=X.A.in1) (N:=N) (us:=us) (by show X.A.units+1+1<cLine;omega) hA hfr fp (Qbv hsz) (QaL (Qb9 hlt hsz)) (QaL hlt) ds vs us 0 _ [] [] kvs rfl rv dn .nil I3 ⟨_,Qao _ rfl,rfl,rfl⟩ ?_ hf fun s' tr' I' pd=>?_
 ·exact pl2.isList.push _
 ·exact ⟨rfl,.ref s.heap.objs.size,_,I',rfl,q tr' _ hfr pd⟩
end
theorem ZnQ:Qbe "dict"=some (.type "dict"):=by kernel_rfl
def Zjs (f:VE->Option D):VE->Option (List D):=fun ρ=>match f ρ with
 | some (.lst xs)=>(ZcG [] xs).map ZJ
 | _=>none
section
variable {X:Cx} {M:Fb} {H0:Hp} {e:Expr} {f:VE->Option D} {p pos:Pos}
theorem Zrd (hc:X.calm=true) (hu:X.A.units+64<cLine) (hg:Gl X "dict") (hm:X.mg "dict"=none) (he:JE X e (tP X.K M H0 f)) (hs:Qas [e] X.env=(false,eval e X.env)::Qas [] X.env:=by exact ZaM (fun _ _ z=>nomatch z)) :
  JE X (.Call (.Name "dict" p) [e] [] pos) (tFb true X.K M H0 (Zjs f)):=⟨have he:=he.h;by
 intro pins s σ H Q I h
 obtain ⟨ρ,ys,R,ev,q⟩:=h
 unfold Zjs at ev
 split at ev
 ·next xs hf =>
  cases hp:ZcG [] xs with
  | none=>rw [hp] at ev;cases ev
  | some kvs =>
   rw [hp] at ev
   cases ev
   have ha:=(ZaC he (pa_nil (X:=X)) hs) pos pins s σ H (fun vs H1=>∃ v,vs=[v]/\Same H H1/\DenP X.K (Nf M ρ σ) H1 (.lst xs) v) I ⟨ρ,.lst xs,R,hf,fun v H1 s1 d1=>⟨v,rfl,s1,d1⟩⟩
   refine Call_ (Zb1 I hg hm ZnQ (Qbi (thn ha fun us s1 hh=>?_) (by rw [hs]) rfl))
   obtain ⟨vs,H1,I1,r1,v,rfl,sm,d1⟩:=hh
   obtain ⟨u,rfl,ru⟩:=ZaV r1
   obtain ⟨a,ws,rfl,sq,dl⟩:=d1
   cases ru
   refine ZmX hc hu I1 sq dl hp fun tr b hb pd=>?_
   have:=Zgx (K:=X.K) (M:=M) (ρ:=ρ) (σ:=σ) (fl:=true) (Q:=Q) (xs:=ZJ kvs) (vs:=ZaZ tr) (p:=b) sm hb pd.flat q
   rw [ZgM pd] at this
   exact this
 ·cases ev⟩
end
end L2
namespace L2
open PySem PySem.Spec PyProof.Rows PySem.W
section
variable {X:Cx} {K:Qab} {M:Fb} {H0:Hp}
theorem ZmZ {st:Stmt}:JS X st (tS K M H0 fun _=>.fail):=⟨fun pins s σ H D I ⟨ρ,R,q⟩=>QaJ q⟩
@[simp] def Zv6:List D->Option D
  | [.int i]=>if i.natAbs.log2<1920 then some (.str (Qb3 i)) else none
  | [.str z]=>some (.str z)
  | _=>none
@[simp] def Zwa:List D->Option D
  | [.str z]=>if z.length<=640 then (PySem.intText? z).map D.int else none
  | _=>none
@[simp] def ZvB (z:Str):List D->Option D
  | [.str y]=>if (y.length==0)=false/\z.length<=Qaj/\(Txt.split z y).length<=Qaj then some (.lst ((Txt.split z y).map D.str)) else none
  | _=>none
end
end L2
namespace L2
open PySem PySem.Spec PyProof.Rows
end L2
namespace L2
open PySem PySem.Spec PyProof.Rows PySem.W
section
variable {X:Cx} {M:Fb} {H0:Hp} {e a b:Expr} {es:List Expr} {f:VE->Option D} {pos:Pos}
@[simp] def Zv9:Option D->Option D
  | some (.int i)=>if i.natAbs.log2<1920 then some (.str (Qb3 i)) else none
  | some (.str z)=>if z.length<=Qaj then some (.str z) else none
  | _=>none
def ZrZ (acc:Str) (zs:List Str):Str:=zs.foldl (·++·) acc
@[simp] def Zwf (o:Option D) (p:Option (List Str)):Option (List Str):=match o,p with
  | some (.str z),some zs=>some (z::zs)
  | _,_=>none
@[simp] def Zwh (p:Option (List Str)):Option D:=match p with
  | some zs=>if (ZrZ Str.empty zs).length<=Qaj then some (.str (ZrZ Str.empty zs)) else none
  | none=>none
end
end L2
namespace L2
open PySem PySem.Spec PyProof.Rows PySem.W
structure Zce (K:Frag) (C:Addr):Prop where
 ga:findIn K (.ref C) "__getattribute__"=some (some (.builtin "BaseException.__getattribute__"))
 cl:findIn K (.ref C) "__class__"=some (some (.builtin "object.__class__"))
 gr:findIn K (.ref C) "__getattr__"=some none
 bx:subIn K (.ref C) (.type "BaseException")=some true
 ob:subIn K (.ref C) (.type "object")=some true
 ty:typeIn K (.ref C)=some (.type "type")
 is:∃ cd,clsIn K C=some cd
section
variable {prog:Qav} {w:World} {A:Around} {E:Value->Shared->Prop} {h:Heap} {g:Array GenState} {d:Drawn} {t:Nat} {os:OsState} {e C:Addr} {K:Frag}
theorem Zuq {R:Result->Shared->Prop} (X:K.In h) (F:Zce K C) (p:XAt e C h) (hq:R (.ok (.ret (.ref C))) ⟨h,g,d,t,os⟩):codeAny (model prog w) A (.call (.builtin "getset_descriptor.__get__") ⟨[.builtin "object.__class__",.ref e,.ref C],[]⟩) R ⟨h,g,d,t,os⟩:=by
 obtain ⟨o,vs,h1,h2,h3⟩:=p
 have T5:(⟨h,g,d,t,os⟩:Shared).TypeIs (.builtin "object.__class__") "getset_descriptor":=QcQ
 have L1:Looks (model prog w) h (isSubtype (.ref C) (.type (".".intercalate ("object.__class__".cutAt '.').dropLast))) true:=by rw [PySem.F.owner_object_class];exact looks_subIn X F.ob
 refine QbX PySem.F.slot_gs_get.plain PySem.F.entry_gs_get (PySem.F.slot_gs_get.check _ _ _ _ _ _ _ _ T5 (PySem.F.args_gs_get _ _ _) ?_)
 repeat (any_goals (first | assumption | (with_reducible refine QcH h1 ?_;rw [h2]) | (with_reducible refine Looks.at L1 ?_) | wp_step))
 refine ⟨Code.quiet_builtin _ (by decide +kernel),Qce PySem.F.entry_object_class ?_⟩
 repeat (any_goals (first | assumption | (with_reducible refine QcH h1 ?_;rw [h2]) | wp_step))
theorem ZrD {tk:Tok} {Q:Fin->Shared->Prop} (X:K.In h) (F:Zce K C) (p:XAt e C h) (hq:Q (.done (.ret (.ref C))) ⟨h,g,d,t,os⟩):wpAny (model prog w) A (Builtin.«object.__getattribute__» ⟨[.ref e,.str "__class__" tk],[]⟩) Q E ⟨h,g,d,t,os⟩:=by
 obtain ⟨o,vs,h1,h2,h3⟩:=id p
 have T5:(⟨h,g,d,t,os⟩:Shared).TypeIs (.builtin "object.__class__") "getset_descriptor":=QcQ
 have L1:Looks (model prog w) h (typeLookup (.ref C) "__class__") _:=looks_findIn X F.cl
 have e5:=QcQ
 have e6:=PySem.F.slot_gs_get.lookup
 have e7:=PySem.F.slot_gs_set.lookup
 repeat (any_goals (first | assumption | (with_reducible refine QcH h1 ?_;rw [h2]) | (with_reducible refine Looks.at L1 ?_) | wp_step))
 refine Zuq X F p ?_
 repeat (any_goals (first | assumption | wp_step))
theorem ZqM {M:Model} {nv:Value} {Q:Unit->Shared->Prop} (X:K.In h) (F:Zce K C) (p:XAt e C h) (hq:Q () ⟨h,g,d,t,os⟩):wpAny M A (QcW "BaseException.__getattribute__" ⟨[.ref e,nv],[]⟩) Q E ⟨h,g,d,t,os⟩:=by
 obtain ⟨o,vs,h1,h2,h3⟩:=p
 have k1:builtinKind "BaseException.__getattribute__"=some .slot:=by decide +kernel
 have k2:splitId "BaseException.__getattribute__"=some ("BaseException","__getattribute__"):=by decide +kernel
 have L1:Looks M h (isSubtype (.ref C) (.type "BaseException")) true:=looks_subIn X F.bx
 have k3:=PySem.F.args_bexc_ga (.ref e) nv
 simp only [QcW,k1,k2]
 refine Qaa ?_
 unfold isInstance
 repeat (first | (with_reducible refine QcH h1 ?_;rw [h2]) | (with_reducible refine Looks.at L1 ?_) | wp_step)
 exact hq
theorem Ztl {tk:Tok} {R:Result->Shared->Prop} (X:K.In h) (F:Zce K C) (p:XAt e C h) (hq:R (.ok (.ret (.ref C))) ⟨h,g,d,t,os⟩) :
  codeAny (model prog w) A (.call (.builtin "BaseException.__getattribute__") ⟨[.ref e,.str "__class__" tk],[]⟩) R ⟨h,g,d,t,os⟩ :=
 QbX PySem.F.excAttr_ValueError.ga.plain PySem.F.entry_bexc_ga (ZqM X F p (ZrD X F p hq))
theorem ZuY {tk:Tok} {Q:Value->Shared->Prop} (X:K.In h) (F:Zce K C) (p:XAt e C h) (hq:Q (.ref C) ⟨h,g,d,t,os⟩):wpAny (model prog w) A (getAttrBy (.ref e) (.str "__class__" tk) false) Q E ⟨h,g,d,t,os⟩:=by
 obtain ⟨o,vs,h1,h2,h3⟩:=id p
 have L1:Looks (model prog w) h (typeLookup (.ref C) "__getattribute__") _:=looks_findIn X F.ga
 have L2:Looks (model prog w) h (typeLookup (.ref C) "__getattr__") _:=looks_findIn X F.gr
 have b3:=PySem.F.excAttr_ValueError.ga.bind (.ref e)
 have b2:(Value.builtin "BaseException.__getattribute__"==Value.builtin "object.__getattribute__")=false:=by decide +kernel
 have b1:(onTheHeap (QaR C)&&Value.builtin "BaseException.__getattribute__"==Value.builtin "object.__getattribute__")=false:=by rw [b2];rfl
 repeat (any_goals (first | assumption | (with_reducible refine QcH h1 ?_;rw [h2]) | (with_reducible refine Looks.at L1 ?_) | (with_reducible refine Looks.at L2 ?_) | wp_step))
 refine Ztl X F p ?_
 repeat (any_goals (first | assumption | wp_step))
theorem Zsf {s:Shared} {Q:Option Value->Shared->Prop} (X:K.In s.heap) (F:Zce K C) (p:XAt e C s.heap) (hq:Q (some (.ref C)) { s with toks:=s.toks+1 }):wpAny (model prog w) A (getAttr? (.ref e) "__class__") Q E s:=by
 obtain ⟨h,g,d,t,os⟩:=s
 unfold getAttr? getAttrBy?
 repeat (any_goals (first | assumption | with_reducible apply ZuY X F p | wp_step))
theorem Zue (F:Zce K C):KitX K (.ref e) (.ref C) (XAt e C) where
 ty:=fun M h X p=>by
  obtain ⟨o,vs,h1,h2,h3⟩:=p
  intro A Q E s k q
  unfold typeOf
  exact Qaa (wpAny_loadPart (k _ _ h1) (Qae (by rw [h2];exact q)))
 it:=fun M h X _=>by
  obtain ⟨cd,hc⟩:=F.is
  unfold clsIn at hc
  split at hc
  ·rename_i ho
   intro A Q E s k q
   unfold isType loadHead
   exact Qaa (wpAny_loadPart (k _ _ (X _ _ ho)) (Qae q))
  ·cases hc
 ne:=fun h tp dd its n sl X htp=>by
  obtain ⟨cd,hc⟩:=F.is
  refine Bool.eq_false_iff.mpr fun q=>?_
  obtain rfl:C=tp:=Value.ref.inj (beq_iff_eq.mp q)
  unfold clsIn at hc
  split at hc
  ·rename_i ho
   have z:=(X _ _ ho).symm.trans htp
   cases z
  ·cases hc
 ca:=fun X p k=>Zsf X F p k
end
end L2
namespace L2
open PySem PySem.Spec PyProof.Rows PySem.W
structure Air (B:Heap) (l:List Env) (e:Addr) (C fl:Value) (h:Heap):Prop where
 stay:B.StaysIn h
 new:B.get? e=none
 fun_:h.FunFrames B l
 rcd:∃ oe vs,h.get? e=some oe/\oe.cls=C/\oe.data=.fields vs/\vs[2]?=some .none/\(vs[1]?=some .none\/∃ T oT ts,vs[1]?=some (.ref T)/\B.get? T=none/\T≠e/\h.get? T=some oT/\oT.data=.fields ts/\ts[3]?=some fl)
section
variable {M:Model} {A:Around} {E:Value->Shared->Prop} {s:Shared} {B:Heap} {l outer:List Env} {env:Env} {e L:Addr} {C fl:Value} {Q:Unit->Shared->Prop}
theorem Air.outs {h:Heap} (a:Air B (env::outer) e C fl h):Air B outer e C fl h:=⟨a.stay,a.new,a.fun_.2.2,a.rcd⟩
theorem ZhH {h:Heap} {b x:Addr} {o ox:Obj} {ws:Array Value} (hb:h.get? b=some o) (nf:∀ vs,o.data≠.fields vs) (hx:h.get? x=some ox) (dx:ox.data=.fields ws):b≠x:=fun q=>by
 subst q;rw [hb] at hx;cases hx;exact nf ws dx
theorem ZiB {head:Value} {hn:Bool} {oe:Obj} {vs:Array Value} (hfr:A.frames=some (env::outer)) (hf:env.frame=some L) (st:B.StaysIn s.heap) (nw:B.get? e=none) (ff:s.heap.FunFrames B (env::outer))
  (h1:s.heap.get? e=some oe) (h2:oe.cls=C) (h3:oe.data=.fields vs) (h4:vs[2]?=some .none) (hz:1<vs.size) (q:∀ h',Air B (env::outer) e C (rawInt L) h'->s.heap.UpToSlots h'->Q () { s with heap:=h' }) :
  wpAny M A (do let a <- frameOf env;let pl <- entryPlaceOf L hn;let b <- EntryCells.newEntry head a .none (rawInt L) .none pl;setField (.ref e) 1 b) Q E s:=by
 have ef:e∉(env::outer).filterMap (·.frame):=fun hm=>by
  obtain ⟨_,o,ho,z⟩:=ff.mem hm
  rw [h1] at ho;cases ho;exact z vs h3
 refine Qaa (wpAny_frameOf_fun hfr ff hf fun g1 sg=>Qaa (wpAny_entryPlaceOf fun pq hpq=>?_))
 unfold EntryCells.newEntry newFields;refine Qaa (Qbf ?_ (hpq.sizeOk5 _ _ _ _ _))
 have e1:g1.get? e=some oe:=(sg.2.1 e ef).trans h1
 have s1:B.StaysIn g1:=fun b o z=>(sg.2.1 b fun hm=>by rw [(ff.mem hm).1] at z;cases z).trans (st b o z)
 generalize ho:({ cls:=.type "traceback",dict:=none,data:=.fields ([head,.ref L,.none,rawInt L,.none]++(if pq.isEmpty then QaT 6 Qbl else pq)).toArray }:Obj)=tb
 have tbd:∃ ts,tb.data=.fields ts/\ts[3]?=some (rawInt L):=by subst ho;exact ⟨_,rfl,by simp⟩
 have tbf:tb.isFreed=false:=by subst ho;rfl
 obtain ⟨ts,td,t3⟩:=tbd
 have e2:=Qac (h:=g1) tb e1
 refine QcL e2 h3 hz (q _ ?_ ?_)
 all_goals
  have d3:=QbP h3 (·.setIfInBounds 1 (QaR g1.objs.size))
  have e3:=Qcf (Obj.mapFields (·.setIfInBounds 1 (QaR g1.objs.size))) e2 (QcM d3)
  have ne:g1.objs.size≠e:=Qbv (Qaq e1)
  have kp:∀ b o,b≠e->g1.get? b=some o->((g1.push tb).update e (Obj.mapFields (·.setIfInBounds 1 (QaR g1.objs.size)))).get? b=some o:=fun b o z zb=>by
   rw [QbL _ _ (QaD z)];exact Qac _ zb
 ·refine ⟨fun b o z=>kp b o (fun y=>by rw [y,nw] at z;cases z) (s1 b o z),nw,ff.of_keeps fun b o zb nf=>?_,_,_,e3,(Obj.cls_mapFields _ _).trans h2,d3,by rw [Array.getElem?_setIfInBounds_ne (by decide)];exact h4,.inr ⟨g1.objs.size,tb,ts,by simp [hz],s1.fresh,ne,?_,td,t3⟩⟩
  ·obtain ⟨sl,hs⟩:=sg.2.2 b o zb
   exact ⟨_,kp b _ (ZhH zb nf h1 h3) hs,rfl⟩
  ·rw [QbL _ _ (QaD ne)];exact Qao g1 tbf
 ·intro b o zb nf
  obtain ⟨sl,hs⟩:=sg.2.2 b o zb
  exact ⟨sl,kp b _ (ZhH zb nf h1 h3) hs⟩
theorem Zk0 {T:Addr} {oT oe:Obj} {ts:Array Value} {v:Value} (st:B.StaysIn s.heap) (ff:s.heap.FunFrames B l) (h1:s.heap.get? e=some oe) (nT:B.get? T=none) (ne:T≠e) (hT:s.heap.get? T=some oT) (dT:oT.data=.fields ts) (hz:3<ts.size)
  (q:∀ h',B.StaysIn h'->h'.FunFrames B l->h'.get? e=some oe->(∃ o2 t2,h'.get? T=some o2/\o2.data=.fields t2/\t2[3]?=some v)->s.heap.UpToSlots h'->Q () { s with heap:=h' }):wpAny M A (setField (.ref T) 3 v) Q E s:=by
 refine QcL hT dT hz ?_
 have oth:∀ b,b≠T->(s.heap.update T (Obj.mapFields (·.setIfInBounds 3 v))).get? b=s.heap.get? b:=fun b z=>QbL _ _ (QaD z)
 refine q _ (fun b o z=>(oth b fun y=>by rw [y,nT] at z;cases z).trans (st b o z)) (ff.of_keeps fun b o zb nf=>⟨o,(oth b (ZhH zb nf hT dT)).trans zb,rfl⟩) ((oth e (QaD ne)).trans h1)
  ⟨_,_,Qcf _ hT (QcM (QbP dT _)),QbP dT _,by simp [hz]⟩ fun b o zb nf=>⟨o.slots,(oth b (ZhH zb nf hT dT)).trans zb⟩
theorem Zku (hfr:A.frames=some (env::outer)) (hf:env.frame=some L) (a:Air B (env::outer) e C .none s.heap) (q:∀ h',Air B (env::outer) e C (rawInt L) h'->s.heap.UpToSlots h'->Q () { s with heap:=h' }) :
  wpAny M A (noteFrame (.ref e) env) Q E s:=by
 obtain ⟨st,nw,ff,oe,vs,h1,h2,h3,h4,r⟩:=a
 unfold noteFrame;simp only [hf]
 rcases r with r | ⟨T,oT,ts,r,nT,ne,hT,dT,t3⟩
 ·refine Qaa (QaM h1 h3 r ?_)
  rw [if_neg (by decide)]
  exact ZiB hfr hf st nw ff h1 h2 h3 h4 (Array.getElem?_eq_some_iff.mp r).1 q
 ·refine Qaa (QaM h1 h3 r ?_)
  rw [if_pos (show (QaR T != Qbl)=true by simp)]
  refine Qaa (QaM hT dT t3 ?_)
  rw [if_neg (show ¬ (Qbl==rawInt L)=true by simp [rawInt])]
  refine Qaa (Zk0 st ff h1 nT ne hT dT (Array.getElem?_eq_some_iff.mp t3).1 fun h' st' ff' h1' _ u=>?_)
  exact ZiB (s:={ s with heap:=h' }) hfr hf st' nw ff' h1' h2 h3 h4 (Array.getElem?_eq_some_iff.mp r).1 fun h2 a u2=>q h2 a (u.trans u2)
theorem Zhc (a:Air B l e C fl s.heap) (q:∀ h',Air B l e C .none h'->s.heap.UpToSlots h'->Q () { s with heap:=h' }):wpAny M A (setFlight (.ref e) none) Q E s:=by
 obtain ⟨st,nw,ff,oe,vs,h1,h2,h3,h4,r⟩:=a
 unfold setFlight
 rcases r with r | ⟨T,oT,ts,r,nT,ne,hT,dT,t3⟩
 ·refine Qaa (QaM h1 h3 r ?_)
  rw [if_neg (by decide)]
  exact Qae (q s.heap ⟨st,nw,ff,oe,vs,h1,h2,h3,h4,.inl r⟩ (.refl _))
 ·refine Qaa (QaM h1 h3 r ?_)
  rw [if_pos (show (QaR T != Qbl)=true by simp)]
  exact Zk0 st ff h1 nT ne hT dT (Array.getElem?_eq_some_iff.mp t3).1 fun h' st' ff' h1' ⟨o2,t2,z1,z2,z3⟩ u=>q h' ⟨st',nw,ff',oe,vs,h1',h2,h3,h4,.inr ⟨T,o2,t2,r,nT,ne,z1,z2,z3⟩⟩ u
theorem ZoB (hfr:A.frames=some (env::outer)) (hf:env.frame=some L) (a:Air B (env::outer) e C .none s.heap) (q:∀ h',Air B outer e C .none h'->s.heap.UpToSlots h'->Q () { s with heap:=h' }):wpAny M A (leaving env (.ref e)) Q E s:=by
 unfold leaving
 exact Qaa (Zku hfr hf a fun h1 a1 u1=>Zhc (s:={ s with heap:=h1 }) a1 fun h2 a2 u2=>q h2 a2.outs (u1.trans u2))
theorem _root_.L2.ObjOk.ob {P:Qav} {w:World} {H:Hp} {h:Heap} {x:Addr} {o:HO} (z:ObjOk P w H h x o):∃ ob,h.get? x=some ob:=by
 cases o with
 | lst xs=>obtain ⟨_,_,_,_,q⟩:=z;exact ⟨_,q⟩
 | tup xs=>obtain ⟨_,_,_,ob,q,_⟩:=z;exact ⟨_,q⟩
 | dK kvs=>obtain ⟨_,_,_,_,ob,_,_,q,_⟩:=z;exact ⟨_,q⟩
 | dT kvs=>obtain ⟨_,_,_,_,ob,_,_,q,_⟩:=z;exact ⟨_,q⟩
 | dct ks vs=>obtain ⟨_,_,_,ob,_,_,q,_⟩:=z;exact ⟨_,q⟩
 | set S n=>obtain ⟨ob,_,_,_,q,_⟩:=z;exact ⟨_,q⟩
 | ins D dx fs=>obtain ⟨_,_,_,q,_⟩:=z;exact ⟨_,q⟩
 | own y=>exact z
 | xd fs=>obtain ⟨_,⟨_,_,_,q,_⟩,_⟩:=z;exact ⟨_,q⟩
 | rng lo hi=>obtain ⟨_,_,_,q⟩:=z;exact ⟨_,q⟩
 | frz ob u=>exact ⟨_,z.1⟩
 | tbl ps=>exact ⟨_,z⟩
 | met f y=>exact ⟨_,z⟩
 | ext φ=>exact z.2.1
def Fly (P:Qav) (w:World) (l:List Env) (H H':Hp) (s:Heap) (e C:Addr) (h:Heap):Prop :=
 Same H H'/\Un (frs l) [] H H' s h/\∃ B,HOk P w H' B/\(∀ b o,s.get? b=some o->H b=none->b∉frs l->B.get? b=some o)/\Air B l e (.ref C) .none h
def CXv (P:Qav) (w:World):CXT:=fun outer H s E e s'=>∃ a C H',e=.ref a/\s'.os=s.os/\AllBare s'.gens/\Fly P w outer H H' s.heap a C s'.heap/\E (.ref C) none H'
def Thr (Y:Cx) (pins:List (Addr×Obj)) (σ:St) (H:Hp) (C:Addr) (e:Value) (s':Shared):Prop :=
 ∃ a H2 H' s2,e=.ref a/\Inv Y pins σ H2 s2/\Same H H2/\s'.os=s2.os/\AllBare s'.gens/\Fly Y.prog Y.w Y.stack H2 H' s2.heap a C s'.heap
theorem Thr.from {Y:Cx} {pins:List (Addr×Obj)} {σ:St} {H H1:Hp} {C:Addr} {v:Value} {s':Shared} (sm:Same H H1) (t:Thr Y pins σ H1 C v s'):Thr Y pins σ H C v s':=by
 obtain ⟨a,H2,H',s2,e1,I,sm2,r⟩:=t
 exact ⟨a,H2,H',s2,e1,I,sm.trans sm2,r⟩
theorem ZnU {fs:List Addr} {l:List Env} {H H2 H':Hp} {s s2 h h':Heap} {P:Qav} {w:World} {C:Value} (u1:Un fs [] H H2 s s2) (u2:Un (frs l) [] H2 H' s2 h) (hk:HOk P w H' B) (k:∀ b o,s2.get? b=some o->H2 b=none->b∉frs l->B.get? b=some o)
  (hs:∀ b o,s.get? b=some o->H b=none->b∈frs l->b∈fs) (sm:Same H2 H') (a:Air B l e C fl h) (st:B.StaysIn h') (up:h.UpToSlots h'):Un fs [] H H' s h':=by
 have nx:∀ b:Addr,b∉([]:List Addr):=fun b=>by simp
 have fr:∀ b o,s2.get? b=some o->H2 b=none->b∈frs l->∃ sl,h'.get? b=some { o with slots:=sl }:=fun b o z n hb=>by
  obtain ⟨sl,z1⟩:=u2.any z n (nx b)
  obtain ⟨_,o',z2,nf⟩:=a.fun_.mem hb
  rw [z1] at z2;cases z2
  obtain ⟨sl',z3⟩:=up b _ z1 nf
  exact ⟨sl',z3⟩
 refine ⟨fun b o z n hb _=>?_,fun b o z n hb _=>?_,fun b o z n _=>?_,fun b o z _=>?_,fun b xs z=>u2.tups b xs (u1.tups b xs z),fun b o u z=>u2.frzs b o u (u1.frzs b o u z),fun b ps z=>?_⟩
 ·exact st b o (k b o (u1.keep b o z n hb (nx b)) (u1.free b o z n (nx b)) fun hl=>hb (hs b o z n hl))
 ·obtain ⟨sl,z1⟩:=u1.slot b o z n hb (nx b)
  by_cases hl:b∈frs l
  ·obtain ⟨sl',z2⟩:=fr b _ z1 (u1.free b o z n (nx b)) hl
   exact ⟨sl',z2⟩
  ·exact ⟨sl,st b _ (k b _ z1 (u1.free b o z n (nx b)) hl)⟩
 ·obtain ⟨o',z1⟩:=u1.there b o z (nx b)
  exact u2.free b o' z1 (u1.free b o z n (nx b)) (nx b)
 ·obtain ⟨o1,z1⟩:=u1.there b o z (nx b)
  cases hb:H2 b with
  | none =>
   by_cases hl:b∈frs l
   ·obtain ⟨sl',z2⟩:=fr b o1 z1 hb hl
    exact ⟨_,z2⟩
   ·exact ⟨o1,st b _ (k b _ z1 hb hl)⟩
  | some u =>
   obtain ⟨o2,z2⟩:=(hk b u (sm b u hb)).ob
   exact ⟨o2,st b _ z2⟩
 ·obtain ⟨m1,z1⟩:=u1.tbls b ps z
  obtain ⟨m2,z2⟩:=u2.tbls b _ z1
  exact ⟨m1++m2,by rw [z2,Array.append_assoc]⟩
theorem ZpQ {P:Qav} {w:World} {H:Hp} {h:Heap} {fs:List Addr} (hk:HOk P w H h) (nf:∀ b∈fs,H b=none):HOk P w H (hideAll h fs):=fun x o z =>
 (hk x o z).stay (fun b u hb q=>hideAll_get _ q fun hm=>by
  have:=nf b hm
  rcases hb with y | y
  ·rw [y,z] at this;cases this
  ·rw [y] at this;cases this) (fun _ q=>q) fun _ _ q=>q
theorem Zo1 {Y:Cx} {pins:List (Addr×Obj)} {σ:St} {H:Hp} {s:Shared} {D x:Addr} {vs:List Value} {h':Heap} (I:Inv Y pins σ H s) (m:Heap.MadeExcOf s.heap h' x (.ref D) vs):Thr Y pins σ H D (.ref x) { s with heap:=h' }:=by
 have ff:=I.stack
 have hin:∀ env∈Y.stack,∀ b,env.frame=some b->b∈Y.stack.filterMap (·.frame):=fun env he b hb=>List.mem_filterMap.mpr ⟨env,he,hb⟩
 have fb:(hideAll s.heap (frs Y.stack)).get? x=none:=by
  cases q:(hideAll s.heap (frs Y.stack)).get? x with
  | none=>rfl
  | some o=>have:=of_hideAll _ q;rw [m.new] at this;cases this
 have ff2:=funFrames_hide ff hin
 obtain ⟨tp,t1,t2,t3⟩:=m.there
 refine ⟨x,H,H,s,rfl,I,Same.refl H,rfl,I.bare,Same.refl H,Un.kept m.keeps,hideAll s.heap (frs Y.stack),ZpQ I.hok I.stkFree,fun b o z n hb=>hideAll_get _ z hb,⟨fun b o z=>m.keeps b o (of_hideAll _ z),fb,?_,_,_,t1,rfl,rfl,rfl,.inl rfl⟩⟩
 exact ff2.of_keeps fun b o z _=>⟨o,m.keeps b o z,rfl⟩
theorem ZoN {Y:Cx} {pins:List (Addr×Obj)} {σ:St} {H:Hp} {s':Shared} {D:Addr} {v:Value} {E':XK} (ys:Y.stack=Y.env::Y.outer) (yf:Y.env.frame=some Y.env.locals) (ye:Y.ex=[]) (sm0:Same Y.H₀ H) (t:Thr Y pins σ H D v s') (hE:∀ H',Same Y.H₀ H'->E' (.ref D) none H') :
  wpAny M Y.A (leaving Y.env v) (fun _ s''=>CXv Y.prog Y.w Y.outer Y.H₀ Y.s₀ E' v s'') E s':=by
 obtain ⟨x,H2,H',s2,rfl,I,sm,os,ba,sm2,u,B,hk,kb,air⟩:=t
 have frm:=I.ok.frames
 rw [ys] at air u kb frm
 refine ZoB frm yf air fun h' a2 up=>⟨x,D,H',rfl,os.trans I.os,ba,⟨(sm0.trans sm).trans sm2,?_,B,hk,fun b o z n hb=>?_,a2⟩,hE H' ((sm0.trans sm).trans sm2)⟩
 ·have b0:=I.base
  rw [ye] at b0
  refine ZnU (l:=Y.env::Y.outer) b0 u hk kb (fun b o z n hb=>?_) sm2 air a2.stay up
  rcases Qbk.mp (show b∈Y.env.locals::frs Y.outer by unfold frs at hb ⊢;rw [QbI,yf] at hb;exact hb) with y | y
  ·exact absurd (y ▸ Qaq z) (Nat.not_lt.mpr I.ok.above)
  ·exact y
 ·have b0:=I.base
  rw [ye] at b0
  refine kb b o (b0.keep b o z n hb (by simp)) (b0.free b o z n (by simp)) fun hm=>?_
  rcases Qbk.mp (show b∈Y.env.locals::frs Y.outer by unfold frs at hm ⊢;rw [QbI,yf] at hm;exact hm) with y | y
  ·exact absurd (y ▸ Qaq z) (Nat.not_lt.mpr I.ok.above)
  ·exact hb y
end
end L2
namespace L2
open PySem PySem.Spec PyProof.Rows PySem.W
abbrev Cx.hand (Y:Cx) (x:Addr):Cx:={ Y with A:=Y.A.mark (some (.ref x)),calm:=false }
section
variable {Y:Cx} {pins:List (Addr×Obj)} {σ:St} {H H2 H':Hp} {s s2 s':Shared} {x D G:Addr} {fl f0:Value} {B h h':Heap}
theorem Inv.hand (I:Inv Y pins σ H s) (x:Addr):Inv (Y.hand x) pins σ H s :=
 ⟨⟨I.ok.mod,I.ok.kind,I.ok.glob,I.ok.blt,I.ok.above,I.ok.inj,I.ok.has,I.ok.cab,(fun z=>nomatch z),I.ok.frames,I.ok.stk,I.ok.exf,I.ok.bs,I.ok.bsz,I.ok.noex,I.ok.exfs,I.ok.funs,I.ok.frf⟩,I.os,I.bare,I.base,I.loc,I.cell,I.free,I.freeC,I.pin,I.hok,I.len⟩
theorem Inv.back (ok:Y.Ok) (I:Inv (Y.hand x) pins σ H s):Inv Y pins σ H s:=⟨ok,I.os,I.bare,I.base,I.loc,I.cell,I.free,I.freeC,I.pin,I.hok,I.len⟩
theorem ZlU (I:Inv Y pins σ H2 s2) (os:s'.os=s2.os) (ba:AllBare s'.gens) (sm:Same H2 H') (u:Un (frs Y.stack) [] H2 H' s2.heap h) (hk:HOk Y.prog Y.w H' B) (kb:∀ b o,s2.heap.get? b=some o->H2 b=none->b∉frs Y.stack->B.get? b=some o)
  (a0:Air B Y.stack x (.ref D) f0 h) (a:Air B Y.stack x (.ref D) fl h') (up:h.UpToSlots h'):H2 x=none/\Same H2 (upd H' x (.ext (XAt x D)))/\Inv Y pins σ (upd H' x (.ext (XAt x D))) { s' with heap:=h' }:=by
 have hx:H' x=none:=by
  cases q:H' x with
  | none=>rfl
  | some o=>obtain ⟨ob,z⟩:=(hk x o q).ob;rw [a.new] at z;cases z
 have sx:s2.heap.get? x=none:=by
  cases q:s2.heap.get? x with
  | none=>rfl
  | some o =>
   cases q2:H2 x with
   | some o2=>rw [sm x o2 q2] at hx;cases hx
   | none =>
    by_cases hf:x∈frs Y.stack
    ·obtain ⟨_,o3,z3,nf⟩:=a0.fun_.mem hf
     obtain ⟨oe,vs,z1,_,z2,_⟩:=a0.rcd
     rw [z1] at z3;cases z3;exact absurd z2 (nf vs)
    ·have:=kb x o q q2 hf;rw [a.new] at this;cases this
 have u':=ZnU (Un.refl (fs:=frs Y.stack)) u hk kb (fun _ _ _ _ z=>z) sm a0 a.stay up
 have ub:∀ b o,H' b=some o->(upd H' x (.ext (XAt x D))) b=some o:=fun b o q=>by rw [Zt (Z1 q hx)];exact q
 refine ⟨sm.free hx,fun b o q=>ub b o (sm b o q),I.call' (s':={ s' with heap:=h' }) (ch:=[]) os ⟨u'.keep,u'.slot,fun b o z n hb=>?_,u'.there,fun b xs z=>ub b _ (u'.tups b xs z),fun b o v z=>ub b _ (u'.frzs b o v z),fun b ps z=>?_⟩ (fun b v q=>?_) ba (fun b z=>absurd z (by simp))⟩
 ·rw [Zt (fun y=>by rw [y,sx] at z;cases z)];exact u'.free b o z n hb
 ·obtain ⟨m,q⟩:=u'.tbls b ps z;exact ⟨m,ub b _ q⟩
 ·by_cases e:b=x
  ·subst e
   rw [Zad] at q;cases q
   obtain ⟨oe,vs,z1,z2,z3,z4,_⟩:=a.rcd
   exact ⟨⟨oe,vs,z1,z2,z3,z4⟩,⟨oe,z1⟩,fun h1 h2 ⟨o,ws,y1,y2⟩ k=>⟨o,ws,k o y1,y2⟩⟩
  ·rw [Zt e] at q
   exact (hk b v q).stay (fun c o _ z=>a.stay c o z) (fun c z=>ub c _ z) fun c xs z=>ub c _ z
theorem Inv.gone {m':Str->Option Value} {tk:Nat} (I:Inv Y pins σ H s) (hn:h'.Ns Y.env.locals m') (sb:QaX Y.env.locals s.heap h'):Inv Y pins (QaT Y.N.length none) H { s with heap:=h',toks:=tk }:=by
 have lt:∀ b o,Y.s₀.heap.get? b=some o->b≠Y.env.locals:=fun b o z=>QaL (Qay (Qaq z) I.ok.above)
 refine ⟨I.ok,I.os,I.bare,⟨fun b o z n hb hx=>(sb.2 b (lt b o z)).trans (I.base.keep b o z n hb hx),fun b o z n hb hx=>?_,I.base.free,fun b o z hx=>?_,I.base.tups,I.base.frzs,I.base.tbls⟩,⟨m',hn,fun i y v e1 e2 _=>?_⟩,fun y c z=>?_,I.free,I.freeC,fun p hp=>?_,fun b v q=>?_,by simp⟩
 ·obtain ⟨sl,q⟩:=I.base.slot b o z n hb hx;exact ⟨sl,(sb.2 b (lt b o z)).trans q⟩
 ·obtain ⟨o',q⟩:=I.base.there b o z hx;exact ⟨o',(sb.2 b (lt b o z)).trans q⟩
 ·rw [Qbj] at e2;split at e2<;>cases e2
 ·obtain ⟨w,q⟩:=I.cell y c z;exact ⟨w,q.sameBut sb (I.cne y c z)⟩
 ·obtain ⟨z,n,ne,nf,dd⟩:=I.pin p hp;exact ⟨(sb.2 p.1 ne).trans z,n,ne,nf,dd⟩
 ·refine (I.hok b v q).stay (fun c o hc z=>(sb.2 c fun y=>?_).trans z) (fun _ z=>z) fun _ _ z=>z
  have nl:=I.free
  rcases hc with hc | hc
  ·rw [hc] at y;rw [y,nl] at q;cases q
  ·rw [y,nl] at hc;cases hc
theorem Zop {i:Nat} {cx n:Str} {np pos:Pos} {b0:Stmt} {suite:List Stmt} {Zaa:List ExceptHandler} {v:Value} {Q:Flow->Shared->Prop} {E:Value->Shared->Prop} {Q':VK} (ys:Y.stack=Y.env::Y.outer) (yf:Y.env.frame=some Y.env.locals) (t:Thr Y pins σ H D v s')
  (hm:Y.mg cx=some (.ref G)) (hg:Gl Y cx) (hx:exmOne Y.K (.ref D) (.ref G)=some true) (hN:Y.N.Nodup) (hi:Y.N[i]?=some n) (hl:Y.env.scope.names.lookup n=some .local)
  (k:∀ x H3 s3,H x=none->Same H H3->Inv (Y.hand x) pins (σ.set i (some (.ref x))) H3 s3->H3 x=some (.ext (XAt x D)) ->
   wpAny (model Y.prog Y.w) (Y.A.mark (some (.ref x))) (execs (b0::suite) Y.env) (fun f s4=>∃ u vv σ' H',f=.ret u/\Inv (Y.hand x) pins σ' H' s4/\RelV vv u/\Q' vv H') (fun _ _=>False) s3)
  (fin:∀ u vv σ' H' s5,Inv Y pins σ' H' s5->RelV vv u->Q' vv H'->Q (.ret u) s5) (hd:(cx==("__debug__":Str))=false:=by decide) :
  wpAny (model Y.prog Y.w) Y.A (noteFrame v Y.env) (fun _ s2=>wpAny (model Y.prog Y.w) Y.A (setFlight v none) (fun _ s3=>wpAny (model Y.prog Y.w) Y.A (handleBy v Y.env (.ExceptHandler (some (.Name cx np)) (some n) (b0::suite) pos::Zaa)) Q E s3) E s2) E s':=by
 obtain ⟨x,H2,H',s2,rfl,I,sm0,os,ba,sm,u,B,hk,kb,air⟩:=t
 have frm:=I.ok.frames
 have air1:=air
 rw [ys] at frm air1
 refine Zku frm yf air1 fun h4 a4 up4=>Zhc (s:={ s' with heap:=h4 }) a4 fun h5 a5 up5=>?_
 rw [<- ys] at a5
 have up:=up4.trans up5
 obtain ⟨_,sm5,I5⟩:=ZlU I os ba sm u hk kb air a5 up
 obtain ⟨oe,vs,e1,e2,e3,_⟩:=id a5.rcd
 have LT:Looks (model Y.prog Y.w) h5 (typeOf (.ref x)) (.ref D):=fun A' Q' E' s' kk q=>by
  unfold typeOf;exact Qaa (wpAny_loadPart (kk _ _ e1) (Qae (by rw [e2];exact q)))
 refine wpAny_handleBy_cons (codeAny_handlers_test ?_) (by intro q;cases q)
 refine ZeW (X:=Y.hand x) (I5.hand x) hg hm ?_ hd
 refine (exm_one (K:=Y.K) I5.kIn LT hx).here ?_
 refine codeAny_handlers_suite_as (Zhc (s:={ s' with heap:=h5 }) a5 fun h6 a6 up6=>?_)
 obtain ⟨hx6,sm6,I6⟩:=ZlU (s':=s') I os ba sm u hk kb air a6 (up.trans up6)
 refine Zho (X:=Y.hand x) (I6.hand x) hN hi (.inl hl) (v:=.ref x) rfl (fun s7 I7=>?_) (.inr hl)
 refine Qbp (k x _ s7 (sm0.free hx6) (sm0.trans sm6) I7 Zad) (fun f s8 hf=>?_) fun _ _ z=>z.elim
 obtain ⟨uu,vv,σ',H8,rfl,I8,rv,q⟩:=hf
 obtain ⟨m8,n8,_⟩:=id I8.loc
 refine wpAny_nameGoes hl n8 (by rw [I.ok.kind];rfl) fun h9 m9 n9 sb9=>?_
 exact fin uu vv _ H8 _ ((I8.back I.ok).gone n9 sb9) rv q
end
end L2
namespace L2
open PySem PySem.Spec PyProof.Rows PySem.W
def ThrC (Y:Cx) (pins:List (Addr×Obj)) (σ:St) (H:Hp) (c:Str) (e:Value) (s':Shared):Prop:=∃ D,nsIn Y.K Qak c=some (some (.ref D))/\Thr Y pins σ H D e s'
def NoX (Y:Cx):Prop:=∀ e s,¬ Y.xe e s
theorem ThrC.from {Y:Cx} {pins:List (Addr×Obj)} {σ:St} {H H1:Hp} {c:Str} {v:Value} {s':Shared} (sm:Same H H1) (t:ThrC Y pins σ H1 c v s'):ThrC Y pins σ H c v s':=by
 obtain ⟨D,e,t⟩:=t
 exact ⟨D,e,t.from sm⟩
structure XE (Y:Cx) (K:Frag) (M:Fb) (H0:Hp) (e:Expr) (h:VE->Option Str):Prop where
 h:∀ pins s σ H ρ c,Inv Y pins σ H s->Rel K M H0 ρ σ H->h ρ=some c->wpAny (model Y.prog Y.w) Y.A (eval e Y.env) (fun _ _=>False) (ThrC Y pins σ H c) s
structure XT (Y:Cx) (K:Frag) (M:Fb) (H0:Hp) (st:Stmt) (h:VE->Option Str):Prop where
 h:∀ pins s σ H ρ c,Inv Y pins σ H s->Rel K M H0 ρ σ H->h ρ=some c->wpAny (model Y.prog Y.w) Y.A (exec st Y.env) (fun _ _=>False) (ThrC Y pins σ H c) s
structure XS (Y:Cx) (K:Frag) (M:Fb) (H0:Hp) (st:Stmt) (h:VE->Option Str):Prop where
 h:∀ pins s σ H ρ c,Inv Y pins σ H s->Rel K M H0 ρ σ H->h ρ=some c->wpAny (model Y.prog Y.w) Y.A (exec st Y.env) (fun _ _=>False) (fun e s'=>∃ σ' H1,Same H0 H1/\ThrC Y pins σ' H1 c e s') s
structure XB (Y:Cx) (K:Frag) (M:Fb) (H0:Hp) (b:List Stmt) (h:VE->Option Str):Prop where
 h:∀ pins s σ H ρ c,Inv Y pins σ H s->Rel K M H0 ρ σ H->h ρ=some c->wpAny (model Y.prog Y.w) Y.A (execs b Y.env) (fun _ _=>False) (fun e s'=>∃ σ' H1,Same H0 H1/\ThrC Y pins σ' H1 c e s') s
section
variable {Y:Cx} {K:Frag} {M:Fb} {H0:Hp} {e:Expr} {es:List Expr} {st:Stmt} {Zaa a b:List Stmt} {h h1 h2:VE->Option Str} {g:VE->Res} {pos p np cpos:Pos} {fa:VE->Option (List Sl)} {x:Str}
theorem XT.s (z:XT Y K M H0 st h):XS Y K M H0 st h:=⟨fun pins s σ H ρ c I R q=>Qbp (z.h pins s σ H ρ c I R q) (fun _ _ z=>z) fun _ _ z=>⟨σ,H,R.same,z⟩⟩
theorem Zrl (z:XE Y K M H0 e h) (hs:swapsWith e none pos.line Y.env=pure false:=by rfl):XT Y K M H0 (.Expr e pos) h :=
 ⟨fun pins s σ H ρ c I R q=>wpAny_Expr_any (Qbp (z.h pins s σ H ρ c I R q) (fun _ _ z=>z.elim) fun _ _ z=>z) I.quiet hs⟩
theorem ZnD (z:XS Y K M H0 st h):XB Y K M H0 (st::Zaa) h:=⟨fun pins s σ H ρ c I R q=>wpAny_execs_cons (Qbp (z.h pins s σ H ρ c I R q) (fun _ _ z=>z.elim) fun _ _ z=>z)⟩
@[simp] def nxO (r:Res) (h:VE->Option Str):Option Str:=match r with
  | .next ρ=>h ρ
  | _=>none
@[simp] def orX (o:Option Str) (r:Option Str):Option Str:=match o with
  | some c=>some c
  | none=>r
@[simp] def Zpv (t:Option Bool) (a b:Option Str):Option Str:=match t with
  | some true=>a
  | some false=>b
  | none=>none
theorem Zt3 {c:Expr} {t:VE->Option Bool} (nx:NoX Y) (hc:JT Y c (tB' K M H0 t)) (za:XB Y K M H0 a h1) (zb:XB Y K M H0 b h2):XS Y K M H0 (.If c a b pos) (fun ρ=>Zpv (t ρ) (h1 ρ) (h2 ρ)):=⟨fun pins s σ H ρ n I R q=>by
 cases ht:t ρ with
 | none=>rw [ht] at q;cases q
 | some k =>
  rw [ht] at q
  refine wpAny_If (Qbp (hc.h pins s σ H (fun k' H'=>k'=k/\Same H H') I ⟨ρ,k,R,ht,fun H' sm=>⟨rfl,sm⟩⟩) (fun d s1 ⟨H1,I1,e1,sm⟩=>?_) fun e s' z=>(nx e s' z).elim)
  subst e1
  cases d with
  | true=>exact za.h pins s1 σ H1 ρ n I1 (R.st sm) q
  | false=>exact zb.h pins s1 σ H1 ρ n I1 (R.st sm) q⟩
def spX (K:Frag) (F:List Sl->Option Str):Sp:=fun vs H Q E=>∃ N ss c,(∀ a,N a->H a≠none)/\ArgsOk K N H ss vs/\F ss=some c/\∀ D H',nsIn K Qak c=some (some (.ref D))->Same H H'->E (.ref D) none H'
def fnX (np n:Nat) (h:VE->Option Str):List Sl->Option Str:=fun ss=>if ss.length=np then h (ss++QaT (n-np) .no) else none
theorem Zru {F:List Sl->Option Str} {k:Nat} {fn:Addr} {fd:QaH} {ps:List Str} (nx:NoX Y) (hK:Y.K=K) (G:FnOk Y.prog Y.w Y.K Y.mg Y.base (CXv Y.prog Y.w) k fn fd ps (spX K F)) (hr:Room k Y.A) (hg:Gl Y x) (hm:Y.mg x=some (.ref fn)) (hk:keepIn Y.K (.ref fn)=true) (hb:Binds Y.K fd ps [])
  (ha:JA Y (e::es) (tA' K M H0 fa)) (hdb:(x==("__debug__":Str))=false:=by decide) (he:Qas (e::es) Y.env=(false,eval e Y.env)::Qas es Y.env:=by exact ZaM (fun _ _ z=>nomatch z)) (hpl:(backTo pos (Qas es Y.env)).any (·.1)=false:=by rfl) :
  XE Y K M H0 (.Call (.Name x p) (e::es) [] pos) (fun ρ=>(fa ρ).bind F):=⟨fun pins s σ H ρ c I R q=>by
 cases hf:fa ρ with
 | none=>rw [hf] at q;cases q
 | some ss =>
  rw [hf] at q
  refine Qb8 (ZeW I hg hm ?_ hdb)
  refine callWith_K (h₀:=Y.base) I.ok.mod.kin hk (Qbp (ha.h pos pins s σ H (fun vs H1=>Same H H1/\ArgsOk K (Nf M ρ σ) H1 ss vs) I ⟨ρ,ss,R,hf,fun vs H1 sm h1=>⟨sm,h1⟩⟩) (fun us s1 ⟨vs,H1,I1,r,sm,h1⟩=>⟨I1.kIn,?_⟩) fun e s' z=>(nx e s' z).elim) he hpl
  have sp:spX K F vs H1 (fun _ _=>False) (fun v _ H'=>∃ D,v=.ref D/\nsIn K Qak c=some (some (.ref D))/\Same H1 H'):=⟨Nf M ρ σ,ss,c,(R.st sm).nh,h1,q,fun D H' e1 e2=>⟨D,rfl,e1,e2⟩⟩
  have hl:(us++[]).length=ps.length:=by rw [Qa9,<- r.length];exact G.len _ _ _ _ sp
  have bd:=hb s1 us I1.kIn hl
  rw [Qa9] at bd
  refine wpAny_call (codeAny_mono (G.run Y.A Y.stack s1 H1 ⟨us,[]⟩ us vs _ _ hr I1.env0 bd r sp) fun r s' hq=>?_)
  cases r with
  | error v =>
   obtain ⟨a,C,H',e1,os,ba,fl,D,e2,e3,e4⟩:=hq
   cases e2
   exact ⟨C,by rw [hK];exact e3,a,H1,H',s1,e1,I1,sm,os,ba,fl⟩
  | ok f =>
   cases f with
   | ret u=>obtain ⟨_,_,_,_,_,_,_,z⟩:=hq;exact z.elim
   | next=>exact hq.elim
   | brk=>exact hq.elim
   | cont=>exact hq.elim⟩
structure XMk (K:Frag) (D:Addr):Prop where
 ex:∃ nm q N bs bm hdct sn sub ab col dd k0 k1 k2 k3 k5,K.lookup D=some (excClassObj nm q D N bs bm hdct sn sub ab col dd k0 k1 k2 k3 k5 "ValueError.__new__")/\tailIn K [.type "ValueError",.type "Exception",.type "BaseException",.type "object"] bm=true/\nsOkIn K N=true/\nsIn K N "__init__"=some none
@[simp] def Zo7 (o:Option (List Sl)) (x:Str):Option Str:=match o with
  | some [_]=>some x
  | _=>none
theorem Zph {D:Addr} (nx:NoX Y) (hK:Y.K=K) (hc:Y.calm=true) (mk:XMk K D) (hn:nsIn K Qak x=some (some (.ref D))) (hg:Gl Y x) (hm:Y.mg x=some (.ref D)) (ha:JA Y (e::es) (tA' K M H0 fa))
  (hdb:(x==("__debug__":Str))=false:=by decide) (he:Qas (e::es) Y.env=(false,eval e Y.env)::Qas es Y.env:=by exact ZaM (fun _ _ z=>nomatch z)) (hpl:(backTo cpos (Qas es Y.env)).any (·.1)=false:=by rfl) :
  XT Y K M H0 (.Raise (some (.Call (.Name x np) (e::es) [] cpos)) none pos) (fun ρ=>Zo7 (fa ρ) x):=⟨fun pins s σ H ρ c I R q=>by
 subst hK
 cases hf:fa ρ with
 | none=>rw [hf] at q;cases q
 | some ss =>
  rw [hf] at q
  obtain ⟨s0,rfl⟩:∃ s0,ss=[s0]:=by
   cases ss with
   | nil=>cases q
   | cons s0 r=>cases r with
    | nil=>exact ⟨s0,rfl⟩
    | cons _ _=>cases q
  cases q
  obtain ⟨nm,qn,N,bs,bm,hdct,sn,sub,ab,col,dd,k0,k1,k2,k3,k5,l1,l2,l3,l4⟩:=mk.ex
  have F:=PySem.F.excBase_ValueError
  refine wpAny_Raise_call_subU (mN:=Y.base.nsMap N) (nm:=nm) (q:=qn) (N:=N) (bs:=bs) (hdct:=hdct) (sn:=sn) (sub:=sub) (ab:=ab) (col:=col) (dd:=dd) (k0:=k0) (k1:=k1) (k2:=k2) (k3:=k3) (k5:=k5) F F.hasB F ((tail_of_in I.kIn l2).hasType F.hasBase) (I.ok.hd hc) (by rw [he];exact hpl) (nsMap_none_of_in I.ok.mod.kin l3 l4) (ZeW I hg hm ⟨rfl,?_⟩ hdb)
  rw [he]
  refine Calls.evalArgs_plain (Qbp (he ▸ ha.h cpos pins s σ H (fun vs H1=>Same H H1/\ArgsOk Y.K (Nf M ρ σ) H1 [s0] vs) I ⟨ρ,[s0],R,hf,fun vs H1 sm h1=>⟨sm,h1⟩⟩) (fun us s1 ⟨vs,H1,I1,r,sm,h1⟩=>?_) fun e s' z=>(nx e s' z).elim)
  have ul:us.length=1:=by rw [<- r.length,<- h1.length];rfl
  refine ⟨rfl,?_,I1.kIn _ _ l1,?_,tail_of_in I1.kIn l2,fun h' v m=>⟨D,hn,(Zo1 I1 m).from sm⟩⟩
  ·show us.length<=Qaj
   rw [ul];exact QcI (Zog (by decide))
  ·exact (Heap.Ns.of_isNs (isNs_of_in I.ok.mod.kin l3)).keeps I1.bk⟩
theorem ZsT {P:Qav} {w:World} {mg:Str->Option Value} {base:Heap} {x qual:Str} {st:Stmt} {f:Addr} {fd:QaH} {N ps:List Str} {k:Nat} {h:VE->Option Str} (F:Fun K x qual st f fd) (S:ZD N ps (Zg st)) (hnp:ps.length<=N.length)
  (hb:∀ (cdv:Value) (A:Around) (outer:List Env) (s:Shared) (H:Hp) (E:XK) (M:Fb) (H0:Hp),Room k (A.deeper (envOfC qual (Zg st) s.heap.objs.size f cdv)) ->
   XB (ZeH CX0 P w K mg base N qual (Zg st) f cdv A outer s H E).nox K M H0 (ZB st) h):FnOk P w K mg base (CXv P w) (k+1) f fd ps (spX K (fnX ps.length N.length h)):=by
 obtain ⟨oc,od,kV,doc,pm,an,cdv,ct,osl,rfl,lk,hcd⟩:=F.ex
 have len:∀ vs H Q E,spX K (fnX ps.length N.length h) vs H Q E->vs.length=ps.length:=fun vs H Q E z=>by
  obtain ⟨N',ss,c,nh,ha,hF,q⟩:=z
  unfold fnX at hF
  split at hF
  ·next hl=>rw [<- ha.length];exact hl
  ·cases hF
 refine Zqq lk hcd S len fun A outer s H vs Q E hr z=>?_
 obtain ⟨N',ss,c,nh,ha,hF,q⟩:=z
 unfold fnX at hF
 split at hF
 ·next hl =>
  have hs:Zcq N vs=vs.map some++QaT (N.length-ps.length) none:=by unfold Zcq;rw [<- ha.length,hl]
  refine ⟨fun D σ H1=>D={ nx:=fun _ H'=>Q .non H',rt:=Q }/\H1=H/\Rel K N' H (ss++QaT (N.length-ps.length) .no) σ H,fun pins s' σ H1 D I hz=>?_,rfl,rfl,by rw [hs];exact ZiL nh ha _⟩
  obtain ⟨_,rfl,R⟩:=hz
  refine Qbp ((hb cdv A outer s H1 E N' H1 hr).h pins s' σ H1 _ c (I.wish _) R hF) (fun _ _ z=>z.elim) fun v s'' z=>?_
  obtain ⟨σ',H2,sm,D',e1,t⟩:=z
  exact ZoN (Y:=(ZeH CX0 P w K mg base N qual (Zg st) f cdv A outer s H1 E).nox) rfl rfl rfl sm t fun H' e2=>q D' H' e1 e2
 ·cases hF
theorem Rel.more {ρ:VE} {σ:St} {H:Hp} {y C:Addr} (R:Rel K M H0 ρ σ H) (hy:H y=some (.ext (XAt y C))):Rel K M (upd H0 y (.ext (XAt y C))) ρ σ H where
 len:=R.len
 same:=fun b o z=>by
  by_cases e:b=y
  ·rw [e,Zad] at z;rw [e,hy,z]
  ·rw [Zt e] at z;exact R.same b o z
 mh:=R.mh
 slot:=fun j sl z=>by
  have q:=R.slot j sl z
  cases sl with
  | no=>trivial
  | val d=>exact q
  | lent xs fl=>exact q
  | exc c=>exact q
  | own xs fl =>
   obtain ⟨b,vs,e1,h1,h2,h3,h4⟩:=q
   refine ⟨b,vs,e1,?_,h2,h3,h4⟩
   rw [Zt (fun e=>by rw [e,hy] at h3;cases fl<;>cases h3)];exact h1
 inj:=R.inj
@[simp] def Zr9:Res->Res
  | .ret r=>.ret r
  | _=>.fail
@[simp] def Zm6 (cs:List Str) (i:Nat) (o:Option Str) (r:Res) (g:VE->Res) (ρ:VE):Res:=match o with
  | none=>r
  | some c=>if cs.contains c=true then Zr9 (g (ρ.set i (.exc c))) else .fail
theorem Zs1 {gs:VE->Res} {hx:VE->Option Str} {G:Addr} {cx n:Str} {b0:Stmt} {suite:List Stmt} {hp:Pos} (i:Nat) (cs:List Str) (nx:NoX Y) (hK:Y.K=K) (ys:Y.stack=Y.env::Y.outer) (yf:Y.env.frame=some Y.env.locals) (zx:XT Y K M H0 st hx) (zb:JS Y st (tS K M H0 g))
  (hm:Y.mg cx=some (.ref G)) (hg:Gl Y cx) (hc:∀ c D,cs.contains c=true->nsIn K Qak c=some (some (.ref D))->exmOne K (.ref D) (.ref G)=some true) (hN:Y.N.Nodup) (hi:Y.N[i]?=some n) (hl:Y.env.scope.names.lookup n=some .local)
  (zs:∀ (x:Addr) (H1:Hp),(∃ C,H1 x=some (.ext (XAt x C)))->JB (Y.hand x) (b0::suite) (tS K M H1 gs)) (hd:(cx==("__debug__":Str))=false:=by decide) :
  JS Y (.Try [st] [.ExceptHandler (some (.Name cx np)) (some n) (b0::suite) hp] [] [] pos) (tS K M H0 fun ρ=>Zm6 cs i (hx ρ) (g ρ) gs ρ):=⟨fun pins s σ H D I ⟨ρ,R,q⟩=>by
 subst hK
 try dsimp only at q
 cases ho:hx ρ with
 | none =>
  rw [ho] at q
  refine wpAny_Try_except (wpAny_execs_cons (Qbp (zb.h pins s σ H D I ⟨ρ,R,q⟩) (fun f s1 z=>?_) fun e s' z=>(nx e s' z).elim))
  cases f with
  | next=>exact wpAny_execs_nil (wpAny_execs_nil z)
  | ret v=>exact z
  | brk=>exact z
  | cont=>exact z
 | some c =>
  rw [ho] at q
  simp only [Zm6] at q
  split at q
  ·next hcc =>
   refine wpAny_Try_except (wpAny_execs_cons (Qbp (zx.h pins s σ H ρ c I R ho) (fun f s1 z=>z.elim) fun v s1 z=>?_))
   obtain ⟨D',e1,t⟩:=z
   cases hg':gs (ρ.set i (.exc c)) with
   | ret r =>
    rw [hg'] at q
    refine Zop (Q':=D.rt) ys yf t hm hg (hc c D' hcc e1) hN hi hl (fun x H3 s3 hx0 sm I3 hx3=>?_) (fun u vv σ' H' s5 I5 rv qq=>⟨vv,σ',H',I5,rv,qq⟩) hd
    have S:Step M (Nf M ρ σ) (Nf M (ρ.set i (.exc c)) (σ.set i (some (.ref x)))) H H3:=⟨fun a o e _=>sm a o e,fun b hb=>by
     rcases Ze7 R.len hb with q | ⟨xs,_,e,_⟩
     ·exact .inl q
     ·cases e⟩
    have R3:Rel Y.K M H0 (ρ.set i (.exc c)) (σ.set i (some (.ref x))) H3:=R.put S (R.same.trans sm) (fun j a vs xs fl _ _ _ e=>sm _ _ e) (fun _=>⟨x,D',rfl,e1,hx3⟩) (fun xs fl a j ys fl' e=>nomatch e)
    have n0:=R.same.free hx0
    refine Qbp ((zs x _ ⟨D',Zad⟩).h pins s3 _ H3 { nx:=fun _ _=>False,rt:=D.rt } I3 ⟨_,R3.more hx3,?_⟩) (fun f s4 z=>?_) fun e s' z=>(nx e s' z).elim
    ·rw [hg']
     refine fun v H' s1 rv=>q v H' (fun b o z=>s1 b o (by rw [Zt (Z1 z n0)];exact z)) ?_
     cases r with
     | val d=>exact rv
     | own xs fl =>
      obtain ⟨b,vs,e1,z1,z2⟩:=rv
      refine ⟨b,vs,e1,?_,z2⟩
      by_cases e:b=x
      ·rw [e];exact n0
      ·rw [Zt e] at z1;exact z1
    ·cases f with
     | ret u=>obtain ⟨vv,σ',H',I',rv,qq⟩:=z;exact ⟨u,vv,σ',H',rfl,I',rv,qq⟩
     | next=>obtain ⟨_,_,_,z⟩:=z;exact z.elim
     | brk=>obtain ⟨_,_,_,z⟩:=z;exact z.elim
     | cont=>obtain ⟨_,_,_,z⟩:=z;exact z.elim
   | next _=>rw [hg'] at q;exact q.elim
   | fail=>rw [hg'] at q;exact q.elim
   | brk _=>rw [hg'] at q;exact q.elim
   | cont _=>rw [hg'] at q;exact q.elim
  ·exact q.elim⟩
end
end L2
namespace L2
open PySem PySem.Spec PyProof.Rows PySem.W
section
variable {prog:Qav} {w:World} {A:Around} {E:Value->Shared->Prop} {s:Shared} {x C:Addr}
theorem XAt.at {h h':Heap} (p:XAt x C h) (k:∀ o,h.get? x=some o->h'.get? x=some o):XAt x C h':=let ⟨o,vs,h1,r⟩:=p;⟨o,vs,k o h1,r⟩
end
section
variable {Y:Cx} {K:Frag} {M:Fb} {H0:Hp} {x:Addr}
def ZuG (K:Frag):List V->Hp->VK->Prop:=fun xs H Q=>∃ a C cv c b,xs=[.ref a,cv]/\(∀ u,RelV cv u->u=c)/\H a=some (.ext (XAt a C))/\Zce K C/\kitOne K (.ref C) c=some b/\Q (.bl b) H
theorem Zpz:CallR Y (.builtin "isinstance") (ZuG Y.K):=by
 intro pins s σ H xs us Q I r h
 obtain ⟨a,C,cv,c,b,rfl,hc,hx,F,e,q⟩:=h
 obtain ⟨u,v,rfl,ru,rv⟩:=ZhQ r
 cases ru
 cases hc v rv
 exact kia_one (Zue F) I.kIn (show ObjOk Y.prog Y.w H s.heap a (.ext (XAt a C)) from I.hok a _ hx).1 e (fun z=>nomatch z) fun tk=>⟨.bl b,H,I.tok _,rfl,q⟩
@[simp] def isX (i:Nat) (cs:List Str) (f:Str->Bool) (ρ:VE):Option D:=match ρ[i]? with
  | some (.exc c)=>if cs.contains c=true then some (.bl (f c)) else none
  | _=>none
theorem Zlg {te:Expr} {cv:V} {cu:Value} {n m:Str} {np p pos:Pos} (i:Nat) (cs:List Str) (f:Str->Bool) (hK:Y.K=K) (hN:Y.N[i]?=some n) (hvs:Vis Y.env.scope n) (ht:PE Y te (tC cv)) (hu:∀ u,RelV cv u->u=cu)
  (hc:∀ c C,cs.contains c=true->nsIn K Qak c=some (some (.ref C))->Zce K C/\kitOne K (.ref C) cu=some (f c)) (hg:Gl Y m) (hm:Y.mg m=none) (hv:Qbe m=some (.builtin "isinstance"))
  (hn:m≠"__name__":=by decide) (hdb:(m==("__debug__":Str))=false:=by decide) (hd:(n==("__debug__":Str))=false:=by decide) (hcd:(n==("__classdict__":Str))=false:=by decide)
  (he:Qas [.Name n np,te] Y.env=(false,eval (.Name n np) Y.env)::Qas [te] Y.env:=by exact ZaM (fun _ _ z=>nomatch z)) (he2:Qas [te] Y.env=(false,eval te Y.env)::Qas [] Y.env:=by exact ZaM (fun _ _ z=>nomatch z)) (hpl:(backTo pos (Qas [te] Y.env)).any (·.1)=false:=by rfl) :
  JE Y (.Call (.Name m p) [.Name n np,te] [] pos) (tD K M H0 (isX i cs f)):=⟨(Zhg Zpz hg hm hv (ZaC (Zcn hN hvs hd hcd) (ZaC ht pa_nil he2) he) hn hdb he hpl).mono fun σ H Q h=>by
 subst hK
 obtain ⟨ρ,d,R,z,q⟩:=h
 unfold isX at z
 split at z
 ·next c hs =>
  split at z
  ·next hcc =>
   cases z
   obtain ⟨a,C,e1,e2,e3⟩:=R.slot i _ hs
   obtain ⟨F,kk⟩:=hc c C hcc e2
   exact ⟨.ref a,join_some e1,a,C,cv,cu,f c,rfl,hu,e3,F,kk,q _ H (Same.refl H) (by simp only [Den])⟩
  ·cases z
 ·cases z⟩
end
end L2
namespace L2
open PySem PySem.Spec PyProof.Rows PySem.W
theorem Znh {X:Cx}:NoX X.nox:=fun _ _ z=>z
abbrev bmV:List Value:=[.type "ValueError",.type "Exception",.type "BaseException",.type "object"]
def ZcB (t c:Str):Bool:=c==t||t=="CubeError"||t=="ValueError"
section
variable {K:Frag} {C D G:Addr} {b:Bool} {cd:ClassData}
theorem Zun {nm q:Str} {N:Addr} {bs bm:List Value} {hdct:Bool} {sn:List Str} {sub:List Value} {ab:Bool} {col:Option Bool} {dd:Option Addr} {k0 k1 k2 k3 k5:Option Value}
  (l:K.lookup D=some (excClassObj nm q D N bs bm hdct sn sub ab col dd k0 k1 k2 k3 k5 "ValueError.__new__")) (e:excIn K D bmV "ValueError.__new__"=true):XMk K D:=by
 unfold excIn at e
 rw [l] at e
 simp only [QaW,beq_iff_eq,Bool.not_eq_true'] at e
 exact ⟨nm,q,N,bs,bm,hdct,sn,sub,ab,col,dd,k0,k1,k2,k3,k5,l,e.1.1.2,e.1.2,e.2⟩
theorem Zqm {t:Value} (z:clsIn K G=some cd) (y:typeIn K (.ref G)=some (.type "type")) (s:subIn K t (.ref G)=some b):kitCls K t (.ref G)=some b:=by
 unfold kitCls
 dsimp only
 rw [if_pos (by rw [z,y];rfl)];exact s
theorem ZrV (ne:(QaR C==QaR G)=false) (z:clsIn K G=some cd) (y:typeIn K (.ref G)=some (.type "type")) (s:subIn K (.ref C) (.ref G)=some b):kitOne K (.ref C) (.ref G)=some b:=by
 unfold kitOne
 rw [if_neg (fun q=>by rw [ne] at q;cases q)];exact Zqm z y s
theorem ZpP:kitOne K (.ref C) (.ref C)=some true:=by
 unfold kitOne
 rw [if_pos (beq_self_eq_true _)]
theorem ZtN (s:subIn K (.ref C) (.type "ValueError")=some b):kitOne K (.ref C) (.type "ValueError")=some b:=by
 unfold kitOne
 rw [if_neg (fun q=>by cases (show (QaR C=Value.type "ValueError") from beq_iff_eq.mp q))]
 unfold kitCls
 dsimp only
 rw [if_pos (by decide +kernel)];exact s
theorem ZsW (x:subIn K (.ref G) (.type "BaseException")=some true) (z:clsIn K G=some cd) (y:typeIn K (.ref G)=some (.type "type")) (s:subIn K (.ref C) (.ref G)=some true):exmOne K (.ref C) (.ref G)=some true:=by
 unfold exmOne
 rw [if_pos (by rw [x];rfl)];exact Zqm z y s
end
section
variable {Y:Cx} {K:Frag} {M:Fb} {H0:Hp} {b:List Stmt} {h h':VE->Option Str}
theorem ZrF (z:XB Y K M H0 b h) (e:h=h'):XB Y K M H0 b h':=e ▸ z
theorem Zrv:XB Y K M H0 b (fun _=>none):=⟨fun _ _ _ _ _ _ _ _ q=>nomatch q⟩
end
end L2
namespace L2
open PySem PySem.Spec PyProof.Rows
section
variable {X:Cx} {K:Qab} {M:Fb} {H0:Hp} {pos:Pos} {st:Stmt}
@[simp] def ZkX (i:Nat) (ρ:VE):Res:=match rdO ρ i with
  | some _=>.next (ρ.set i (.own []))
  | _=>.fail
theorem Znr {i:Nat} {x:Str} {vpos apos cpos:Pos} (hN:X.N[i]?=some x:=by rfl) (hv:Vis X.env.scope x:=by first | exact Or.inl rfl | exact Or.inr (Or.inl rfl) | exact Or.inr (Or.inr rfl)) (hd:(x==("__debug__":Str))=false:=by decide) (hcd:(x==("__classdict__":Str))=false:=by decide)
  (hs:swapsWith (.Call (.Attribute (.Name x vpos) "clear" apos) [] [] cpos) none pos.line X.env=pure false:=by rfl)
  (hbase:QcZ (.Name x vpos) "clear" X.env (eval (.Name x vpos) X.env)=eval (.Name x vpos) X.env:=by rfl) (hline:(apos.endLine==cpos.line)=true:=by rfl) :
  JS X (.Expr (.Call (.Attribute (.Name x vpos) "clear" apos) [] [] cpos) pos) (tS K M H0 fun ρ=>ZkX i ρ) :=
 ⟨(Zic (ZtE PySem.F.plainAttrs_list PySem.F.slot_list_clear PySem.F.type_list_clear Zpp (Zcn hN hv hd hcd) hbase hline) hs).mono fun D' σ H ⟨ρ,R,q⟩=>by
   try dsimp only at q
   cases hr:rdO ρ i with
   | none=>simp only [hr,ZkX] at q;exact QaJ q
   | some xs =>
    simp only [hr,ZkX] at q
    have hi:=Zfl hr
    obtain ⟨a,vs,e1,z1,z2,z3,z4⟩:=R.slot i _ hi
    have ha:=join_some e1
    obtain ⟨R2,S2⟩:=R.chg (ys:=[]) (ws:=[]) hi ha (by simp only [DenL])
    exact ⟨.ref a,ha,.inl ⟨rfl,vs,.inl (.inl z3)⟩,a,vs,rfl,rfl,z3,q _ _ R2 S2⟩⟩
@[simp] def Zwc (c:Bool) (a b:Res):Res:=if c=true then a else b
def ZtP:D->D->Option D
 | .bl i,.bl j=>some (.bl (!decide (i=j)))
 | _,_=>none
@[simp] theorem Zvg (i j:Bool):ZtP (.bl i) (.bl j)=some (.bl (!decide (i=j))):=rfl
@[simp] def ZvZ (i:Nat) (ρ:VE):Bool:=match ρ[i]? with
  | some (.own _ false)=>true
  | _=>false
end
end L2
namespace L2
open PySem PySem.Spec PyProof.Rows
def Zni (i j:Int):Prop:=0<j/\j<2^100
instance (i j:Int):Decidable (Zni i j):=by unfold Zni;exact inferInstance
section
variable {X:Cx} {K:Qab} {M:Fb} {H0:Hp} {a b:Expr} {f g:VE->Option D} {pos:Pos}
@[simp] def Zv1:D->D->Option D:=i2 fun i j=>if Zni i j then some (.int (i / j)) else none
end
end L2
namespace L2
open PySem PySem.Spec PyProof.Rows
def ZuZ (K:Qab):V->List V->Hp->VK->Prop:=fun x xs H Q=>∃ a tr k y z,x=.ref a/\xs=[y,z]/\IsDc K H a tr/\Zfy k tr/\ZbU K H k y/\(∀ v,Zbb tr k=some v->Q v H)/\(Zbb tr k=none->Q z H)
section
variable {X:Cx}
theorem Ztz (hu:X.A.units+64<cLine):MtR X "dict.get" (ZuZ X.K):=by
 intro pins s σ H x xs v us Q I rx rs h
 obtain ⟨a,tr,k,y,z,rfl,rfl,hd,hk,ky,q1,q2⟩:=h
 cases rx
 obtain ⟨u1,u2,rfl,ry,rz⟩:=rs.two
 cases k with
 | «at» b =>
  cases ky
  obtain ⟨zz,hs,nd,us,rel,dd⟩:=Zgz I hd hk
  have h1:=rel.val b
  refine call_meetsIn PySem.F.slot_dict_get dd.typeIs PySem.F.entry_dict_get (PySem.F.args_dict_get_3 _ _ _) (meets_dict_get_default (ZY X.prog X.w) a (Zdm ry) hs u2) ⟨_,dd.mapOf,?_⟩
  cases hv:Zbb tr (.at b) with
  | none =>
   cases hw:valueAt us b with
   | none=>exact ⟨z,H,I.tok _,rz,q2 hv⟩
   | some w=>rw [hv,hw] at h1;exact h1.elim
  | some w =>
   cases hw:valueAt us b with
   | none=>rw [hv,hw] at h1;exact h1.elim
   | some w'=>rw [hv,hw] at h1;exact ⟨w,H,I.tok _,h1,q1 w hv⟩
 | tup l =>
  obtain ⟨p,ep,sq⟩:=ky
  subst ep
  cases (show u1=QaR p from ry)
  obtain ⟨zz,hs,nd,us,rel,dd⟩:=Zff I hd hk
  have h1:=rel.val l
  refine call_meetsIn PySem.F.slot_dict_get dd.typeIs PySem.F.entry_dict_get (PySem.F.args_dict_get_3 _ _ _) (meetsH_dict_get_default (tupleKind (ZY X.prog X.w)) a p hs u2) ⟨QcB (by omega),l,us,ZdR I sq,dd,?_⟩
  cases hv:Zbb tr (.tup l) with
  | none =>
   cases hw:atKey us l with
   | none=>exact ⟨z,H,I.tok _,rz,q2 hv⟩
   | some w=>rw [hv,hw] at h1;exact h1.elim
  | some w =>
   cases hw:atKey us l with
   | none=>rw [hv,hw] at h1;exact h1.elim
   | some w'=>rw [hv,hw] at h1;exact ⟨w,H,I.tok _,h1,q1 w hv⟩
def dgF (i:Nat) (fk fv:VE->Option D):VE->Option D:=fun ρ=>match rdG ρ i,fk ρ,fv ρ with
 | some xs,some y,some d=>match unf xs,okK y with
  | some kvs,some k=>if Zbv k kvs then some ((ZL kvs k).getD d) else none
  | _,_=>none
 | _,_,_=>none
variable {K:Qab} {M:Fb} {H0:Hp} {ek ev:Expr} {fk fv:VE->Option D} {pos:Pos}
theorem Zoz {i:Nat} {x:Str} {vpos apos cpos:Pos} (hu:X.A.units+64<cLine) (hk:JE X ek (tP X.K M H0 fk)) (hv':JE X ev (tD X.K M H0 fv)) (hN:X.N[i]?=some x:=by rfl) (hv:Vis X.env.scope x:=by first | exact Or.inl rfl | exact Or.inr (Or.inl rfl) | exact Or.inr (Or.inr rfl)) (hd:(x==("__debug__":Str))=false:=by decide) (hcd:(x==("__classdict__":Str))=false:=by decide)
  (hbase:QcZ (.Name x vpos) "get" X.env (eval (.Name x vpos) X.env)=eval (.Name x vpos) X.env:=by rfl)
  (hfew:((backTo cpos (Qas [ek,ev] X.env)).all (fun x=>!x.1)&&(backToKw cpos (keywordEach [] X.env)).all (fun x=>x.1.isSome)
   && decide ([ek,ev].length+([]:List Keyword).length+(if ([]:List Keyword).isEmpty then 0 else 1)<30))=true:=by rfl)
  (hline:(apos.endLine==cpos.line)=true:=by rfl) (hst:Qas [ek,ev] X.env=(false,eval ek X.env)::Qas [ev] X.env:=by exact ZaM (fun _ _ z=>nomatch z)) (hst2:Qas [ev] X.env=(false,eval ev X.env)::Qas [] X.env:=by exact ZaM (fun _ _ z=>nomatch z)) (hpl:(backTo cpos (Qas [ev] X.env)).any (·.1)=false:=by rfl) :
  JE X (.Call (.Attribute (.Name x vpos) "get" apos) [ek,ev] [] cpos) (tD X.K M H0 (dgF i fk fv)) :=
 ⟨(ZmD PySem.F.plainAttrs_dict PySem.F.slot_dict_get PySem.F.type_dict_get (Ztz hu) (Zcn hN hv hd hcd) (ZaC hk.h (ZaC hv'.h pa_nil hst2) hst) hbase hfew hline hst hpl).mono fun σ H Q h=>by
   obtain ⟨ρ,d,R,ex,q⟩:=h
   unfold dgF at ex
   split at ex
   ·next xs y dv hr hfk hfv =>
    split at ex
    ·next kvs k hun hkk =>
     split at ex
     ·next hh =>
      cases ex
      have hi':=Zj0 hr
      have exs:=Zc4 hun
      subst exs
      obtain ⟨a,vs,e1,z1,z2,z3,z4⟩:=R.slot i _ hi'
      have ha:=join_some e1
      have tv:tyV X.K "dict" (.ref a) H:=.inr (.inr (.inl ⟨rfl,.inr (.inr ⟨_,_,.inl z3⟩)⟩))
      refine ⟨.ref a,ha,tv,ρ,y,R,hfk,fun w H1 s1 hw=>⟨ρ,dv,R.st s1,hfv,fun v H2 s2 hv=>?_⟩⟩
      have s:=s1.trans s2
      obtain ⟨tr,e',pd⟩:=Zjv (z4.same s)
      subst e'
      rw [ZdS hkk] at hw
      have hw2:=Zec (hw.same s2)
      have hval:=pd.val k
      refine ⟨a,tr,k,w,v,rfl,rfl,⟨.inl (show H2 a=some (dcO tr) by rw [<- ZgM pd];exact s _ _ z3),pd.keys⟩,pd.hom hh,ZdQ hw2,fun u hu'=>?_,fun hn=>?_⟩
      ·rw [hu'] at hval
       cases hvl:ZL kvs k with
       | none=>rw [hvl] at hval;exact hval.elim
       | some d0 =>
        rw [hvl] at hval q
        exact q u H2 s hval
      ·rw [hn] at hval
       cases hvl:ZL kvs k with
       | some d0=>rw [hvl] at hval;exact hval.elim
       | none =>
        rw [hvl] at q
        exact q v H2 s hv
     ·cases ex
    ·cases ex
   ·cases ex⟩
end
end L2
namespace L2
open PySem PySem.Spec PyProof.Rows
abbrev Zab (h:Heap) (T:Addr) (a b c:Value):Prop:=h.get? T=some { cls:=.type "tuple",data:=.seq #[a,b,c] }
section
variable {prog:Qav} {w:World} {A:Around} {E:Value->Shared->Prop} {s:Shared}
theorem Zd5 {T:Addr} {a b c x:Value} {k:Nat} {Q:Unit->Shared->Prop} (hT:Zab s.heap T a b c)
  (h:∀ h',h'.get? T=some { cls:=.type "tuple",data:=.seq ((#[a,b,c]:Array Value).setIfInBounds k x) }->QaX T s.heap h'->Q () { s with heap:=h' }) :
  wpAny (model prog w) A (updateSeq T (·.setIfInBounds k x)) Q E s:=by
 refine wpAny_updateSeq hT rfl (h _ ?_ (Qcv ..))
 rw [Qcf _ hT rfl]
 simp [Qck]
theorem Z9 {i:Addr} {f:List Addr} {n k:Nat} {is:Nat->Value->Prop} {st:Nat->Heap->Prop} (S:Za0 prog w i f n is st) {h h':Heap} (q:st k h) {c:Addr} (hc:i≠c) (hf:∀ x∈f,x≠c) (sb:QaX c h h'):st k h' :=
 S.frame k h h' q fun x hx o e=>sb.extBut x o (by rcases hx with rfl | hx;exact hc;exact hf x hx) e
structure ZA3 (z tin tout ia ib ic:Addr) (fa fb fc:List Addr):Prop where
 z1:tin≠z
 z2:tout≠z
 z3:ia≠z
 z4:ib≠z
 z5:ic≠z
 a1:tout≠ia
 a2:tout≠ib
 a3:tout≠ic
 b1:ia≠ib
 b2:ia≠ic
 b3:ib≠ic
 fA:∀ b∈fa,b≠z/\b≠tout/\b≠ib/\b≠ic
 fB:∀ b∈fb,b≠z/\b≠tout/\b≠ia/\b≠ic
 fC:∀ b∈fc,b≠z/\b≠tout/\b≠ia/\b≠ib
variable {z tin tout ia ib ic:Addr} {fa fb fc:List Addr} {n m l k:Nat} {isA isB isC:Nat->Value->Prop} {sa sb sc:Nat->Heap->Prop} {a b c:Value}
theorem ZoX {Q:Option Value->Shared->Prop} (D:ZA3 z tin tout ia ib ic fa fb fc) (SA:Za0 prog w ia fa n isA sa) (SB:Za0 prog w ib fb m isB sb) (SC:Za0 prog w ic fc l isC sc)
  (hz:IsZip s.heap z tin tout .none) (hi:Zab s.heap tin (.ref ia) (.ref ib) (.ref ic)) (ho:Zab s.heap tout a b c) (ha:sa k s.heap) (hb:sb k s.heap) (hc:sc k s.heap) (kn:k<n) (km:k<m) (kl:k<l)
  (q:∀ x y v h',isA k x->isB k y->isC k v->IsZip h' z tin tout (rawInt s.heap.objs.size)->Zab h' tout x y v->sa (k+1) h'->sb (k+1) h'->sc (k+1) h'->Zab h' s.heap.objs.size x y v->h'.objs.size=s.heap.objs.size+1 ->
   (∀ c o,c≠z->c≠tout->c≠ia->c≠ib->c≠ic->s.heap.get? c=some o->h'.get? c=some o)->Q (some (.ref s.heap.objs.size)) { s with heap:=h' }) :
  wpAny (model prog w) A (pyNext (.ref z)) Q E s:=by
 have ty:s.TypeIs (.ref z) "zip":=⟨_,hz,rfl⟩
 unfold pyNext
 refine Qaa (Qb1 (QaU (name:=QaY "__next__") ty Qbq (Qa4 Qbq ty QcE ?_ (Qcx _))))
 show wpAny _ _ (field (.ref z) 2 >>= _) _ _ _
 refine Qaa (QaM hz rfl (x:=.bool false) rfl ?_)
 show wpAny _ _ (field (.ref z) 3 >>= _) _ _ _
 refine Qaa (QaM hz rfl (x:=.ref tin) rfl ?_)
 refine Qaa (Qa5 hi rfl ?_)
 show wpAny _ _ (QaO (.ref z) >>= _) _ _ _
 refine Qaa ?_
 unfold QaO
 refine Qaa (QaM hz rfl (x:=.none) rfl (Qae ?_))
 rw [if_pos rfl]
 refine Qaa (Qb6 ?_)
 refine Qaa (QaM hz rfl (x:=.ref tout) rfl ?_)
 refine Qaa (QaN hz (by simp) fun g1 z1 b1=>?_)
 have z1:IsZip g1 z tin tout .ellipsis:=z1
 have fA1:=fun x hx=>(D.fA x hx).1
 have fA2:=fun x hx=>(D.fA x hx).2.1
 have fA3:=fun x hx=>(D.fA x hx).2.2.1
 have fA4:=fun x hx=>(D.fA x hx).2.2.2
 have fB1:=fun x hx=>(D.fB x hx).1
 have fB2:=fun x hx=>(D.fB x hx).2.1
 have fB3:=fun x hx=>(D.fB x hx).2.2.1
 have fB4:=fun x hx=>(D.fB x hx).2.2.2
 have fC1:=fun x hx=>(D.fC x hx).1
 have fC2:=fun x hx=>(D.fC x hx).2.1
 have fC3:=fun x hx=>(D.fC x hx).2.2.1
 have fC4:=fun x hx=>(D.fC x hx).2.2.2
 refine Qaa ?_
 simp only [List.zipIdx_nil,List.zipIdx_cons,QcO,Qcd]
 refine Qaa (Qaa (QbM ?_))
 show wpAny _ _ (QaB (.ref ia) >>= _) _ _ _
 refine Qaa (SA.item _ _ _ k _ kn (Z9 SA ha D.z3 fA1 b1) fun x g2 hx a2 b2=>Qae ?_)
 have o2:Zab g2 tout a b c:=b2.extBut _ _ D.a1 (b1.extBut _ _ D.z2 ho)
 refine Qaa (Qa5 o2 rfl ?_)
 refine Qaa (Zd5 o2 fun g3 o3 b3=>?_)
 have o3:Zab g3 tout x b c:=o3
 refine Qaa (Qb7 (Qae ?_))
 refine Qaa (Qaa (QbM ?_))
 show wpAny _ _ (QaB (.ref ib) >>= _) _ _ _
 have hb3:sb k g3:=Z9 SB (Z9 SB (Z9 SB hb D.z4 fB1 b1) (QaD D.b1) fB3 b2) (QaD D.a2) fB2 b3
 refine Qaa (SB.item _ _ _ k _ km hb3 fun y g4 hy a4 b4=>Qae ?_)
 have o4:Zab g4 tout x b c:=b4.extBut _ _ D.a2 o3
 refine Qaa (Qa5 o4 rfl ?_)
 refine Qaa (Zd5 o4 fun g5 o5 b5=>?_)
 have o5:Zab g5 tout x y c:=o5
 refine Qaa (Qb7 (Qae ?_))
 refine Qaa (Qaa (QbM ?_))
 show wpAny _ _ (QaB (.ref ic) >>= _) _ _ _
 have hc5:sc k g5:=Z9 SC (Z9 SC (Z9 SC (Z9 SC (Z9 SC hc D.z5 fC1 b1) (QaD D.b2) fC3 b2) (QaD D.a3) fC2 b3) (QaD D.b3) fC4 b4) (QaD D.a3) fC2 b5
 refine Qaa (SC.item _ _ _ k _ kl hc5 fun v g6 hv a6 b6=>Qae ?_)
 have o6:Zab g6 tout x y c:=b6.extBut _ _ D.a3 o5
 refine Qaa (Qa5 o6 rfl ?_)
 refine Qaa (Zd5 o6 fun g7 o7 b7=>?_)
 have o7:Zab g7 tout x y v:=o7
 refine Qaa (Qb7 (Qae (Qae ?_)))
 refine Qaa (Qa5 o7 rfl ?_)
 refine Qaa (wpAny_newTuple ?_)
 have sz:g7.objs.size=s.heap.objs.size:=by rw [b7.1,b6.1,b5.1,b4.1,b3.1,b2.1,b1.1]
 have z7:IsZip g7 z tin tout .ellipsis:=b7.extBut _ _ (QaD D.z2) (b6.extBut _ _ (QaD D.z5) (b5.extBut _ _ (QaD D.z2) (b4.extBut _ _ (QaD D.z4) (b3.extBut _ _ (QaD D.z2) (b2.extBut _ _ (QaD D.z3) z1)))))
 have kp:∀ c o,c≠z->c≠tout->c≠ia->c≠ib->c≠ic->s.heap.get? c=some o->g7.get? c=some o:=fun c o c1 c2 c3 c4 c5 e =>
  b7.extBut _ _ c2 (b6.extBut _ _ c5 (b5.extBut _ _ c2 (b4.extBut _ _ c4 (b3.extBut _ _ c2 (b2.extBut _ _ c3 (b1.extBut _ _ c1 e))))))
 have a7:sa (k+1) g7:=Z9 SA (Z9 SA (Z9 SA (Z9 SA (Z9 SA a2 (QaD D.a1) fA2 b3) D.b1 fA3 b4) (QaD D.a1) fA2 b5) D.b2 fA4 b6) (QaD D.a1) fA2 b7
 have b7':sb (k+1) g7:=Z9 SB (Z9 SB (Z9 SB a4 (QaD D.a2) fB2 b5) D.b3 fB4 b6) (QaD D.a2) fB2 b7
 have c7':sc (k+1) g7:=Z9 SC a6 (QaD D.a3) fC2 b7
 have zlt:z<g7.objs.size:=Qaq z7
 show wpAny _ _ (Qa8 (.ref z) (.ref g7.objs.size) >>= _) _ _ _
 refine Qaa ?_
 unfold Qa8
 have z8:IsZip (g7.push { cls:=.type "tuple",data:=.seq #[x,y,v] }) z tin tout .ellipsis:=Qac _ z7
 refine Qaa (QaN z8 (by simp) fun g9 z9 b9=>?_)
 have z9:IsZip g9 z tin tout (rawInt g7.objs.size):=z9
 refine QaN z9 (by simp) fun gA zA bA=>?_
 have zA:IsZip gA z tin tout (rawInt g7.objs.size):=zA
 have up:∀ c o,c≠z->g7.get? c=some o->gA.get? c=some o:=fun c o c1 e=>bA.extBut _ _ c1 (b9.extBut _ _ c1 (Qac _ e))
 have new:Zab gA g7.objs.size x y v:=bA.extBut _ _ (Qbv zlt) (b9.extBut _ _ (Qbv zlt) (Qao _ rfl))
 have sA:gA.objs.size=g7.objs.size+1:=by rw [bA.1,b9.1,Qba]
 have fin:∀ {i:Addr} {f:List Addr} {n:Nat} {is:Nat->Value->Prop} {st:Nat->Heap->Prop} (S:Za0 prog w i f n is st),i≠z->(∀ x∈f,x≠z)->st (k+1) g7->st (k+1) gA:=fun S hi hf q=>S.frame _ _ _ q fun c hc o e=>up c o (by rcases hc with rfl | hc;exact hi;exact hf c hc) e
 rw [sz] at zA new sA
 refine Qae ⟨_,rfl,Qae ?_⟩
 show Q (some (.ref g7.objs.size)) _
 rw [sz]
 exact q x y v gA hx hy hv zA (up _ _ D.z2 o7) (fin SA D.z3 fA1 a7) (fin SB D.z4 fB1 b7') (fin SC D.z5 fC1 c7') new sA fun c o c1 c2 c3 c4 c5 e=>up c o c1 (kp c o c1 c2 c3 c4 c5 e)
theorem ZpM {Q:Option Value->Shared->Prop} (hh:A.handled=none) (D:ZA3 z tin tout ia ib ic fa fb fc) (SA:Za0 prog w ia fa n isA sa) (SB:Za0 prog w ib fb m isB sb) (SC:Za0 prog w ic fc l isC sc)
  (hz:IsZip s.heap z tin tout .none) (hi:Zab s.heap tin (.ref ia) (.ref ib) (.ref ic)) (ho:Zab s.heap tout a b c) (ha:sa k s.heap) (hb:sb k s.heap) (hc:sc k s.heap) (kn:n<=k\/m<=k\/l<=k)
  (q:∀ h',(∀ c o,c≠z->c≠tout->c≠ia->c≠ib->c≠ic->s.heap.get? c=some o->h'.get? c=some o)->Q none { s with heap:=h' }) :
  wpAny (model prog w) A (pyNext (.ref z)) Q E s:=by
 have ty:s.TypeIs (.ref z) "zip":=⟨_,hz,rfl⟩
 unfold pyNext
 refine Qaa (Qb1 (QaU (name:=QaY "__next__") ty Qbq (Qa4 Qbq ty QcE ?_ (Qcx _))))
 have last:∀ (h':Heap) (e:Addr),(∀ c o,c≠z->c≠tout->c≠ia->c≠ib->c≠ic->s.heap.get? c=some o->h'.get? c=some o)->(∃ o,h'.get? e=some o/\o.cls=.type "StopIteration") ->
   wpAny (model prog w) A (do if (<- isInstance (.ref e) (.type "StopIteration"))=true then pure (none:Option Value) else throw (QaR e)) Q E { s with heap:=h' }:=fun h' e kp ⟨o,e1,c1⟩ =>
  Qaa (wpAny_isInstance (T:="StopIteration") (b:=true) ⟨o,e1,c1⟩ isSubtype_stop (Qae (q h' kp)))
 show wpAny _ _ (field (.ref z) 2 >>= _) _ _ _
 refine Qaa (QaM hz rfl (x:=.bool false) rfl ?_)
 show wpAny _ _ (field (.ref z) 3 >>= _) _ _ _
 refine Qaa (QaM hz rfl (x:=.ref tin) rfl ?_)
 refine Qaa (Qa5 hi rfl ?_)
 show wpAny _ _ (QaO (.ref z) >>= _) _ _ _
 refine Qaa ?_
 unfold QaO
 refine Qaa (QaM hz rfl (x:=.none) rfl (Qae ?_))
 rw [if_pos rfl]
 refine Qaa (Qb6 ?_)
 refine Qaa (QaM hz rfl (x:=.ref tout) rfl ?_)
 refine Qaa (QaN hz (by simp) fun g1 z1 b1=>?_)
 have z1:IsZip g1 z tin tout .ellipsis:=z1
 have fA1:=fun x hx=>(D.fA x hx).1
 have fB1:=fun x hx=>(D.fB x hx).1
 have fB2:=fun x hx=>(D.fB x hx).2.1
 have fB3:=fun x hx=>(D.fB x hx).2.2.1
 have fC1:=fun x hx=>(D.fC x hx).1
 have fC2:=fun x hx=>(D.fC x hx).2.1
 have fC3:=fun x hx=>(D.fC x hx).2.2.1
 have fC4:=fun x hx=>(D.fC x hx).2.2.2
 refine Qaa ?_
 simp only [List.zipIdx_nil,List.zipIdx_cons,QcO,Qcd]
 refine Qaa (Qaa (QbM ?_))
 show wpAny _ _ (QaB (.ref ia) >>= _) _ _ _
 by_cases ka:n<=k
 ·refine Qaa (SA.fin A.in1 _ _ k _ (by first | exact hh | simpa using hh) ka (Z9 SA ha D.z3 fA1 b1) fun g2 e x2 he=>?_)
  obtain ⟨oe,e1,c1⟩:=he
  have z2:IsZip g2 z tin tout .ellipsis:=x2 _ _ (QaD D.z3) z1
  have ez:e≠z:=fun x=>by subst x;rw [z2] at e1;cases e1;simp at c1
  exact QaN z2 (by simp) fun g3 _ b3=>last g3 e (fun c o c1 _ c3 _ _ x=>b3.extBut _ _ c1 (x2 _ _ c3 (b1.extBut _ _ c1 x))) ⟨oe,b3.extBut _ _ ez e1,c1⟩
 ·refine Qaa (SA.item _ _ _ k _ (Nat.lt_of_not_le ka) (Z9 SA ha D.z3 fA1 b1) fun x g2 hx a2 b2=>Qae ?_)
  have o2:Zab g2 tout a b c:=b2.extBut _ _ D.a1 (b1.extBut _ _ D.z2 ho)
  refine Qaa (Qa5 o2 rfl ?_)
  refine Qaa (Zd5 o2 fun g3 o3 b3=>?_)
  have o3:Zab g3 tout x b c:=o3
  refine Qaa (Qb7 (Qae ?_))
  refine Qaa (Qaa (QbM ?_))
  show wpAny _ _ (QaB (.ref ib) >>= _) _ _ _
  have hb3:sb k g3:=Z9 SB (Z9 SB (Z9 SB hb D.z4 fB1 b1) (QaD D.b1) fB3 b2) (QaD D.a2) fB2 b3
  have z3:IsZip g3 z tin tout .ellipsis:=b3.extBut _ _ (QaD D.z2) (b2.extBut _ _ (QaD D.z3) z1)
  by_cases kb:m<=k
  ·refine Qaa (SB.fin A.in1 _ _ k _ (by first | exact hh | simpa using hh) kb hb3 fun g4 e x4 he=>?_)
   obtain ⟨oe,e1,c1⟩:=he
   have z4:IsZip g4 z tin tout .ellipsis:=x4 _ _ (QaD D.z4) z3
   have ez:e≠z:=fun x=>by subst x;rw [z4] at e1;cases e1;simp at c1
   exact QaN z4 (by simp) fun g5 _ b5=>last g5 e (fun c o c1 c2 c3 c4 _ x=>b5.extBut _ _ c1 (x4 _ _ c4 (b3.extBut _ _ c2 (b2.extBut _ _ c3 (b1.extBut _ _ c1 x))))) ⟨oe,b5.extBut _ _ ez e1,c1⟩
  ·have kc:l<=k:=by rcases kn with h | h | h;exact absurd h ka;exact absurd h kb;exact h
   refine Qaa (SB.item _ _ _ k _ (Nat.lt_of_not_le kb) hb3 fun y g4 hy a4 b4=>Qae ?_)
   have o4:Zab g4 tout x b c:=b4.extBut _ _ D.a2 o3
   refine Qaa (Qa5 o4 rfl ?_)
   refine Qaa (Zd5 o4 fun g5 o5 b5=>?_)
   have o5:Zab g5 tout x y c:=o5
   refine Qaa (Qb7 (Qae ?_))
   refine Qaa (Qaa (QbM ?_))
   show wpAny _ _ (QaB (.ref ic) >>= _) _ _ _
   have hc5:sc k g5:=Z9 SC (Z9 SC (Z9 SC (Z9 SC (Z9 SC hc D.z5 fC1 b1) (QaD D.b2) fC3 b2) (QaD D.a3) fC2 b3) (QaD D.b3) fC4 b4) (QaD D.a3) fC2 b5
   refine Qaa (SC.fin A.in1 _ _ k _ (by first | exact hh | simpa using hh) kc hc5 fun g6 e x6 he=>?_)
   obtain ⟨oe,e1,c1⟩:=he
   have z6:IsZip g6 z tin tout .ellipsis:=x6 _ _ (QaD D.z5) (b5.extBut _ _ (QaD D.z2) (b4.extBut _ _ (QaD D.z4) z3))
   have ez:e≠z:=fun x=>by subst x;rw [z6] at e1;cases e1;simp at c1
   exact QaN z6 (by simp) fun g7 _ b7=>last g7 e (fun c o c1 c2 c3 c4 c5 x=>b7.extBut _ _ c1 (x6 _ _ c5 (b5.extBut _ _ c2 (b4.extBut _ _ c4 (b3.extBut _ _ c2 (b2.extBut _ _ c3 (b1.extBut _ _ c1 x))))))) ⟨oe,b7.extBut _ _ ez e1,c1⟩
end
@[reducible] def yh3 (h:Heap) (A B C:Src):Heap:=(zh2 h A B).push C.obj
@[reducible] def yh4 (h:Heap) (A B C:Src):Heap:=(yh3 h A B C).push { cls:=.type "tuple",data:=.seq #[.ref h.objs.size,.ref (zh1 h A).objs.size,.ref (zh2 h A B).objs.size] }
@[reducible] def yh5 (h:Heap) (A B C:Src):Heap:=(yh4 h A B C).push { cls:=.type "tuple",data:=.seq #[.none,.none,.none] }
@[reducible] def yh6 (h:Heap) (A B C:Src):Heap:=(yh5 h A B C).push { cls:=.type "zip",data:=.fields #[.none,.bool false,.bool false,.ref (yh3 h A B C).objs.size,.ref (yh4 h A B C).objs.size] }
theorem Zpq (A B C:Src) (xs ys vs:Array Value):Meets (Builtin.«zip.__new__» ⟨[.type "zip",.ref A.ad,.ref B.ad,.ref C.ad],[]⟩) (fun _ R s=>A.ok s.heap xs/\B.ok s.heap ys/\C.ok s.heap vs/\R (.ok (.ret (.ref (yh5 s.heap A B C).objs.size))) { s with heap:=yh6 s.heap A B C }) :=
 .of_wp fun prog w A' R s h=>by
  obtain ⟨hp,g,d,tk,os⟩:=s;obtain ⟨h1,h2,h3,q⟩:=h
  have hs:=sub_zip
  have k1:A.ok (Shared.heap ⟨hp,g,d,tk,os⟩) xs:=h1
  have k2:B.ok (Shared.heap ⟨hp.push A.obj,g,d,tk,os⟩) ys:=B.okAt h2 fun o e=>Qac _ e
  have k3:C.ok (Shared.heap ⟨(hp.push A.obj).push B.obj,g,d,tk,os⟩) vs:=C.okAt h3 fun o e=>Qac _ (Qac _ e)
  wp_walk using A.pyIter k1,B.pyIter k2,C.pyIter k3
  exact ⟨_,rfl,q⟩
end L2
namespace L2
open PySem PySem.Spec PyProof.Rows
theorem ZqH (a b c:Value):checkTypeCall "zip" { pos:=[a,b,c] }=pure ():=by kernel_rfl
theorem Zrj (a b c:Value):QcW "zip.__new__" { pos:=[Value.type "zip",a,b,c] }=pure ():=by kernel_rfl
theorem ZuN (a b c d:Value):argsOk "object.__init__" ⟨[a,b,c,d],[]⟩:=by
 unfold argsOk;rw [signature?_of (id:="object.__init__") (n:=['_','_','t','i','n','i','_','_']) (o:=['t','c','e','j','b','o']) (by kernel_rfl) PySem.F.owner_object];kernel_rfl
section
variable {prog:Qav} {w:World} {A:Around} {E:Value->Shared->Prop} {s:Shared}
theorem Znx {S T U:Src} {xs ys vs:Array Value} {Q:Value->Shared->Prop} (p1:S.ok s.heap xs) (p2:T.ok s.heap ys) (p3:U.ok s.heap vs)
  (q:∀ h',IsZip h' (s.heap.objs.size+5) (s.heap.objs.size+3) (s.heap.objs.size+4) .none->Zab h' (s.heap.objs.size+3) (.ref s.heap.objs.size) (.ref (s.heap.objs.size+1)) (.ref (s.heap.objs.size+2)) ->
   Zab h' (s.heap.objs.size+4) .none .none .none->S.it h' s.heap.objs.size 0->T.it h' (s.heap.objs.size+1) 0->U.it h' (s.heap.objs.size+2) 0->(∀ c o,s.heap.get? c=some o->h'.get? c=some o)->Q (.ref (s.heap.objs.size+5)) { s with heap:=h' }) :
  wpAny (model prog w) A (call (.type "zip") [.ref S.ad,.ref T.ad,.ref U.ad]) Q E s:=by
 refine callType_new PySem.F.called_zip (by decide) (ZqH _ _ _) (Zrj _ _ _) (fun obj=>ZuN obj _ _ _) PySem.F.entry_zip_new (Zpq S T U xs ys vs) ⟨p1,p2,p3,?_⟩
 have z1:(zh1 s.heap S).objs.size=s.heap.objs.size+1:=Qba ..
 have z2:(zh2 s.heap S T).objs.size=s.heap.objs.size+2:=by rw [Qba,z1]
 have z3:(yh3 s.heap S T U).objs.size=s.heap.objs.size+3:=by rw [Qba,z2]
 have z4:(yh4 s.heap S T U).objs.size=s.heap.objs.size+4:=by rw [Qba,z3]
 have z5:(yh5 s.heap S T U).objs.size=s.heap.objs.size+5:=by rw [Qba,z4]
 have g6:(yh6 s.heap S T U).get? (yh5 s.heap S T U).objs.size=some _:=Qao _ rfl
 have g5:(yh6 s.heap S T U).get? (yh4 s.heap S T U).objs.size=some _:=Qac _ (Qao _ rfl)
 have g4:(yh6 s.heap S T U).get? (yh3 s.heap S T U).objs.size=some _:=Qac _ (Qac _ (Qao _ rfl))
 have up:∀ c o,(yh3 s.heap S T U).get? c=some o->(yh6 s.heap S T U).get? c=some o:=fun c o e=>Qac _ (Qac _ (Qac _ e))
 have t3:U.it (yh6 s.heap S T U) (zh2 s.heap S T).objs.size 0:=U.itAt (U.new (h:=zh2 s.heap S T)) fun o e=>up _ o e
 have t2:T.it (yh6 s.heap S T U) (zh1 s.heap S).objs.size 0:=T.itAt (T.new (h:=zh1 s.heap S)) fun o e=>up _ o (Qac _ e)
 have t1:S.it (yh6 s.heap S T U) s.heap.objs.size 0:=S.itAt (S.new (h:=s.heap)) fun o e=>up _ o (Qac _ (Qac _ e))
 show _/\_
 rw [z3,z4,z5] at g6
 rw [z1,z2,z3] at g4
 rw [z4] at g5
 rw [z1] at t2
 rw [z2] at t3
 rw [z5]
 exact ⟨⟨_,g6,rfl⟩,q _ g6 g4 g5 t1 t2 t3 fun c o e=>up _ _ (Qac _ (Qac _ (Qac _ e)))⟩
end
def Zr7 (K:Qab) (S T U:Src):It :=
 ⟨fun i H=>∃ xs ys vs x y v,S.sq K H xs/\T.sq K H ys/\U.sq K H vs/\xs[i]?=some x/\ys[i]?=some y/\vs[i]?=some v,
  fun i H r H'=>∃ p x y v,r=.ref p/\H p=none/\H'=upd H p (.tup [x,y,v])/\(∀ xs,S.sq K H xs->xs[i]?=some x)/\(∀ ys,T.sq K H ys->ys[i]?=some y)/\∀ vs,U.sq K H vs->vs[i]?=some v,
  fun i H=>∃ xs ys vs,S.sq K H xs/\T.sq K H ys/\U.sq K H vs/\(xs.length<=i\/ys.length<=i\/vs.length<=i)⟩
theorem ZlL {n:Nat} {S T U:Src} (h1:S.ad<n) (h2:T.ad<n) (h3:U.ad<n):ZA3 (n+5) (n+3) (n+4) n (n+1) (n+2) [S.ad] [T.ad] [U.ad]:=by
 have key:∀ (a:Addr),a<n->∀ k:Nat,a≠n+k:=fun a ha k e=>by subst e;exact absurd ha (by show ¬ @LT.lt Nat _ _ _;omega)
 have k0:∀ (a:Addr),a<n->a≠n:=fun a ha=>key a ha 0
 refine ⟨?_,?_,?_,?_,?_,?_,?_,?_,?_,?_,?_,fun b hb=>?_,fun b hb=>?_,fun b hb=>?_⟩
 all_goals first
  | (show @Ne Nat _ _;omega)
  | (rw [List.mem_singleton.mp hb];exact ⟨key _ h1 5,key _ h1 4,key _ h1 1,key _ h1 2⟩)
  | (rw [List.mem_singleton.mp hb];exact ⟨key _ h2 5,key _ h2 4,k0 _ h2,key _ h2 2⟩)
  | (rw [List.mem_singleton.mp hb];exact ⟨key _ h3 5,key _ h3 4,k0 _ h3,key _ h3 1⟩)
theorem ZnK {P:Qav} {w:World} {K:Qab} {elts:List Expr} {x1} {pos:Pos} (S T U:Src) (n:Nat) (h1:S.ad<n) (h2:T.ad<n) (h3:U.ad<n) :
  ZeQ P w K (.Tuple elts x1 pos) (Zr7 K S T U) [n+5,n+3,n+4,n,n+1,n+2] (n+5) (fun i h=>IsZip h (n+5) (n+3) (n+4) .none/\Zab h (n+3) (.ref n) (.ref (n+1)) (.ref (n+2))/\(∃ a b c,Zab h (n+4) a b c)/\S.it h n i/\T.it h (n+1) i/\U.it h (n+2) i) where
 mem:=by simp
 obj:=fun i h st q hq=>by
  obtain ⟨z,a,⟨x,y,v,b⟩,c,d,e⟩:=st
  simp only [Qbk,Qbt,or_false] at hq
  rcases hq with rfl | rfl | rfl | rfl | rfl | rfl
  ·exact ⟨_,z,fun v e=>nomatch (show Data.fields _=QcA v from e)⟩
  ·exact ⟨_,a,fun v e=>nomatch (show Data.seq _ _=QcA v from e)⟩
  ·exact ⟨_,b,fun v e=>nomatch (show Data.seq _ _=QcA v from e)⟩
  ·exact S.itOb c
  ·exact T.itOb d
  ·exact U.itOb e
 keep:=fun i h h' st k=>by
  obtain ⟨z,a,⟨x,y,v,b⟩,c,d,f⟩:=st
  exact ⟨k _ (by simp) _ z,k _ (by simp) _ a,⟨x,y,v,k _ (by simp) _ b⟩,S.itAt c fun o e=>k _ (by simp) o e,T.itAt d fun o e=>k _ (by simp) o e,U.itAt f fun o e=>k _ (by simp) o e⟩
 item:=by
  intro X hP hw hK hc i pins s σ H E I hf st ex0
  obtain ⟨z,a,⟨u,v,t,b⟩,c,d,f⟩:=st
  obtain ⟨xs,ys,vs,x,y,v3,hx,hy,hv,ex,ey,ev⟩:=ex0
  subst hP hw hK
  obtain ⟨its,r1,o1,_⟩:=S.of I hx
  obtain ⟨jts,r2,o2,_⟩:=T.of I hy
  obtain ⟨kts,r3,o3,_⟩:=U.of I hv
  obtain ⟨u1,e1,ru1⟩:=r1.get ex
  obtain ⟨u2,e2,ru2⟩:=r2.get ey
  obtain ⟨u3,e3,ru3⟩:=r3.get ev
  have l1:=(List.getElem?_eq_some_iff.mp e1).1
  have l2:=(List.getElem?_eq_some_iff.mp e2).1
  have l3:=(List.getElem?_eq_some_iff.mp e3).1
  refine ZoX (ZlL h1 h2 h3) (S.sub (P:=X.prog) (w:=X.w) its.toArray) (T.sub (P:=X.prog) (w:=X.w) jts.toArray) (U.sub (P:=X.prog) (w:=X.w) kts.toArray) z a b ⟨c,o1⟩ ⟨d,o2⟩ ⟨f,o3⟩ (by simpa using l1) (by simpa using l2) (by simpa using l3) fun x' y' v' h' hx' hy' hv' z' to' c'' d'' f'' new sz kp=>?_
  obtain ⟨c',_⟩:=c''
  obtain ⟨d',_⟩:=d''
  obtain ⟨f',_⟩:=f''
  have hx1:x'=u1:=by simp [e1] at hx';exact hx'.symm
  have hy1:y'=u2:=by simp [e2] at hy';exact hy'.symm
  have hv1:v'=u3:=by simp [e3] at hv';exact hv'.symm
  subst hx1 hy1 hv1
  refine ⟨_,rfl,wpAny_letOwnedTupleGo_zip z' fun h2' z2 sb=>?_⟩
  have hlt:n+5<s.heap.objs.size:=Qaq z
  have up:∀ q o,q≠n+5->h'.get? q=some o->h2'.get? q=some o:=fun q o hq e=>sb.extBut _ _ hq e
  have I1:Inv X pins σ (upd H s.heap.objs.size (.tup [x,y,v3])) { s with heap:=h2' }:=by
   refine I.yielded hf (fun q o hq e=>up q o (fun z=>hq (by simp [z])) (kp q o (fun z=>hq (by simp [z])) (fun z=>hq (by simp [z])) (fun z=>hq (by simp [z])) (fun z=>hq (by simp [z])) (fun z=>hq (by simp [z])) e)) (Qau _) ?_
   exact ⟨show 3<=Qaj by decide,[x',y',v'],.cons ru1 (.cons ru2 (.cons ru3 .nil)),⟨_,up _ _ (by (show @Ne Nat _ _;omega)) new,rfl,_,rfl⟩⟩
  have kt:Zab h2' (n+3) (.ref n) (.ref (n+1)) (.ref (n+2)):=up _ _ (by (show @Ne Nat _ _;omega)) (kp _ _ (by (show @Ne Nat _ _;omega)) (by (show @Ne Nat _ _;omega)) (by (show @Ne Nat _ _;omega)) (by (show @Ne Nat _ _;omega)) (by (show @Ne Nat _ _;omega)) a)
  refine ⟨.ref s.heap.objs.size,_,I1,rfl,⟨_,x,y,v3,rfl,I.hok.fresh (Qau _),rfl,fun zs hz=>by rw [S.inj I hz hx];exact ex,fun zs hz=>by rw [T.inj I hz hy];exact ey,fun zs hz=>by rw [U.inj I hz hv];exact ev⟩,⟨z2,kt,⟨x',y',v',up _ _ (by (show @Ne Nat _ _;omega)) to'⟩,S.itAt c' fun o e=>up _ o (by (show @Ne Nat _ _;omega)) e,T.itAt d' fun o e=>up _ o (by (show @Ne Nat _ _;omega)) e,U.itAt f' fun o e=>up _ o (by (show @Ne Nat _ _;omega)) e⟩,fun q hq=>?_⟩
  rw [Zt]
  ·exact (hf q hq).1
  ·simp only [Qbk,Qbt,or_false] at hq
   rcases hq with rfl | rfl | rfl | rfl | rfl | rfl<;>(show @Ne Nat _ _;omega)
 done:=by
  intro X hP hw hK hc i pins s σ H E I hf st ex0
  obtain ⟨z,a,⟨u,v,t,b⟩,c,d,f⟩:=st
  obtain ⟨xs,ys,vs,hx,hy,hv,hl⟩:=ex0
  subst hP hw hK
  obtain ⟨its,r1,o1,_⟩:=S.of I hx
  obtain ⟨jts,r2,o2,_⟩:=T.of I hy
  obtain ⟨kts,r3,o3,_⟩:=U.of I hv
  have q1:=r1.length
  have q2:=r2.length
  have q3:=r3.length
  refine ZpM (I.ok.hd hc) (ZlL h1 h2 h3) (S.sub (P:=X.prog) (w:=X.w) its.toArray) (T.sub (P:=X.prog) (w:=X.w) jts.toArray) (U.sub (P:=X.prog) (w:=X.w) kts.toArray) z a b ⟨c,o1⟩ ⟨d,o2⟩ ⟨f,o3⟩ (by simp only [Qal];omega) fun h' kp=>⟨rfl,I.turnedL hf fun q o hq e=>kp q o (fun z=>hq (by simp [z])) (fun z=>hq (by simp [z])) (fun z=>hq (by simp [z])) (fun z=>hq (by simp [z])) (fun z=>hq (by simp [z])) e⟩
 self:=fun _ _ _ _ _ st q=>wpAny_pyIter_zip st.1 q
theorem ZrG {K:Qab} {M N:Fb} {H:Hp} {S T U:Src} {xs ys zs:List D} {us vs ws:List V} (h1:DenL K N H xs us) (h2:DenL K N H ys vs) (h3:DenL K N H zs ws) (q1:∀ N2 H2,Step M N N2 H H2->S.sq K H2 us) (q2:∀ N2 H2,Step M N N2 H H2->T.sq K H2 vs) (q3:∀ N2 H2,Step M N N2 H H2->U.sq K H2 ws) :
  Zlk K M N H (Zr7 K S T U) (QaV (fun x y=>D.tup [x,y.1,y.2]) xs (ys.zip zs)):=fun N2 H2 St i=>by
 have s1:=q1 _ _ St
 have s2:=q2 _ _ St
 have s3:=q3 _ _ St
 have d1:=DenL.step St _ _ h1
 have d2:=DenL.step St _ _ h2
 have d3:=DenL.step St _ _ h3
 refine ⟨fun d he=>?_,fun he=>⟨us,vs,ws,s1,s2,s3,?_⟩⟩
 ·rw [List.getElem?_zipWith] at he
  cases ex:xs[i]? with
  | none=>rw [ex] at he;cases he
  | some x =>
   cases eyz:(ys.zip zs)[i]? with
   | none=>rw [ex,eyz] at he;cases he
   | some yz =>
    rw [ex,eyz] at he;cases he
    obtain ⟨y,z⟩:=yz
    obtain ⟨ey,ez⟩:=List.getElem?_zip_eq_some.mp eyz
    obtain ⟨u,eu,du⟩:=d1.get ex
    obtain ⟨v,ev,dv⟩:=d2.get ey
    obtain ⟨w,ew,dw⟩:=d3.get ez
    refine ⟨⟨us,vs,ws,u,v,w,s1,s2,s3,eu,ev,ew⟩,fun r H3 hr=>?_⟩
    obtain ⟨p,u',v',w',e1,hp,e3,w1,w2,w3⟩:=hr
    have:=w1 us s1;rw [eu] at this;cases this
    have:=w2 vs s2;rw [ev] at this;cases this
    have:=w3 ws s3;rw [ew] at this;cases this
    subst e1 e3
    exact ⟨Zhd hp,Zc8 hp (DenL.cons du (DenL.cons dv (DenL.cons dw DenL.nil)))⟩
 ·have l1:=h1.length
  have l2:=h2.length
  have l3:=h3.length
  simp only [List.length_zipWith,List.length_zip] at he
  omega
@[simp] def Zju (f g k:VE->Option D):VE->Option (List D):=fun ρ=>match (f ρ).bind Zao,(g ρ).bind Zao,(k ρ).bind Zao with
  | some xs,some ys,some zs=>some (QaV (fun x y=>D.tup [x,y.1,y.2]) xs (ys.zip zs))
  | _,_,_=>none
section
variable {X:Cx} {M:Fb} {H0:Hp} {f g k:VE->Option D} {a b c:Expr} {elts:List Expr} {p pos tpos:Pos}
theorem Zny {x1} (hg:Gl X "zip") (hm:X.mg "zip"=none) (ha:JE X a (tQ X.K M H0 f)) (hb:JE X b (tQ X.K M H0 g)) (hc:JE X c (tQ X.K M H0 k)) (hs:Qas [a,b,c] X.env=[(false,eval a X.env),(false,eval b X.env),(false,eval c X.env)]:=by rfl) (hs2:Qas [b,c] X.env=[(false,eval b X.env),(false,eval c X.env)]:=by rfl) (hs3:Qas [c] X.env=[(false,eval c X.env)]:=by rfl) (hs4:Qas [] X.env=[]:=by rfl) :
  JI X (.Tuple elts x1 tpos) (.Call (.Name "zip" p) [a,b,c] [] pos) (tI X.K M H0 (Zju f g k)):=⟨by
 intro pins s σ H Q I h
 obtain ⟨ρ,ds,R,e,q⟩:=h
 unfold Zju at e
 split at e
 ·next xs ys zs ex ey ez =>
  cases e
  cases hf:f ρ with
  | none=>rw [hf] at ex;cases ex
  | some d1 =>
   cases hgv:g ρ with
   | none=>rw [hgv] at ey;cases ey
   | some d2 =>
    cases hkv:k ρ with
    | none=>rw [hkv] at ez;cases ez
    | some d3 =>
     rw [hf] at ex
     rw [hgv] at ey
     rw [hkv] at ez
     have PA3:=ZaC ha.h (ZaC hb.h (ZaC hc.h pa_nil (by rw [hs3,hs4])) (by rw [hs2,hs3])) (by rw [hs,hs2])
     refine Call_ (Zb1 I hg hm ZiK (Qbi (thn (PA3 pos pins s σ H (fun vs H2=>∃ S T U us ws ts,vs=[.ref (Src.ad S),.ref (Src.ad T),.ref (Src.ad U)]/\Same H H2/\DenL X.K (Nf M ρ σ) H2 xs us/\DenL X.K (Nf M ρ σ) H2 ys ws/\DenL X.K (Nf M ρ σ) H2 zs ts/\(∀ N2 H3,Step M (Nf M ρ σ) N2 H2 H3->S.sq X.K H3 us)/\(∀ N2 H3,Step M (Nf M ρ σ) N2 H2 H3->T.sq X.K H3 ws)/\∀ N2 H3,Step M (Nf M ρ σ) N2 H2 H3->U.sq X.K H3 ts) I ?_) fun us s1 hq=>?_) (by rw [hs,hs2]) (by rw [hs2];rfl)))
     ·refine ⟨ρ,d1,R,hf,fun v1 H1 z1 q1=>⟨ρ,d2,R.st z1,hgv,fun v2 H2 z2 q2=>⟨ρ,d3,(R.st z1).st z2,hkv,fun v3 H3 z3 q3=>?_⟩⟩⟩
      obtain ⟨S,us,e1,dl1,k1⟩:=q1.src ex
      obtain ⟨T,ws,e2,dl2,k2⟩:=q2.src ey
      obtain ⟨U,ts,e3,dl3,k3⟩:=q3.src ez
      exact ⟨S,T,U,us,ws,ts,by rw [e1,e2,e3],(z1.trans z2).trans z3,(dl1.same z2).same z3,dl2.same z3,dl3,fun N2 H3 St=>k1 _ _ ((Step.of_same (z2.trans z3)).trans St),fun N2 H3 St=>k2 _ _ ((Step.of_same z3).trans St),k3⟩
     ·obtain ⟨vs,H1,I1,r1,q1⟩:=hq
      obtain ⟨S,T,U,us',ws,ts,e1,z,dl1,dl2,dl3,k1,k2,k3⟩:=q1
      subst e1
      cases r1 with
      | cons r rr =>
       cases rr with
       | cons r' rr =>
        cases rr with
        | cons r'' rr =>
         cases rr
         cases r
         cases r'
         cases r''
         obtain ⟨its,v1,o1,_⟩:=S.of I1 (k1 _ _ Step.refl)
         obtain ⟨jts,v2,o2,_⟩:=T.of I1 (k2 _ _ Step.refl)
         obtain ⟨kts,v3,o3,_⟩:=U.of I1 (k3 _ _ Step.refl)
         refine Znx o1 o2 o3 fun h' a1 a2 a3 a4 a5 a6 kp=>wpAny_pyIter_zip a1 ?_
         refine ⟨_,_,_,_,H1,rfl,I1.kept (t':=s1.toks) kp,ZnK S T U s1.heap.objs.size (S.lt o1) (T.lt o2) (U.lt o3),⟨a1,a2,⟨_,_,_,a3⟩,a4,a5,a6⟩,fun b hb=>?_,q _ _ z (ZrG dl1 dl2 dl3 k1 k2 k3)⟩
         have hl:s1.heap.objs.size<=b:=by
          simp only [Qbk,Qbt,or_false] at hb
          rcases hb with rfl | rfl | rfl | rfl | rfl | rfl<;>(show @LE.le Nat _ _ _;omega)
         exact I1.fpOk hl (I1.hok.fresh hl)
 ·cases e⟩
end
end L2
namespace L2
open PySem PySem.Spec PyProof.Rows PySem.W
def RawD (h:Heap) (d:Addr) (es:Array DictEntry) (ep:Nat):Prop:=∃ o,h.get? d=some o/\o.ExactDict/\o.data=.dict es ep
section
variable {prog:Qav} {w:World} {A:Around} {E:Value->Shared->Prop} {s:Shared} {d it:Addr} {es:Array DictEntry} {ep i:Nat}
theorem RawD.type (x:RawD s.heap d es ep):s.TypeIs (.ref d) "dict":=by
 obtain ⟨o,e1,e2,_⟩:=x
 exact ⟨o,e1,e2.1⟩
theorem RawD.at {h h':Heap} (x:RawD h d es ep) (k:∀ o,h.get? d=some o->h'.get? d=some o):RawD h' d es ep:=by
 obtain ⟨o,e1,e2⟩:=x
 exact ⟨o,k o e1,e2⟩
theorem ZpY {Q:Value->Shared->Prop} (hd:(d==Qb5)=false) (hm:RawD s.heap d es ep)
  (hQ:Q (.ref s.heap.objs.size) { s with heap:=s.heap.push { cls:=.type "dict_keyiterator",data:=.fields #[.ref d,.int 0 0,.int es.size 0,.int ep 0] } }):wpAny (model prog w) A (pyIter (.ref d)) Q E s:=by
 have ty:=hm.type
 obtain ⟨o,e1,e2,e3⟩:=hm
 refine wpAny_pyIter_slot ty PySem.F.slot_dict_iter (Qa4 PySem.F.slot_dict_iter ty PySem.F.entry_dict_iter ?_ (PySem.F.args_dict_iter_1 _))
 unfold Builtin.«dict.__iter__» Builtin.Dict.dictSlotNone
 refine Qaa (Qaa (wpAny_notOrdered_dict ty ?_))
 refine (Qae ?_:wpAny _ _ (pure (QaR d)) _ _ s)
 show wpAny _ _ (Builtin.Dict.showsAll d >>= _) _ _ s
 unfold Builtin.Dict.showsAll
 rw [if_neg (by rw [hd];exact QbC)]
 refine Qaa (Qae (Qaa (wpAny_dictEntries e1 e3 (Qaa (wpAny_dictEpoch e1 e3 ?_)))))
 refine Qaa (Qbf (Qae ⟨_,rfl,"dict_keyiterator",_,⟨_,Qao _ rfl,rfl⟩,PySem.F.slot_dict_keyiterator_next.lookup,?_⟩))
 simpa [rawInt] using hQ
theorem ZpA {Q:Option Value->Shared->Prop} (hi:s.heap.IsKeyIter it d i es.size ep) (hm:RawD s.heap d es ep) (hl:i<es.size)
  (hQ:∀ h',h'.IsKeyIter it d (i+1) es.size ep->QaX it s.heap h'->Q (some es[i].key) { s with heap:=h' }):wpAny (model prog w) A (pyNext (.ref it)) Q E s:=by
 have ty:=hi.typeIs
 obtain ⟨p,f1,f2,f3⟩:=hi
 obtain ⟨o,e1,e2,e3⟩:=hm
 unfold pyNext
 refine Qaa (Qb1 (QaU (name:=QaY "__next__") ty QbF (Qa4 QbF ty Qdb ?_ (Qc9 _))))
 refine Qaa (Qae (Qaa (Qaa ?_)))
 first | refine Qaa (Qb2 ty (Qae ?_)) | refine Qaa (Qcu ty (Qae ?_))
 refine Qaa (wpAny_fieldsOf f1 f3 ?_)
 simp only [show Builtin.Dict_items.ownsTuple "dict_keyiterator"=false by decide,QaS,if_false]
 show wpAny _ _ (if (QaR d==Qbl)=true then _ else _) _ _ s
 rw [if_neg (show ¬ ((QaR d==Qbl)=true) from fun z=>QbC z)]
 refine Qaa (Qae (Qaa (wpAny_dictEntries e1 e3 ?_)))
 rw [if_neg (by simp)]
 refine Qaa (Qae (Qaa (wpAny_dictEpoch e1 e3 ?_)))
 rw [if_neg (by simp)]
 refine Qae ?_
 simp only [show ¬ ((i:Int)<0) from by omega,if_false,Qbz,Qbn hl]
 refine Qaa ?_
 first | refine Qaa (Qb2 ty (Qae ?_)) | refine Qaa (Qcu ty (Qae ?_))
 refine Qaa (wpAny_isOneOf_keyiter ty ?_)
 show wpAny _ _ (setField (.ref it) 1 (rawInt ((i:Int)+1)) >>= _) _ _ s
 refine Qaa (QcL f1 f3 (by simp) ?_)
 have ni:(s.heap.update it (Obj.mapFields (·.setIfInBounds 1 (rawInt ((i:Int)+1))))).IsKeyIter it d (i+1) es.size ep:=⟨_,Qcf _ f1 (QcM (QbP f3 _)),(Obj.cls_mapFields ..).trans f2,by rw [QbP f3];simp [rawInt]⟩
 refine Qaa (Qa6 (Qaa (wpAny_isOneOf_keyiter (s:={ s with heap:=s.heap.update it (Obj.mapFields (·.setIfInBounds 1 (rawInt ((i:Int)+1)))) }) ni.typeIs ?_)))
 exact Qae (Qae ⟨_,rfl,Qae (hQ _ ni (Qcv ..))⟩)
theorem ZrN {Q:Option Value->Shared->Prop} (hh:A.handled=none) (hi:s.heap.IsKeyIter it d i es.size ep) (hm:RawD s.heap d es ep) (hl:es.size<=i)
  (hQ:∀ h',Heap.ExtBut it s.heap h'->Q none { s with heap:=h' }):wpAny (model prog w) A (pyNext (.ref it)) Q E s:=by
 have ty:=hi.typeIs
 obtain ⟨p,f1,f2,f3⟩:=hi
 obtain ⟨o,e1,e2,e3⟩:=hm
 unfold pyNext
 refine Qaa (Qb1 (QaU (name:=QaY "__next__") ty QbF (Qa4 QbF ty Qdb ?_ (Qc9 _))))
 refine Qaa (Qae (Qaa (Qaa ?_)))
 first | refine Qaa (Qb2 ty (Qae ?_)) | refine Qaa (Qcu ty (Qae ?_))
 refine Qaa (wpAny_fieldsOf f1 f3 ?_)
 simp only [show Builtin.Dict_items.ownsTuple "dict_keyiterator"=false by decide,QaS,if_false]
 show wpAny _ _ (if (QaR d==Qbl)=true then _ else _) _ _ s
 rw [if_neg (show ¬ ((QaR d==Qbl)=true) from fun z=>QbC z)]
 refine Qaa (Qae (Qaa (wpAny_dictEntries e1 e3 ?_)))
 rw [if_neg (by simp)]
 refine Qaa (Qae (Qaa (wpAny_dictEpoch e1 e3 ?_)))
 rw [if_neg (by simp)]
 refine Qae ?_
 simp only [show ¬ ((i:Int)<0) from by omega,if_false,Qbz,Array.getElem?_eq_none hl]
 refine Qaa ?_
 first | refine Qaa (Qb2 ty (Qae ?_)) | refine Qaa (Qcu ty (Qae ?_))
 show wpAny _ _ (setField (.ref it) 0 .none >>= _) _ _ s
 refine Qaa (QcL f1 f3 (by simp) ?_)
 show wpAny _ _ (newExc (.type "StopIteration") [] >>= _) _ _ _
 refine Qaa ?_
 simp only [newExc,newTuple]
 refine Qaa (Qbf ?_ (by size_fits))
 refine Qaa (m:=firstArgMember _ _) (wpAny_of_eq (a:=Qbl) (by first | rfl | (simp only [firstArgMember];rfl)) ?_)
 refine Qbf ?_ (by size_fits)
 simp only [raiseNew]
 refine Qaa (wpAny_handled ?_)
 rw [show A.in1.handled=none from hh]
 refine Qaa (Qae (wpAny_throw ?_))
 refine Qaa (wpAny_isInstance (T:="StopIteration") (b:=true) ⟨_,Qao _ rfl,rfl⟩ isSubtype_stop ?_)
 exact Qae (hQ _ ((Heap.ExtBut.push (Heap.SameBut.extBut (Qcv ..)) _).push _))
theorem Zpi (hh:A.handled=none) (I:Addr) (hne:d≠I):Walks prog w A I [I,d] [I] es.size (fun i v=>∃ e,es[i]?=some e/\v=e.key) (fun i h=>h.IsKeyIter I d i es.size ep/\RawD h d es ep) where
 sub:=fun b hb=>by simp at hb;simp [hb]
 frame:=fun _ _ _ st hk=>⟨st.1.at fun o e=>hk I (by simp) o e,st.2.at fun o e=>hk d (by simp) o e⟩
 item:=fun i s Q E hi st hQ=>ZpA st.1 st.2 hi fun h' ni sb=>hQ _ h' s.toks ⟨es[i],Qbn hi,rfl⟩ ⟨ni,st.2.at fun o e=>sb.extBut _ _ hne e⟩ fun b o hb e=>sb.extBut b o (fun h=>hb (by simp [h])) e
 done:=fun s Q E st hQ=>ZrN hh st.1 st.2 (Qau _) fun h' he'=>hQ h' s.toks fun b o hb e=>he' b o (fun h=>hb (by simp [h])) e
 self:=fun _ _ _ _ st hQ=>wpAny_pyIter_keyiter st.1 hQ
theorem Zmu (lo:(d==Qb5)=false):KdlSrc prog w "dict" d d es.size (fun i v=>∃ e,es[i]?=some e/\v=e.key) (fun h=>RawD h d es ep) where
 type:=fun _ hm=>hm.type
 there:=fun _ hm=>by obtain ⟨o,e1,_⟩:=hm;exact ⟨Qaq e1,Qaq e1⟩
 keep:=fun _ _ hm hk=>hm.at fun o e=>hk d (.inl rfl) o e
 notList:=by decide
 notTuple:=by decide
 hint:=fun _ _ _ _ hm hq=>kdl_hint_dict hm.type hq
 iter:=fun _ s hh hm=>⟨_,_,(fun _ _ hq=>ZpY lo hm hq),Zpi hh _ (by obtain ⟨o,e1,_⟩:=hm;exact QaL (Qaq e1)),⟨⟨_,Qao _ rfl,rfl,rfl⟩,hm.at fun o e=>Qac _ e⟩⟩
end
end L2
namespace L2
open PySem PySem.Spec PyProof.Rows PySem.W
theorem ZkP {w:World}:∀ {tr:List T3} {es:List DictEntry},ZfL w (tr.map (·.1)) (ZaZ tr) es->Vals (tr.map fun t=>t.2.1) (es.map fun e=>e.key):=by
 intro tr
 induction tr with
 | nil =>
  intro es h
  obtain ⟨_,e⟩:=h
  subst e
  exact .nil
 | cons t r ih =>
  intro es h
  obtain ⟨kv,v,r',e,t',h1,h2,h3,_,_,_,h6⟩:=h
  simp only [ZaZ,List.cons.injEq] at h1
  obtain ⟨e1,e2,e3⟩:=h1
  subst h2 e1 e2 e3
  exact .cons h3 (ih h6)
section
variable {X:Cx}
theorem ZiD {es:Array DictEntry} {acc:Array Value} (h:ItemsOf (fun i v=>∃ e,es[i]?=some e/\v=e.key) acc es.size):acc.toList=es.toList.map fun e=>e.key:=by
 refine QbY fun i=>?_
 rw [QcJ,Qa1,QcJ]
 cases ha:acc[i]? with
 | some v =>
  obtain ⟨e,he,hv⟩:=h.2 i v ha
  rw [he,hv];rfl
 | none =>
  have h1:acc.size<=i:=Array.getElem?_eq_none_iff.mp ha
  have h2:es[i]?=none:=Array.getElem?_eq_none_iff.mpr (by rw [<- h.1];exact h1)
  rw [h2];rfl
theorem ZkD (hc:X.calm=true):CallR X (.type "list") (fun xs H Q=>∃ a tr,xs=[.ref a]/\IsDc X.K H a tr/\∀ l,H l=none->Q (.ref l) (upd H l (.lst (tr.map fun t=>t.2.1)))):=by
 intro pins s σ H xs us Q I r h
 obtain ⟨a,tr,rfl,hd,q⟩:=h
 obtain ⟨u,rfl,rx⟩:=ZaV r
 cases rx
 obtain ⟨z,hs,nd,o,es,ep,e1,e2,e3,e4⟩:=hd.1.ok I.hok
 have hv:=ZkP e4
 have hl:tr.length=es.size:=by have:=hv.length;simpa using this
 have hz:tr.length<=Qaj:=by simpa using z
 refine kdl_call (Zmu (es:=es) (ep:=ep) hs) (I.ok.hd hc) ⟨o,e1,e2,e3⟩ (by rw [<- hl];exact hz) fun h' tk acc' c' kp hn hi=>?_
 have hacc:=ZiD hi
 refine ⟨.ref s.heap.objs.size,_,I.laid (t':=tk) kp (Qau _) (show ObjOk X.prog X.w _ h' _ (.lst (tr.map fun t=>t.2.1)) from ⟨by simpa using hz,acc'.toList,c',by rw [hacc];exact hv,by simpa using hn⟩),rfl,q _ (I.hok.fresh (Qau _))⟩
end
def Zkn:List D->Option (List D)
 | [.lst xs true]=>(unf xs).map fun kvs=>kvs.map fun p=>kD p.1
 | _=>none
@[simp] theorem Zoa (kvs:KDs):Zkn [.lst (ZJ kvs) true]=some (kvs.map fun p=>kD p.1):=by simp [Zkn]
section
variable {K:Qab} {N:Fb} {H:Hp}
theorem PD.kden:∀ {kvs:KDs} {tr:List T3},PD K N H kvs tr->DenL K N H (kvs.map fun p=>kD p.1) (tr.map fun t=>t.2.1)
 | _,_,.nil=>DenL.nil
 | _,_,.cons ⟨h1,h2,h3⟩ t=>DenL.cons h2 (PD.kden t)
theorem ZpR:RcF K (fun xs H Q=>∃ a tr,xs=[.ref a]/\IsDc K H a tr/\∀ l,H l=none->Q (.ref l) (upd H l (.lst (tr.map fun t=>t.2.1)))) Zkn:=by
 intro N H vs ds xs Q nh h e q
 unfold Zkn at e
 split at e
 ·next ys =>
  cases hu:unf ys with
  | none=>rw [hu] at e;cases e
  | some kvs =>
   rw [hu] at e
   cases e
   obtain ⟨v,rfl,hv⟩:=Paired.one' h
   rw [Zc4 hu] at hv
   obtain ⟨p,ws,ep,r,hd⟩:=hv
   subst ep
   obtain ⟨tr,dc,pd⟩:=ZhA r hd
   exact ⟨p,tr,rfl,dc,fun l hl=>q _ l hl pd.kden⟩
 ·cases e
end
end L2
namespace L2
open PySem PySem.Spec PyProof.Rows PySem.W
section
variable {prog:Qav} {w:World} {A:Around} {E:Value->Shared->Prop} {s:Shared} {T:String} {r d:Addr} {n:Nat} {P:Nat->Value->Prop} {OK:Heap->Prop}
theorem Zlr {Q:List Value->Shared->Prop} (K:KdlSrc prog w T r d n P OK) (hh:A.handled=none) (hok:OK s.heap) (hn:n<=Qaj)
  (hQ:∀ h' tk acc,(∀ b o,s.heap.get? b=some o->h'.get? b=some o)->ItemsOf P acc n->Q acc.toList { s with heap:=h',toks:=tk }):wpAny (model prog w) A (collect (.ref r)) Q E s:=by
 obtain ⟨lr,ld⟩:=K.there _ hok
 unfold collect
 refine Qaa (wpAny_runValue (Qce F.entry_proto_collect ?_))
 rw [QbT F.plain_proto_collect _]
 show wpAny _ A.in1 (newList [] >>= fun l=>again (.builtin "list.__iadd__" ⟨[l,.ref r],[]⟩)) _ _ s
 refine Qaa (Qbf ?_)
 refine Qae ⟨plainId_quiet F.plain_list_iadd _,Qce F.entry_list_iadd ?_⟩
 rw [QbT F.plain_list_iadd _]
 show wpAny _ A.in1 (Builtin.List.listExtendWith (.ref s.heap.objs.size) (.ref r) (.ref s.heap.objs.size)) _ _ _
 have hS:(s.heap.push { cls:=.type "list",data:=.seq ([]:List Value).toArray }).get? s.heap.objs.size=some { cls:=.type "list",data:=.seq #[] 0 }:=Qao _ rfl
 have fin':∀ s',(∃ h' tk acc c',s'={ s with heap:=h',toks:=tk }/\(∀ b o,s.heap.get? b=some o->h'.get? b=some o)/\h'.get? s.heap.objs.size=some { cls:=.type "list",dict:=none,data:=.seq acc c',slots:=#[] }/\ItemsOf P acc n)->wpAny (model prog w) A (match QaR s.heap.objs.size with
   | QaR a=>do
    match (<- load a).data with
     | Data.seq xs _=>pure xs.toList
     | _=>unsupported "internal:collect"
   | _=>unsupported "internal:collect") Q E s':=by
  rintro s' ⟨h',tk,acc,c',rfl,hk,hs',hi⟩
  show wpAny _ A (load s.heap.objs.size >>= _) _ _ _
  refine Qaa (wpAny_load hs' ?_)
  refine Qae ?_
  exact hQ h' tk acc hk hi
 refine Qbp (kdl_extend (R:=fun r s'=>r=.ok (.ret (.ref s.heap.objs.size))/\∃ h' tk acc c',s'={ s with heap:=h',toks:=tk }/\(∀ b o,s.heap.get? b=some o->h'.get? b=some o)/\h'.get? s.heap.objs.size=some { cls:=.type "list",dict:=none,data:=.seq acc c',slots:=#[] }/\ItemsOf P acc n) (s:={ s with heap:=s.heap.push { cls:=.type "list",data:=.seq ([]:List Value).toArray } }) K hh (K.keep _ _ hok fun b _ o e=>Qac _ e) s.heap.objs.size (Qbv lr) (Qbv ld) _ 0 hS (fun h' tk acc c' hk hs' hi=>⟨rfl,h',tk,acc,c',rfl,fun b o e=>hk b o (QaL (Qaq e)) (Qac _ e),hs',hi⟩) hn) (fun fin s' h=>?_) (fun e s' h=>?_)
 ·cases fin with
  | done f =>
   obtain ⟨e,h⟩:=h
   cases e
   exact fin' s' h
  | again c =>
   refine ⟨h.1,codeAny_mono h.2 fun r s'' hr=>?_⟩
   obtain ⟨rfl,h⟩:=hr
   exact fin' s'' h
 ·exact nomatch h.1
end
section
variable {X:Cx} {pins:List (Addr×Obj)} {σ:St} {H:Hp} {s:Shared} {N:Fb} {k:Nat} {fn:Addr} {fd:QaH} {ps:List Str} {F:List Sl->Option Rv}
theorem ZoK (Fo:FnOk X.prog X.w X.K X.mg X.base CX0 k fn fd ps (spD X.K F)) (hb:Binds X.K fd ps []) (hr:Room (k+2) X.A) (hcalm:X.calm=true)
  (I:Inv X pins σ H s) (nh:∀ a,N a->H a≠none) {a:Addr} {tr:List T3} {ds:List D} (hdc:IsDc X.K H a tr) (dn:DenL X.K N H ds (tr.map fun t=>t.2.1)) (ok:SortOk F ds) {Q:VK}
  (q:∀ da vs H',Same H H'->H da=none->H' da=some (.lst vs)->DenL X.K (fun b=>N b\/b=da) H' (ZcT (ltF F) ds) vs->Q (.ref da) H') :
  wpAny (model X.prog X.w) X.A (call (.builtin "sorted") [.ref a] [("key",.ref fn)]) (EP X pins σ Q) X.xe s:=by
 have l1:=dn.length
 have few:=ok.few
 have hsl:Qaj=16777216:=sizeLine_eq
 obtain ⟨z,hs,nd,o,es,ep,e1,e2,e3,e4⟩:=hdc.1.ok I.hok
 have hv:=ZkP e4
 have hl:tr.length=es.size:=by have:=hv.length;simpa using this
 refine wpAny_call (QbX plain_sorted entry_sorted ?_)
 have hck:QcW "sorted" ⟨[.ref a],[("key",.ref fn)]⟩=pure ():=by rfl
 rw [hck]
 refine Qae ?_
 unfold PySem.Builtin.sorted
 have hcc:checkCount "sorted" 1 1 1=pure ():=rfl
 show wpAny _ _ (do checkCount "sorted" 1 1 1;let y <- collect (.ref a);let l <- newList y;let _ <- holding [l] (call (.builtin "list.sort") [l] [("key",.ref fn)]);ret l) _ _ _
 rw [hcc]
 refine Qaa (Qae ?_)
 refine Qaa (Zlr (Zmu (es:=es) (ep:=ep) hs) (I.ok.hd hcalm) ⟨o,e1,e2,e3⟩ (by simp at l1;omega) fun h1 tk acc k1 hi=>?_)
 have hacc:=ZiD hi
 rw [hacc]
 have I1:=I.kept (t':=tk) k1
 have l2:=hv.length
 generalize hits:List.map (fun e=>e.key) es.toList=its at *
 have rv:Vals (tr.map fun t=>t.2.1) its:=hv
 refine Qaa (wpAny_newList ?_ (by simp at l1 l2 ⊢;omega))
 generalize hs1:({ heap:=h1,gens:=s.gens,drawn:=s.drawn,toks:=tk,os:=s.os }:Shared)=s1 at *
 have I2:=I1.kept (t':=s1.toks) (fun b u e=>Qac (lob its 0) e)
 have g:=Qao s1.heap (o:=lob its 0) rfl
 have fD:=I1.off (Qau s1.heap.objs.size)
 have hD:H s1.heap.objs.size=none:=I1.fresh
 refine Qaa (Qa6 ?_)
 refine wpAny_call (QbX PySem.F.slot_list_sort.plain PySem.F.entry_list_sort ?_)
 refine PySem.F.slot_list_sort.check _ _ _ _ _ _ _ _ ⟨_,g,rfl⟩ rfl ?_
 rw [ksk_t1]
 refine ZkI (N:=N) Fo hb X.A.in1.in1 hr.in1.in1 ?_ (fun s H e=>e.in1.in1) I2 nh g hD fD rv dn ok fun s' H' vs J sm hn dv=>?_
 ·have:=hr.un;show X.A.units+1+1+40<_;omega
 ·refine Qae ?_
  refine ⟨.ref _,_,J,rfl,q _ vs _ (fun b u e=>?_) hD Zad ?_⟩
  ·rw [Zt (fun z=>by rw [z,hD] at e;cases e)];exact sm b u e
  ·exact DenL.step (M:=fun _=>False) ⟨fun b u e z=>by
    rw [Zt (fun z=>by rw [z,hn] at e;cases e)];exact e,fun b hb=>by
    rcases hb with hb | hb
    ·exact .inl hb
    ·subst hb;exact .inr hn⟩ _ _ dv
end
section
variable {X:Cx} {M:Fb} {H0:Hp} {k:Nat} {fn:Addr} {fd:QaH} {ps:List Str} {F:List Sl->Option Rv} {e:Expr} {f:VE->Option D} {x y:Str} {p p2 kpos pos:Pos}
noncomputable def ZgX (F:List Sl->Option Rv) (f:VE->Option D):VE->Option (List D):=fun ρ=>match f ρ with
 | some (.lst xs true)=>(unf xs).bind fun kvs=>Zek F (kvs.map fun p=>kD p.1)
 | _=>none
theorem ZlF (hcalm:X.calm=true) (Fo:FnOk X.prog X.w X.K X.mg X.base CX0 k fn fd ps (spD X.K F)) (hr:Room (k+2) X.A) (hg:Gl X x) (hm:X.mg x=none) (hv:Qbe x=some (.builtin "sorted")) (hgf:Gl X y) (hmf:X.mg y=some (.ref fn)) (hb:Binds X.K fd ps []) (he:JE X e (tP X.K M H0 f))
  (hn:x≠"__name__":=by decide) (hdb:(x==("__debug__":Str))=false:=by decide) (hdb2:(y==("__debug__":Str))=false:=by decide) (hs:Qas [e] X.env=(false,eval e X.env)::Qas [] X.env:=by exact ZaM (fun _ _ z=>nomatch z)) :
  JE X (.Call (.Name x p) [e] [⟨some "key",.Name y p2,kpos⟩] pos) (tF X.K M H0 (ZgX F f)):=⟨have he:=he.h;by
 intro pins s σ H Q I h
 obtain ⟨ρ,ys,R,ev,q⟩:=h
 refine Qb8 (Zb1 I hg hm hv ?_ hn hdb)
 unfold ZgX at ev
 split at ev
 ·next xs hf =>
  cases hu:unf xs with
  | none=>rw [hu] at ev;cases ev
  | some kvs =>
  rw [hu] at ev
  obtain ⟨ok,rfl⟩:=Zk5 ev
  have ha:=(ZaC he (pa_nil (X:=X)) hs) pos pins s σ H (fun vs H1=>∃ v,vs=[v]/\Same H H1/\DenP X.K (Nf M ρ σ) H1 (.lst xs true) v) I ⟨ρ,.lst xs true,R,hf,fun v H1 s1 d1=>⟨v,rfl,s1,d1⟩⟩
  have hkw:=ZlR (nm:=some "key") (kpos:=kpos) (ZgN (v:=.ref fn) (pos:=p2) hgf hmf rfl hdb2) (ZoA (X:=X))
  rw [hs] at ha ⊢
  refine callWith_builtin_kwB rfl rfl ?_
  unfold evalArgs
  refine Qaa (thn ha fun us s1 hh=>?_)
  obtain ⟨vs,H1,I1,r1,v,rfl,sm,d1⟩:=hh
  refine Qaa (Qae ?_)
  refine Qa6 ?_
  refine Qaa (thn (hkw pos pins s1 σ H1 (fun zs H2=>zs=[.ref fn]/\H2=H1) I1 ⟨rfl,rfl⟩) fun ks s2 hh=>?_)
  obtain ⟨zs,H2,I2,r2,rfl,rfl⟩:=hh
  refine Qaa (Qae ?_)
  refine Qae ?_
  obtain ⟨u,rfl,ru⟩:=ZaV r1
  obtain ⟨u2,rfl,ru2⟩:=ZaV r2
  cases ru2
  rw [Zc4 hu] at d1
  obtain ⟨a,ws,rfl,sq,dl⟩:=d1
  cases ru
  obtain ⟨tr,dc,pd⟩:=ZhA sq dl
  have R1:=R.st sm
  exact ZoK (N:=Nf M ρ σ) Fo hb hr hcalm I2 R1.nh dc pd.kden ok fun da vs H' s' hn' hd' dv=>q da vs H' (sm.trans s') (sm.none hn') hd' dv
 ·cases ev⟩
end
end L2
namespace L2
open PySem PySem.Spec PyProof.Rows
abbrev IsZ (h:Heap) (z TI TO:Addr) (f0:Value) (b:Bool):Prop :=
 h.get? z=some { cls:=.type "zip",dict:=none,data:=.fields #[f0,.bool b,.bool false,.ref TI,.ref TO],slots:=#[] }
def Fr0 (v:Value):Prop:=v=.none\/∃ a:Nat,v=rawInt a
section
variable {prog:Qav} {w:World} {A:Around} {E:Value->Shared->Prop} {s:Shared}
variable {z tin tout ia ib:Addr} {fa fb:List Addr} {n m k:Nat} {isA isB:Nat->Value->Prop} {sa sb:Nat->Heap->Prop} {a b:Value} {v0:Value} {b1:Bool}
theorem Zn0 {a:Addr} {Q:Option Obj->Shared->Prop} (h:Q (s.heap.get? a) s):wpAny (model prog w) A (loadIfAlive a) Q E s:=fun _ _ _=>h
theorem ZjV {Q:Bool->Shared->Prop} (hz:IsZ s.heap z tin tout v0 b1) (hv:Fr0 v0)
  (q:∀ (b:Bool) h' b',IsZ h' z tin tout v0 b'->QaX z s.heap h'->Q b { s with heap:=h' }):wpAny (model prog w) A (QaO (.ref z)) Q E s:=by
 unfold QaO
 rcases hv with rfl | ⟨a,rfl⟩
 ·exact Qaa (QaM hz rfl (x:=.none) rfl (Qae (q true s.heap b1 hz (.refl ..))))
 ·refine Qaa (QaM hz rfl (x:=rawInt a) rfl ?_)
  show wpAny _ _ (loadIfAlive ((a:Int).toNat) >>= _) _ _ s
  refine Qaa (Zn0 ?_)
  refine wpAny_ite_split (fun _=>Qae (q true s.heap b1 hz (.refl ..))) fun _=>?_
  refine Qaa (QaM hz rfl (x:=.bool b1) rfl ?_)
  refine wpAny_ite_split (fun _=>?_) fun _=>?_
  ·dsimp only
   refine Qaa (QaN hz (by simp) fun g1 z1 b1'=>Qae ?_)
   exact q false g1 true z1 b1'
  ·exact Qae (q false s.heap b1 hz (.refl ..))
theorem Znu {Q:Option Value->Shared->Prop} (D:ZApart z tin tout ia ib fa fb) (SA:Za0 prog w ia fa n isA sa) (SB:Za0 prog w ib fb m isB sb)
  (hz:IsZ s.heap z tin tout v0 b1) (hv:Fr0 v0) (hi:IsPair s.heap tin (.ref ia) (.ref ib)) (ho:IsPair s.heap tout a b) (ha:sa k s.heap) (hb:sb k s.heap) (kn:k<n) (km:k<m)
  (q:∀ x y h' v' b',isA k x->isB k y->Fr0 v'->IsZ h' z tin tout v' b'->(∃ a b,IsPair h' tout a b)->sa (k+1) h'->sb (k+1) h'->IsPair h' s.heap.objs.size x y->h'.objs.size=s.heap.objs.size+1 ->
   (∀ c o,c≠z->c≠tout->c≠ia->c≠ib->s.heap.get? c=some o->h'.get? c=some o)->Q (some (.ref s.heap.objs.size)) { s with heap:=h' }) :
  wpAny (model prog w) A (pyNext (.ref z)) Q E s:=by
 have ty:s.TypeIs (.ref z) "zip":=⟨_,hz,rfl⟩
 unfold pyNext
 refine Qaa (Qb1 (QaU (name:=QaY "__next__") ty Qbq (Qa4 Qbq ty QcE ?_ (Qcx _))))
 show wpAny _ _ (field (.ref z) 2 >>= _) _ _ _
 refine Qaa (QaM hz rfl (x:=.bool false) rfl ?_)
 show wpAny _ _ (field (.ref z) 3 >>= _) _ _ _
 refine Qaa (QaM hz rfl (x:=.ref tin) rfl ?_)
 refine Qaa (Qa5 hi rfl ?_)
 show wpAny _ _ (QaO (.ref z) >>= _) _ _ _
 refine Qaa (ZjV hz hv fun fr g0 b0 z0 s0=>?_)
 have ho0:IsPair g0 tout a b:=s0.extBut _ _ D.n2 ho
 have ha0:sa k g0:=D.keepA SA ha (.inl rfl) s0
 have hb0:sb k g0:=D.keepB SB hb (.inl rfl) s0
 cases fr with
 | true =>
  rw [if_pos rfl]
  refine Qaa (Qb6 ?_)
  refine Qaa (QaM z0 rfl (x:=.ref tout) rfl ?_)
  refine Qaa (QaN z0 (by simp) fun g1 z1 b1=>?_)
  have z1:IsZ g1 z tin tout .ellipsis b0:=z1
  refine Qaa ?_
  simp only [List.zipIdx_nil,List.zipIdx_cons,QcO,Qcd]
  refine Qaa (Qaa (QbM ?_))
  show wpAny _ _ (QaB (.ref ia) >>= _) _ _ _
  refine Qaa (SA.item _ _ _ k _ kn (D.keepA SA ha0 (.inl rfl) b1) fun x g2 hx a2 b2=>Qae ?_)
  have o2:IsPair g2 tout a b:=b2.extBut _ _ D.n8 (b1.extBut _ _ D.n2 ho0)
  refine Qaa (Qa5 o2 rfl ?_)
  refine Qaa (wpAny_updateSeq_pair o2 fun g3 o3 b3=>?_)
  have o3:IsPair g3 tout x b:=o3
  refine Qaa (Qb7 (Qae ?_))
  refine Qaa (Qaa (QbM ?_))
  show wpAny _ _ (QaB (.ref ib) >>= _) _ _ _
  have hb3:sb k g3:=D.keepB SB (D.keepB SB (D.keepB SB hb0 (.inl rfl) b1) (.inr (.inr rfl)) b2) (.inr (.inl rfl)) b3
  refine Qaa (SB.item _ _ _ k _ km hb3 fun y g4 hy a4 b4=>Qae ?_)
  have o4:IsPair g4 tout x b:=b4.extBut _ _ D.n9 o3
  refine Qaa (Qa5 o4 rfl ?_)
  refine Qaa (wpAny_updateSeq_pair o4 fun g5 o5 b5=>?_)
  have o5:IsPair g5 tout x y:=o5
  refine Qaa (Qb7 (Qae (Qae ?_)))
  refine Qaa (Qa5 o5 rfl ?_)
  refine Qaa (wpAny_newTuple ?_)
  have sz:g5.objs.size=s.heap.objs.size:=by rw [b5.1,b4.1,b3.1,b2.1,b1.1,s0.1]
  have z5:IsZ g5 z tin tout .ellipsis b0:=b5.extBut _ _ (QaD D.n2) (b4.extBut _ _ (QaD D.n4) (b3.extBut _ _ (QaD D.n2) (b2.extBut _ _ (QaD D.n3) z1)))
  have kp:∀ c o,c≠z->c≠tout->c≠ia->c≠ib->s.heap.get? c=some o->g5.get? c=some o:=fun c o c1 c2 c3 c4 e =>
   b5.extBut _ _ c2 (b4.extBut _ _ c4 (b3.extBut _ _ c2 (b2.extBut _ _ c3 (b1.extBut _ _ c1 (s0.extBut _ _ c1 e)))))
  have a5:sa (k+1) g5:=D.keepA SA (D.keepA SA (D.keepA SA a2 (.inr (.inl rfl)) b3) (.inr (.inr rfl)) b4) (.inr (.inl rfl)) b5
  have b5':sb (k+1) g5:=D.keepB SB a4 (.inr (.inl rfl)) b5
  have zlt:z<g5.objs.size:=Qaq z5
  show wpAny _ _ (Qa8 (.ref z) (.ref g5.objs.size) >>= _) _ _ _
  refine Qaa ?_
  unfold Qa8
  have z6:IsZ (g5.push { cls:=.type "tuple",data:=.seq #[x,y] }) z tin tout .ellipsis b0:=Qac _ z5
  refine Qaa (QaN z6 (by simp) fun g7 z7 b7=>?_)
  have z7:IsZ g7 z tin tout (rawInt g5.objs.size) b0:=z7
  refine QaN z7 (by simp) fun g8 z8 b8=>?_
  have z8:IsZ g8 z tin tout (rawInt g5.objs.size) false:=z8
  have up:∀ c o,c≠z->g5.get? c=some o->g8.get? c=some o:=fun c o c1 e=>b8.extBut _ _ c1 (b7.extBut _ _ c1 (Qac _ e))
  have new:IsPair g8 g5.objs.size x y:=b8.extBut _ _ (Qbv zlt) (b7.extBut _ _ (Qbv zlt) (Qao _ rfl))
  have s8:g8.objs.size=g5.objs.size+1:=by rw [b8.1,b7.1,Qba]
  have a8:sa (k+1) g8:=SA.frame _ _ _ a5 fun c hc o e=>up c o (by
   rcases hc with rfl | hc
   ·exact D.n3
   ·exact (D.fz c (.inl hc)).1) e
  have b8':sb (k+1) g8:=SB.frame _ _ _ b5' fun c hc o e=>up c o (by
   rcases hc with rfl | hc
   ·exact D.n4
   ·exact (D.fz c (.inr hc)).1) e
  rw [sz] at new s8
  refine Qae ⟨_,rfl,Qae ?_⟩
  show Q (some (.ref g5.objs.size)) _
  rw [sz]
  exact q x y g8 _ _ hx hy (.inr ⟨_,rfl⟩) z8 ⟨x,y,up _ _ D.n2 o5⟩ a8 b8' new s8 fun c o c1 c2 c3 c4 e=>up c o c1 (kp c o c1 c2 c3 c4 e)
 | false =>
  simp only [QaS,if_false]
  refine Qaa ?_
  simp only [<- Array.forIn_toList,Qcd,QcO]
  refine Qaa (Qaa (Qa6 ?_))
  show wpAny _ _ (QaB (.ref ia) >>= _) _ _ _
  refine Qaa (SA.item _ _ _ k _ kn ha0 fun x g2 hx a2 b2=>Qae (Qae ?_))
  refine Qaa (Qaa (Qa6 ?_))
  show wpAny _ _ (QaB (.ref ib) >>= _) _ _ _
  have hb2:sb k g2:=D.keepB SB hb0 (.inr (.inr rfl)) b2
  refine Qaa (SB.item _ _ _ k _ km hb2 fun y g4 hy a4 b4=>Qae (Qae (Qae ?_)))
  refine Qaa (wpAny_newTuple ?_ (show (2:Nat)<=Qaj by decide))
  have sz:g4.objs.size=s.heap.objs.size:=by rw [b4.1,b2.1,s0.1]
  have z4:IsZ g4 z tin tout v0 b0:=b4.extBut _ _ (QaD D.n4) (b2.extBut _ _ (QaD D.n3) z0)
  have kp:∀ c o,c≠z->c≠tout->c≠ia->c≠ib->s.heap.get? c=some o->g4.get? c=some o:=fun c o c1 c2 c3 c4 e =>
   b4.extBut _ _ c4 (b2.extBut _ _ c3 (s0.extBut _ _ c1 e))
  have a5:sa (k+1) g4:=D.keepA SA a2 (.inr (.inr rfl)) b4
  have up:∀ c o,g4.get? c=some o->(g4.push { cls:=.type "tuple",data:=.seq #[x,y] }).get? c=some o:=fun c o e=>Qac _ e
  have new:IsPair (g4.push { cls:=.type "tuple",data:=.seq #[x,y] }) g4.objs.size x y:=Qao _ rfl
  have s8:(g4.push { cls:=.type "tuple",data:=.seq #[x,y] }).objs.size=g4.objs.size+1:=Qba ..
  rw [sz] at new s8
  refine Qae ⟨_,rfl,Qae ?_⟩
  show Q (some (.ref g4.objs.size)) _
  rw [sz]
  exact q x y _ _ _ hx hy hv (up _ _ z4) ⟨a,b,up _ _ (b4.extBut _ _ D.n9 (b2.extBut _ _ D.n8 ho0))⟩ (SA.frame _ _ _ a5 fun c hc o e=>up c o e) (SB.frame _ _ _ a4 fun c hc o e=>up c o e) new s8 fun c o c1 c2 c3 c4 e=>up c o (kp c o c1 c2 c3 c4 e)
theorem Zp6 {Q:Option Value->Shared->Prop} (hh:A.handled=none) (D:ZApart z tin tout ia ib fa fb) (SA:Za0 prog w ia fa n isA sa) (SB:Za0 prog w ib fb m isB sb)
  (hz:IsZ s.heap z tin tout v0 b1) (hv:Fr0 v0) (hi:IsPair s.heap tin (.ref ia) (.ref ib)) (ho:IsPair s.heap tout a b) (ha:sa k s.heap) (hb:sb k s.heap) (kn:n<=k\/m<=k)
  (q:∀ h',(∀ c o,c≠z->c≠tout->c≠ia->c≠ib->s.heap.get? c=some o->h'.get? c=some o)->Q none { s with heap:=h' }) :
  wpAny (model prog w) A (pyNext (.ref z)) Q E s:=by
 have ty:s.TypeIs (.ref z) "zip":=⟨_,hz,rfl⟩
 unfold pyNext
 refine Qaa (Qb1 (QaU (name:=QaY "__next__") ty Qbq (Qa4 Qbq ty QcE ?_ (Qcx _))))
 have last:∀ (h':Heap) (e:Addr),(∀ c o,c≠z->c≠tout->c≠ia->c≠ib->s.heap.get? c=some o->h'.get? c=some o)->(∃ o,h'.get? e=some o/\o.cls=.type "StopIteration") ->
   wpAny (model prog w) A (do if (<- isInstance (.ref e) (.type "StopIteration"))=true then pure (none:Option Value) else throw (QaR e)) Q E { s with heap:=h' }:=fun h' e kp ⟨o,e1,c1⟩ =>
  Qaa (wpAny_isInstance (T:="StopIteration") (b:=true) ⟨o,e1,c1⟩ isSubtype_stop (Qae (q h' kp)))
 show wpAny _ _ (field (.ref z) 2 >>= _) _ _ _
 refine Qaa (QaM hz rfl (x:=.bool false) rfl ?_)
 show wpAny _ _ (field (.ref z) 3 >>= _) _ _ _
 refine Qaa (QaM hz rfl (x:=.ref tin) rfl ?_)
 refine Qaa (Qa5 hi rfl ?_)
 show wpAny _ _ (QaO (.ref z) >>= _) _ _ _
 refine Qaa (ZjV hz hv fun fr g0 b0 z0 s0=>?_)
 have ho0:IsPair g0 tout a b:=s0.extBut _ _ D.n2 ho
 have ha0:sa k g0:=D.keepA SA ha (.inl rfl) s0
 have hb0:sb k g0:=D.keepB SB hb (.inl rfl) s0
 cases fr with
 | true =>
  rw [if_pos rfl]
  refine Qaa (Qb6 ?_)
  refine Qaa (QaM z0 rfl (x:=.ref tout) rfl ?_)
  refine Qaa (QaN z0 (by simp) fun g1 z1 b1=>?_)
  have z1:IsZ g1 z tin tout .ellipsis b0:=z1
  refine Qaa ?_
  simp only [List.zipIdx_nil,List.zipIdx_cons,QcO,Qcd]
  refine Qaa (Qaa (QbM ?_))
  show wpAny _ _ (QaB (.ref ia) >>= _) _ _ _
  by_cases ka:n<=k
  ·refine Qaa (SA.fin A.in1 _ _ k _ (by first | exact hh | simpa using hh) ka (D.keepA SA ha0 (.inl rfl) b1) fun g2 e x2 he=>?_)
   obtain ⟨oe,e1,c1⟩:=he
   have z2:IsZ g2 z tin tout .ellipsis b0:=x2 _ _ (QaD D.n3) z1
   have ez:e≠z:=fun x=>by subst x;rw [z2] at e1;cases e1;simp at c1
   exact QaN z2 (by simp) fun g3 _ b3=>last g3 e (fun c o c1 _ c3 _ x=>b3.extBut _ _ c1 (x2 _ _ c3 (b1.extBut _ _ c1 (s0.extBut _ _ c1 x)))) ⟨oe,b3.extBut _ _ ez e1,c1⟩
  ·have kb:m<=k:=by rcases kn with h | h;exact absurd h ka;exact h
   refine Qaa (SA.item _ _ _ k _ (Nat.lt_of_not_le ka) (D.keepA SA ha0 (.inl rfl) b1) fun x g2 hx a2 b2=>Qae ?_)
   have o2:IsPair g2 tout a b:=b2.extBut _ _ D.n8 (b1.extBut _ _ D.n2 ho0)
   refine Qaa (Qa5 o2 rfl ?_)
   refine Qaa (wpAny_updateSeq_pair o2 fun g3 o3 b3=>?_)
   have o3:IsPair g3 tout x b:=o3
   refine Qaa (Qb7 (Qae ?_))
   refine Qaa (Qaa (QbM ?_))
   show wpAny _ _ (QaB (.ref ib) >>= _) _ _ _
   have hb3:sb k g3:=D.keepB SB (D.keepB SB (D.keepB SB hb0 (.inl rfl) b1) (.inr (.inr rfl)) b2) (.inr (.inl rfl)) b3
   refine Qaa (SB.fin A.in1 _ _ k _ (by first | exact hh | simpa using hh) kb hb3 fun g4 e x4 he=>?_)
   obtain ⟨oe,e1,c1⟩:=he
   have z4:IsZ g4 z tin tout .ellipsis b0:=x4 _ _ (QaD D.n4) (b3.extBut _ _ (QaD D.n2) (b2.extBut _ _ (QaD D.n3) z1))
   have ez:e≠z:=fun x=>by subst x;rw [z4] at e1;cases e1;simp at c1
   exact QaN z4 (by simp) fun g5 _ b5=>last g5 e (fun c o c1 c2 c3 c4 x=>b5.extBut _ _ c1 (x4 _ _ c4 (b3.extBut _ _ c2 (b2.extBut _ _ c3 (b1.extBut _ _ c1 (s0.extBut _ _ c1 x)))))) ⟨oe,b5.extBut _ _ ez e1,c1⟩
 | false =>
  simp only [QaS,if_false]
  refine Qaa ?_
  simp only [<- Array.forIn_toList,Qcd,QcO]
  refine Qaa (Qaa (Qa6 ?_))
  show wpAny _ _ (QaB (.ref ia) >>= _) _ _ _
  by_cases ka:n<=k
  ·refine Qaa (SA.fin A.in1 _ _ k _ (by first | exact hh | simpa using hh) ka ha0 fun g2 e x2 he=>?_)
   exact last g2 e (fun c o c1 _ c3 _ x=>x2 _ _ c3 (s0.extBut _ _ c1 x)) he
  ·have kb:m<=k:=by rcases kn with h | h;exact absurd h ka;exact h
   refine Qaa (SA.item _ _ _ k _ (Nat.lt_of_not_le ka) ha0 fun x g2 hx a2 b2=>Qae (Qae ?_))
   refine Qaa (Qaa (Qa6 ?_))
   show wpAny _ _ (QaB (.ref ib) >>= _) _ _ _
   have hb2:sb k g2:=D.keepB SB hb0 (.inr (.inr rfl)) b2
   refine Qaa (SB.fin A.in1 _ _ k _ (by first | exact hh | simpa using hh) kb hb2 fun g4 e x4 he=>?_)
   exact last g4 e (fun c o c1 c2 c3 c4 x=>x4 _ _ c4 (b2.extBut _ _ c3 (s0.extBut _ _ c1 x))) he
end
theorem ZsN {prog:Qav} {w:World} {A:Around} {E:Value->Shared->Prop} {s:Shared} {z TI TO:Addr} {f0:Value} {b0:Bool} {Q:Value->Shared->Prop} (hz:IsZ s.heap z TI TO f0 b0) (h:Q (.ref z) s):wpAny (model prog w) A (pyIter (.ref z)) Q E s:=by
 have hT:s.TypeIs (.ref z) "zip":=⟨_,hz,rfl⟩
 refine wpAny_pyIter_slot hT F.slot_zip_iter (Qa4 F.slot_zip_iter hT F.entry_zip_iter ?_ (F.args_zip_iter_1 _))
 show wpAny _ _ (ret (.ref z)) _ _ s
 exact Qae ⟨_,rfl,"zip",_,hT,F.slot_zip_next.lookup,h⟩
theorem Zoj {prog:Qav} {w:World} {A:Around} {E:Value->Shared->Prop} {s:Shared} {z TI TO a:Addr} {v0:Value} {b0:Bool} {Q:Unit->Shared->Prop} (tg:Expr) (hz:IsZ s.heap z TI TO v0 b0) (hv:Fr0 v0)
  (q:∀ h' v',Fr0 v'->IsZ h' z TI TO v' b0->QaX z s.heap h'->Q () { s with heap:=h' }):wpAny (model prog w) A (Qcc tg (.ref z) (.ref a)) Q E s:=by
 have stay:Q () s:=q s.heap v0 hv hz (.refl ..)
 have go:wpAny (model prog w) A (do
   let o <- load z
   match o.cls,o.data with
   | .type n,.fields vs =>
    if ["enumerate","zip","dict_itemiterator","dict_reverseitemiterator","odict_iterator","itertools.zip_longest","itertools.pairwise"].contains n&&vs[0]?==some (rawInt a) then
     rule "for.unpacks-the-owned-tuple"
     updateField z 0 .none
   | _,_=>pure ()) Q E s:=by
  refine Qaa (wpAny_load hz ?_)
  refine wpAny_ite_split (fun _=>?_) fun _=>Qae stay
  refine Qaa (Qb6 ?_)
  show wpAny _ _ (setField (.ref z) 0 .none) Q E s
  exact QaN hz (by simp) fun h' hz' hs'=>q h' .none (.inl rfl) hz' hs'
 unfold Qcc
 cases tg<;>first | exact Qae stay | exact go
theorem ZoW {P:Qav} {w:World} {K:Qab} {tg:Expr} (S T:Src) (n:Nat) (h1:S.ad<n) (h2:T.ad<n) :
  ZeQ P w K tg (Itz K S T) [n+4,n+2,n+3,n,n+1] (n+4) (fun i h=>(∃ v0 b0,Fr0 v0/\IsZ h (n+4) (n+2) (n+3) v0 b0)/\IsPair h (n+2) (.ref n) (.ref (n+1))/\(∃ a b,IsPair h (n+3) a b)/\S.it h n i/\T.it h (n+1) i) where
 mem:=by simp
 obj:=fun i h ⟨⟨v0,b0,hv,z⟩,a,⟨x,y,b⟩,c,d⟩ q hq=>by
  simp only [Qbk,Qbt,or_false] at hq
  rcases hq with rfl | rfl | rfl | rfl | rfl
  ·exact ⟨_,z,fun v e=>nomatch (show Data.fields _=QcA v from e)⟩
  ·exact ⟨_,a,fun v e=>nomatch (show Data.seq _ _=QcA v from e)⟩
  ·exact ⟨_,b,fun v e=>nomatch (show Data.seq _ _=QcA v from e)⟩
  ·exact S.itOb c
  ·exact T.itOb d
 keep:=fun i h h' ⟨⟨v0,b0,hv,z⟩,a,⟨x,y,b⟩,c,d⟩ k=>⟨⟨v0,b0,hv,k _ (by simp) _ z⟩,k _ (by simp) _ a,⟨x,y,k _ (by simp) _ b⟩,S.itAt c fun o e=>k _ (by simp) o e,T.itAt d fun o e=>k _ (by simp) o e⟩
 item:=by
  intro X hP hw hK hc i pins s σ H E I hf ⟨⟨v0,b0,hv,z⟩,a,⟨u,v,b⟩,c,d⟩ ⟨xs,ys,x,y,hx,hy,ex,ey⟩
  subst hP hw hK
  obtain ⟨its,r1,o1,_⟩:=S.of I hx
  obtain ⟨jts,r2,o2,_⟩:=T.of I hy
  obtain ⟨u1,e1,ru1⟩:=r1.get ex
  obtain ⟨u2,e2,ru2⟩:=r2.get ey
  have l1:=(List.getElem?_eq_some_iff.mp e1).1
  have l2:=(List.getElem?_eq_some_iff.mp e2).1
  refine Znu (ZoI h1 h2) (S.sub (P:=X.prog) (w:=X.w) its.toArray) (T.sub (P:=X.prog) (w:=X.w) jts.toArray) z hv a b ⟨c,o1⟩ ⟨d,o2⟩ (by simpa using l1) (by simpa using l2) fun x' y' h' v' b' hx' hy' hv' z' to' ⟨c',_⟩ ⟨d',_⟩ new sz kp=>?_
  have hx1:x'=u1:=by simp [e1] at hx';exact hx'.symm
  have hy1:y'=u2:=by simp [e2] at hy';exact hy'.symm
  subst hx1 hy1
  have hlt:n+4<s.heap.objs.size:=Qaq z
  refine ⟨_,rfl,Zoj tg z' hv' fun h2' v2 hv2 z2 sb=>?_⟩
  have up:∀ q o,q≠n+4->h'.get? q=some o->h2'.get? q=some o:=fun q o hq e=>sb.extBut _ _ hq e
  have I1:Inv X pins σ (upd H s.heap.objs.size (.tup [x,y])) { s with heap:=h2' }:=by
   refine I.yielded hf (fun q o hq e=>up q o (fun z=>hq (by simp [z])) (kp q o (fun z=>hq (by simp [z])) (fun z=>hq (by simp [z])) (fun z=>hq (by simp [z])) (fun z=>hq (by simp [z])) e)) (Qau _) ?_
   exact ⟨show 2<=Qaj by decide,[x',y'],.cons ru1 (.cons ru2 .nil),⟨_,up _ _ (by (show @Ne Nat _ _;omega)) new,rfl,_,rfl⟩⟩
  obtain ⟨u',v'',to''⟩:=to'
  refine ⟨.ref s.heap.objs.size,_,I1,rfl,⟨_,x,y,rfl,I.hok.fresh (Qau _),rfl,fun zs hz=>by rw [S.inj I hz hx];exact ex,fun zs hz=>by rw [T.inj I hz hy];exact ey⟩,⟨⟨v2,b',hv2,z2⟩,up _ _ (by (show @Ne Nat _ _;omega)) (kp _ _ (by (show @Ne Nat _ _;omega)) (by (show @Ne Nat _ _;omega)) (by (show @Ne Nat _ _;omega)) (by (show @Ne Nat _ _;omega)) a),⟨u',v'',up _ _ (by (show @Ne Nat _ _;omega)) to''⟩,S.itAt c' fun o e=>up _ o (by (show @Ne Nat _ _;omega)) e,T.itAt d' fun o e=>up _ o (by (show @Ne Nat _ _;omega)) e⟩,fun q hq=>?_⟩
  rw [Zt]
  ·exact (hf q hq).1
  ·simp only [Qbk,Qbt,or_false] at hq
   rcases hq with rfl | rfl | rfl | rfl | rfl<;>(show @Ne Nat _ _;omega)
 done:=by
  intro X hP hw hK hc i pins s σ H E I hf ⟨⟨v0,b0,hv,z⟩,a,⟨u,v,b⟩,c,d⟩ ⟨xs,ys,hx,hy,hl⟩
  subst hP hw hK
  obtain ⟨its,r1,o1,_⟩:=S.of I hx
  obtain ⟨jts,r2,o2,_⟩:=T.of I hy
  have q1:=r1.length
  have q2:=r2.length
  refine Zp6 (I.ok.hd hc) (ZoI h1 h2) (S.sub (P:=X.prog) (w:=X.w) its.toArray) (T.sub (P:=X.prog) (w:=X.w) jts.toArray) z hv a b ⟨c,o1⟩ ⟨d,o2⟩ (by simp only [Qal];omega) fun h' kp=>⟨rfl,I.turnedL hf fun q o hq e=>kp q o (fun z=>hq (by simp [z])) (fun z=>hq (by simp [z])) (fun z=>hq (by simp [z])) (fun z=>hq (by simp [z])) e⟩
 self:=fun _ _ _ _ _ ⟨⟨v0,b0,hv,z⟩,_⟩ q=>ZsN z q
section
variable {X:Cx} {M:Fb} {H0:Hp} {f g:VE->Option D} {a b tg:Expr} {p pos:Pos}
theorem Zdq (hg:Gl X "zip") (hm:X.mg "zip"=none) (ha:JE X a (tQ X.K M H0 f)) (hb:JE X b (tQ X.K M H0 g)) (hs:Qas [a,b] X.env=[(false,eval a X.env),(false,eval b X.env)]:=by rfl) (hs2:Qas [b] X.env=[(false,eval b X.env)]:=by rfl) (hs3:Qas [] X.env=[]:=by rfl) :
  JI X tg (.Call (.Name "zip" p) [a,b] [] pos) (tI X.K M H0 (ZdC f g)):=⟨have ha:=ha.h;have hb:=hb.h;by
 intro pins s σ H Q I ⟨ρ,ds,R,e,q⟩
 unfold ZdC at e
 split at e
 ·next xs ys ex ey =>
  cases e
  cases hf:f ρ with
  | none=>rw [hf] at ex;cases ex
  | some d1 =>
   cases hgv:g ρ with
   | none=>rw [hgv] at ey;cases ey
   | some d2 =>
    rw [hf] at ex
    rw [hgv] at ey
    have PA2:=ZaC ha (ZaC hb pa_nil (by rw [hs2,hs3])) (by rw [hs,hs2])
    refine Call_ (Zb1 I hg hm ZiK (Qbi (thn (PA2 pos pins s σ H (fun vs H2=>∃ S T us ws,vs=[.ref (Src.ad S),.ref (Src.ad T)]/\Same H H2/\DenL X.K (Nf M ρ σ) H2 xs us/\DenL X.K (Nf M ρ σ) H2 ys ws/\(∀ N2 H3,Step M (Nf M ρ σ) N2 H2 H3->S.sq X.K H3 us)/\∀ N2 H3,Step M (Nf M ρ σ) N2 H2 H3->T.sq X.K H3 ws) I ?_) fun us s1 ⟨vs,H1,I1,r1,q1⟩=>?_) (by rw [hs,hs2]) (by rw [hs2];rfl)))
    ·refine ⟨ρ,d1,R,hf,fun v1 H1 z1 q1=>⟨ρ,d2,R.st z1,hgv,fun v2 H2 z2 q2=>?_⟩⟩
     obtain ⟨S,us,e1,dl1,k1⟩:=q1.src ex
     obtain ⟨T,ws,e2,dl2,k2⟩:=q2.src ey
     exact ⟨S,T,us,ws,by rw [e1,e2],z1.trans z2,dl1.same z2,dl2,fun N2 H3 St=>k1 _ _ ((Step.of_same z2).trans St),k2⟩
    ·obtain ⟨S,T,us',ws,e1,z,dl1,dl2,k1,k2⟩:=q1
     subst e1
     cases r1 with
     | cons r rr =>
      cases rr with
      | cons r' rr =>
       cases rr
       cases r
       cases r'
       obtain ⟨its,v1,o1,_⟩:=S.of I1 (k1 _ _ Step.refl)
       obtain ⟨jts,v2,o2,_⟩:=T.of I1 (k2 _ _ Step.refl)
       refine Zp7 o1 o2 fun h' a1 a2 a3 a4 a5 kp=>wpAny_pyIter_zip a1 ?_
       refine ⟨_,_,_,_,H1,rfl,I1.kept (t':=s1.toks) kp,ZoW S T s1.heap.objs.size (S.lt o1) (T.lt o2),⟨⟨_,_,.inl rfl,a1⟩,a2,⟨_,_,a3⟩,a4,a5⟩,fun b hb=>?_,q _ _ z (Zts dl1 dl2 k1 k2)⟩
       have hl:s1.heap.objs.size<=b:=by
        simp only [Qbk,Qbt,or_false] at hb
        rcases hb with rfl | rfl | rfl | rfl | rfl<;>(show @LE.le Nat _ _ _;omega)
       exact I1.fpOk hl (I1.hok.fresh hl)
 ·cases e⟩
end
end L2
namespace L2
open PySem PySem.Spec PyProof.Rows
section
variable {prog:Qav} {w:World} {A:Around} {E:Value->Shared->Prop} {s:Shared} {l:Addr} {xs:Array (Int×Tok)}
theorem Zg9 {Q:Value->Shared->Prop} (hl:s.heap.IsTuple l (QbU xs))
  (h:∀ s₂:Shared,s₂={ s with heap:=s.heap.push { cls:=.type "tuple_iterator",data:=.fields #[.ref l,.int 0 0] } } ->
   (s₂.heap.IsTupleIter s.heap.objs.size l 0/\s₂.heap.IsTuple l (QbU xs))->(∀ b∈[s.heap.objs.size,l],b<s₂.heap.objs.size)->l≠s.heap.objs.size->Q (.ref s.heap.objs.size) s₂) :
  wpAny (model prog w) A (pyIter (.ref l)) Q E s:=by
 have hlt:l<s.heap.objs.size:=by obtain ⟨_,e,_⟩:=hl;exact Qaq e
 refine wpAny_pyIter_tuple hl (h _ rfl ⟨⟨_,Qao _ rfl,rfl,rfl⟩,hl.at fun o e=>Qac _ e⟩ (fun b hb=>?_) (QaL hlt))
 show b<(s.heap.push _).objs.size
 rw [Qba]
 rcases Qbk.mp hb with rfl | hb
 ·exact Nat.lt_succ_self _
 ·rcases Qbk.mp hb with rfl | hb
  ·exact Nat.lt_succ_of_lt hlt
  ·cases hb
theorem Zi3 {h':Heap} (hk:∀ b o,b∉[s.heap.objs.size]->(s.heap.push { cls:=.type "tuple_iterator",data:=.fields #[.ref l,.int 0 0] }).get? b=some o->h'.get? b=some o) :
  ∀ b o,s.heap.get? b=some o->h'.get? b=some o:=fun b o e=>by
 refine hk b o (fun hm=>?_) (Qac _ e)
 rcases Qbk.mp hm with e1 | hm
 ·exact absurd (e1 ▸ Qaq e) (Qbu _)
 ·cases hm
theorem Zne {Q:Value->Shared->Prop} (hh:A.handled=none) (hl:s.heap.IsTuple l (QbU xs)) (hne:0<xs.size)
  (h:∀ v h' tk,(QbU xs)[argBest (fun i j=>decide (numAt xs i > numAt xs j)) (xs.size-1)]?=some v->(∀ b o,s.heap.get? b=some o->h'.get? b=some o)->Q v { s with heap:=h',toks:=tk }) :
  wpAny (model prog w) A (call (.builtin "max") [.ref l]) Q E s:=by
 refine call_max_walk (Zg9 hl fun s₂ e st hfp hlI=>?_)
 subst e
 refine ⟨_,_,_,_,_,_,_,rfl,Walks.tuple (A:=A.in1) hh _ l hlI (QbU xs),st,hfp,by simpa [QbU] using hne,CmpOf.ints_gt (numAt xs) (fun _ _=>intItems_at),fun v h' tk hP hk=>?_⟩
 exact h v h' tk (by simpa [QbU] using hP) (Zi3 hk)
theorem Znb {Q:Value->Shared->Prop} (hh:A.handled=none) (hl:s.heap.IsTuple l (QbU xs)) (hne:0<xs.size)
  (h:∀ v h' tk,(QbU xs)[argBest (fun i j=>decide (numAt xs i<numAt xs j)) (xs.size-1)]?=some v->(∀ b o,s.heap.get? b=some o->h'.get? b=some o)->Q v { s with heap:=h',toks:=tk }) :
  wpAny (model prog w) A (call (.builtin "min") [.ref l]) Q E s:=by
 refine call_min_walk (Zg9 hl fun s₂ e st hfp hlI=>?_)
 subst e
 refine ⟨_,_,_,_,_,_,_,rfl,Walks.tuple (A:=A.in1) hh _ l hlI (QbU xs),st,hfp,by simpa [QbU] using hne,CmpOf.ints_lt (numAt xs) (fun _ _=>intItems_at),fun v h' tk hP hk=>?_⟩
 exact h v h' tk (by simpa [QbU] using hP) (Zi3 hk)
end
section
variable {X:Cx}
theorem ZoU (hc:X.calm=true):CallR X (.builtin "min") (fun xs H Q=>∃ (a:Addr) (ns:List Int),xs=[.ref a]/\SqT X.K H a (ns.map V.int)/\0<ns.length/\∀ m,m∈ns->(∀ a,a∈ns->m<=a)->Q (.int m) H):=by
 intro pins s σ H xs us Q I r h
 obtain ⟨a,ns,rfl,hs,hne,q⟩:=h
 obtain ⟨u,rfl,rx⟩:=ZaV r
 cases rx
 obtain ⟨its,rv,p,hz⟩:=I.tuple hs
 have hi:IntsAre its ns:=ZdL rv
 obtain ⟨ys,e⟩:=hi.allInts.items
 have hns:ns=ys.toList.map (·.1):=by rw [<- hi.numsOf,<- nums_intItems,<- e]
 have hsz:0<ys.size:=by
  have h3:=hne;rw [hns,Qaz,Qbo] at h3;exact h3
 have hl:s.heap.IsTuple a (QbU ys):=e ▸ (show s.heap.IsTuple a its.toArray from p)
 refine Znb (I.ok.hd hc) hl hsz fun v h' tk hv hk=>?_
 obtain ⟨t,rfl⟩:=intItems_at hv
 obtain ⟨h1,h2⟩:=argBest_lt (numAt ys) (ys.size-1)
 refine ⟨.int _,H,I.kept (t':=tk) hk,⟨t,rfl⟩,q _ ?_ fun b hb=>?_⟩
 ·rw [hns,numAt_eq];exact getD_mem (by rw [Qaz,Qbo];omega)
 ·rw [hns] at hb
  obtain ⟨j,hj,rfl⟩:=mem_getD hb
  rw [Qaz,Qbo] at hj
  rw [<- numAt_eq];exact h2 j (by omega)
theorem ZoT (hc:X.calm=true):CallR X (.builtin "max") (fun xs H Q=>∃ (a:Addr) (ns:List Int),xs=[.ref a]/\SqT X.K H a (ns.map V.int)/\0<ns.length/\∀ m,m∈ns->(∀ a,a∈ns->a<=m)->Q (.int m) H):=by
 intro pins s σ H xs us Q I r h
 obtain ⟨a,ns,rfl,hs,hne,q⟩:=h
 obtain ⟨u,rfl,rx⟩:=ZaV r
 cases rx
 obtain ⟨its,rv,p,hz⟩:=I.tuple hs
 have hi:IntsAre its ns:=ZdL rv
 obtain ⟨ys,e⟩:=hi.allInts.items
 have hns:ns=ys.toList.map (·.1):=by rw [<- hi.numsOf,<- nums_intItems,<- e]
 have hsz:0<ys.size:=by
  have h3:=hne;rw [hns,Qaz,Qbo] at h3;exact h3
 have hl:s.heap.IsTuple a (QbU ys):=e ▸ (show s.heap.IsTuple a its.toArray from p)
 refine Zne (I.ok.hd hc) hl hsz fun v h' tk hv hk=>?_
 obtain ⟨t,rfl⟩:=intItems_at hv
 obtain ⟨h1,h2⟩:=argBest_gt (numAt ys) (ys.size-1)
 refine ⟨.int _,H,I.kept (t':=tk) hk,⟨t,rfl⟩,q _ ?_ fun b hb=>?_⟩
 ·rw [hns,numAt_eq];exact getD_mem (by rw [Qaz,Qbo];omega)
 ·rw [hns] at hb
  obtain ⟨j,hj,rfl⟩:=mem_getD hb
  rw [Qaz,Qbo] at hj
  rw [<- numAt_eq];exact h2 j (by omega)
end
@[simp] def Zjr:List D->Option D
  | [.tup xs]=>((ZbV xs).bind Zm4).map D.int
  | _=>none
@[simp] def Zjw:List D->Option D
  | [.tup xs]=>((ZbV xs).bind ZmH).map D.int
  | _=>none
section
variable {K:Qab}
theorem Zrm:RcD K (fun xs H Q=>∃ (a:Addr) (ns:List Int),xs=[.ref a]/\SqT K H a (ns.map V.int)/\0<ns.length/\∀ m,m∈ns->(∀ a,a∈ns->m<=a)->Q (.int m) H) Zjr:=by
 intro N H vs ds d Q nh h e q
 unfold Zjr at e
 split at e
 ·next xs =>
  cases hb:ZbV xs with
  | none=>rw [hb] at e;cases e
  | some bs =>
   rw [hb] at e
   simp only [Qah] at e
   cases hm:Zm4 bs with
   | none=>rw [hm] at e;cases e
   | some k =>
    rw [hm] at e;cases e
    obtain ⟨v,rfl,hv⟩:=Paired.one' h
    obtain ⟨a,ws,e1,q1,r1⟩:=hv.tup
    subst e1
    rw [Zd8 hb] at r1
    rw [Zdr r1] at q1
    refine ⟨a,bs,rfl,q1,?_,fun m h1 h2=>?_⟩
    ·cases bs with
     | nil=>cases hm
     | cons=>simp
    ·rw [Znz hm h1 h2];exact q _ H (Same.refl H) ZaN
 ·cases e
theorem ZrO:RcD K (fun xs H Q=>∃ (a:Addr) (ns:List Int),xs=[.ref a]/\SqT K H a (ns.map V.int)/\0<ns.length/\∀ m,m∈ns->(∀ a,a∈ns->a<=m)->Q (.int m) H) Zjw:=by
 intro N H vs ds d Q nh h e q
 unfold Zjw at e
 split at e
 ·next xs =>
  cases hb:ZbV xs with
  | none=>rw [hb] at e;cases e
  | some bs =>
   rw [hb] at e
   simp only [Qah] at e
   cases hm:ZmH bs with
   | none=>rw [hm] at e;cases e
   | some k =>
    rw [hm] at e;cases e
    obtain ⟨v,rfl,hv⟩:=Paired.one' h
    obtain ⟨a,ws,e1,q1,r1⟩:=hv.tup
    subst e1
    rw [Zd8 hb] at r1
    rw [Zdr r1] at q1
    refine ⟨a,bs,rfl,q1,?_,fun m h1 h2=>?_⟩
    ·cases bs with
     | nil=>cases hm
     | cons=>simp
    ·rw [Zoy hm h1 h2];exact q _ H (Same.refl H) ZaN
 ·cases e
end
@[simp] def ZsL (o:Option D) (ρ:VE):Res:=match o with
  | some _=>.next ρ
  | none=>.fail
section
variable {X:Cx} {K:Qab} {M:Fb} {H0:Hp} {e:Expr} {f:VE->Option D} {pos:Pos}
theorem ZpI (h:JE X e (tD K M H0 f)) (hs:swapsWith e none pos.line X.env=pure false:=by rfl):JS X (.Expr e pos) (tS K M H0 fun ρ=>ZsL (f ρ) ρ):=⟨(Zic h.h hs).mono fun D' σ H ⟨ρ,R,q⟩=>by
 try dsimp only at q
 cases hf:f ρ with
 | none=>rw [hf] at q;exact QaJ q
 | some d =>
  rw [hf] at q
  exact ⟨ρ,d,R,hf,fun v H' s hv=>q σ H' (R.st s) (Step.of_same s)⟩⟩
end
end L2
namespace L2
open PySem PySem.Spec PyProof.Rows
@[simp] theorem Zvi (a b:Int):eqD (.int a) (.int b)=decide (a=b):=by simp only [eqD];by_cases h:a=b<;>simp [h]
@[simp] theorem ZvF (a b:Str):eqD (.str a) (.str b)=decide (a=b):=by simp only [eqD];by_cases h:a=b<;>simp [h]
@[simp] theorem Zvx (a b:Bool):eqD (.bl a) (.bl b)=decide (a=b):=by simp only [eqD];by_cases h:a=b<;>simp [h]
@[simp] theorem Zvv:eqD .non .non=true:=by simp only [eqD]
@[simp] theorem Zvw (a:Bool) (b:Int):eqD (.bl a) (.int b)=decide ((if a then 1 else 0)=b):=by simp only [eqD];by_cases h:(if a then 1 else 0)=b<;>simp [h]
@[simp] theorem ZvK (a:Int) (b:Bool):eqD (.int a) (.bl b)=decide (a=(if b then 1 else 0)):=by simp only [eqD];by_cases h:a=(if b then 1 else 0)<;>simp [h]
@[simp] theorem ZvS (a:Int) (b:Str):eqD (.int a) (.str b)=false:=by simp only [eqD]
@[simp] theorem Zvo (a:Str) (b:Int):eqD (.str a) (.int b)=false:=by simp only [eqD]
@[simp] theorem ZvN (a:Bool) (b:Str):eqD (.bl a) (.str b)=false:=by simp only [eqD]
@[simp] theorem ZvI (a:Str) (b:Bool):eqD (.str a) (.bl b)=false:=by simp only [eqD]
@[simp] theorem ZvA (b:Int):eqD .non (.int b)=false:=by simp only [eqD]
@[simp] theorem Zvy (b:Str):eqD .non (.str b)=false:=by simp only [eqD]
@[simp] theorem Zvr (b:Bool):eqD .non (.bl b)=false:=by simp only [eqD]
@[simp] theorem ZvJ (b:Int):eqD (.int b) .non=false:=by simp only [eqD]
@[simp] theorem Zvp (b:Str):eqD (.str b) .non=false:=by simp only [eqD]
@[simp] theorem Zvm (b:Bool):eqD (.bl b) .non=false:=by simp only [eqD]
@[simp] theorem ZvR (a b:List D):eqD (.tup a) (.tup b)=Zaj a b:=by simp only [eqD]
@[simp] theorem Zvl (a b:List D):eqD (.lst a) (.lst b)=Zaj a b:=by simp only [eqD]
@[simp] theorem ZvU (a b:List D):eqD (.tup a) (.lst b)=false:=by simp only [eqD]
@[simp] theorem Zvt (a b:List D):eqD (.lst a) (.tup b)=false:=by simp only [eqD]
@[simp] theorem ZvD (a:List D) (b:Int):eqD (.tup a) (.int b)=false:=by simp only [eqD]
@[simp] theorem Zvu (a:List D) (b:Str):eqD (.tup a) (.str b)=false:=by simp only [eqD]
@[simp] theorem ZvL (a:List D):eqD (.tup a) .non=false:=by simp only [eqD]
@[simp] theorem ZvQ (a:List D) (b:Bool):eqD (.tup a) (.bl b)=false:=by simp only [eqD]
@[simp] theorem ZvM (a:List D) (b:Int):eqD (.int b) (.tup a)=false:=by simp only [eqD]
@[simp] theorem ZvG (a:List D) (b:Str):eqD (.str b) (.tup a)=false:=by simp only [eqD]
@[simp] theorem Zvz (a:List D):eqD .non (.tup a)=false:=by simp only [eqD]
@[simp] theorem Zvq (a:List D) (b:Bool):eqD (.bl b) (.tup a)=false:=by simp only [eqD]
@[simp] theorem Zvj (a:List D) (b:Int):eqD (.lst a) (.int b)=false:=by simp only [eqD]
@[simp] theorem ZvE (a:List D) (b:Str):eqD (.lst a) (.str b)=false:=by simp only [eqD]
@[simp] theorem ZvV (a:List D):eqD (.lst a) .non=false:=by simp only [eqD]
@[simp] theorem Zvk (a:List D) (b:Bool):eqD (.lst a) (.bl b)=false:=by simp only [eqD]
@[simp] theorem ZvO (a:List D) (b:Int):eqD (.int b) (.lst a)=false:=by simp only [eqD]
@[simp] theorem ZvH (a:List D) (b:Str):eqD (.str b) (.lst a)=false:=by simp only [eqD]
@[simp] theorem Zvn (a:List D):eqD .non (.lst a)=false:=by simp only [eqD]
@[simp] theorem Zu8 (a:List D) (b:Bool):eqD (.bl b) (.lst a)=false:=by simp only [eqD]
@[simp] theorem ZuS:Zaj [] []=true:=by simp only [Zaj]
@[simp] theorem Zuv (a b:D) (as bs:List D):Zaj (a::as) (b::bs)=(eqD a b&&Zaj as bs):=by simp only [Zaj]
@[simp] theorem Zvd (b:D) (bs:List D):Zaj [] (b::bs)=false:=by simp only [Zaj]
@[simp] theorem Zve (b:D) (bs:List D):Zaj (b::bs) []=false:=by simp only [Zaj]
@[simp] theorem Zn4:∀ (a b:List Int),Zaj (a.map D.int) (b.map D.int)=decide (a=b)
  | [],[]=>by simp
  | [],_::_=>by simp
  | _::_,[]=>by simp
  | x::a,y::b=>by simp [Zn4 a b]
@[simp] theorem ZuF (n:Nat) (a:List Int):(a.map D.int).all (okD n)=true:=by
  rw [Qct]
  intro x hx
  obtain ⟨i,_,rfl⟩:=List.mem_map.mp hx
  cases n<;>rfl
@[simp] theorem Zu9 (t n:String):Zis t n=(t==n||(t=="bool"&&n=="int")):=rfl
@[simp] theorem Zub:Zbo=["NoneType","bool","int","str","tuple","list"]:=rfl
@[simp] theorem Zfd:ZaH=12:=rfl
@[simp] theorem ZuO:tysOf.tysL []=some []:=rfl
@[simp] theorem Zux (n:String) (r:List D):tysOf.tysL (.ty n::r)=(tysOf.tysL r).map (n::·):=rfl
@[simp] theorem Zvc (ns:List Int):ZbV (ns.map D.int)=some ns:=ZiY ns
@[simp] theorem Ze1:∀ (ns:List Bool),ZeP (ns.map D.bl)=some ns
  | []=>rfl
  | n::ns=>by simp only [Qai,ZeP,Ze1 ns];rfl
theorem ZaL {α:Type} {b:D->VE->Option VE} {e:VE->Option D} {ρ:VE} (G F:α->D):∀ (xs:List α),(∀ x∈xs,∃ ρ1,b (G x) ρ=some ρ1/\e ρ1=some (F x))->Z8 b (fun _=>some true) e ρ (xs.map G)=some (xs.map F)
 | [],_=>rfl
 | x::xs,h=>by
  obtain ⟨ρ1,h1,h2⟩:=h x Qam
  simp only [Qai,Z8,h1,h2,Zb,Qah,ZaL G F xs fun y hy=>h y (Qag _ hy)]
@[simp] theorem ZK {α:Type} (l:List α) (h:l.length<=1000000):Zu (some l)=some l:=by
  have:l.length<=Qaj:=QaP h (by decide)
  simp [this]
theorem ZjY {α β:Type} (f:α->β) (xs:List α) (lo hi:Option Int):Zcl (xs.map f) lo hi=(Zcl xs lo hi).map f:=by
 unfold Zcl
 rw [Qaz,List.map_take,List.map_drop]
theorem ZvT {α:Type} (xs:List α) (k:Int) (h:0<=k):Zcl xs none (some k)=xs.take k.toNat:=by
 have e:HT.sIx xs.length 0 none=0:=rfl
 have e2:HT.sIx xs.length xs.length (some k)=min k.toNat xs.length:=by simp only [HT.sIx];split<;>omega
 unfold Zcl
 rw [e,e2,List.drop_zero,Nat.sub_zero]
 rcases Nat.le_total k.toNat xs.length with h1 | h1
 ·rw [Nat.min_eq_left h1]
 ·rw [Nat.min_eq_right h1,List.take_length,Qbx h1]
theorem ZoZ {α:Type} (xs:List α) (k:Int) (h:0<=k):Zcl xs (some k) none=xs.drop k.toNat:=by
 have e:HT.sIx xs.length xs.length none=xs.length:=rfl
 have e2:HT.sIx xs.length 0 (some k)=min k.toNat xs.length:=by simp only [HT.sIx];split<;>omega
 unfold Zcl
 rw [e,e2]
 rcases Nat.le_total k.toNat xs.length with h1 | h1
 ·rw [Nat.min_eq_left h1,Qbx (by rw [Qb4];exact Qau _)]
 ·rw [Nat.min_eq_right h1,List.drop_length,List.drop_of_length_le h1,List.take_nil]
theorem ZrJ {α:Type} (xs:List α) (i j:Int) (hi:0<=i) (hj:0<=j):Zcl xs (some i) (some j)=(xs.drop i.toNat).take (j.toNat-i.toNat):=by
 have e1:HT.sIx xs.length 0 (some i)=min i.toNat xs.length:=by simp only [HT.sIx];split<;>omega
 have e2:HT.sIx xs.length xs.length (some j)=min j.toNat xs.length:=by simp only [HT.sIx];split<;>omega
 unfold Zcl
 rw [e1,e2]
 rcases Nat.le_total i.toNat xs.length with h1 | h1
 ·rw [Nat.min_eq_left h1]
  rcases Nat.le_total j.toNat xs.length with h2 | h2
  ·rw [Nat.min_eq_left h2]
  ·rw [Nat.min_eq_right h2,Qbx (by rw [Qb4];exact Qau _),Qbx (by rw [Qb4];omega)]
 ·rw [Nat.min_eq_right h1,List.drop_length,List.drop_of_length_le h1,List.take_nil,List.take_nil]
@[simp] theorem ZpG (ns:List Int):ZhC [.lst (ns.map D.int)]=if ns.length<64 then some ((ZcO ns).map D.int) else none:=by simp [ZhC]
theorem ZjK {a b:List Int} (h:a.Perm b):a.sum=b.sum:=by
 induction h with
 | nil=>rfl
 | cons x _ ih=>simp [ih]
 | swap x y l=>simp;omega
 | trans _ _ h1 h2=>exact h1.trans h2
theorem Zp2 (j:Int) (h0:0<=j) (h:j<1000000000):ZcN [.int j]=some ((Qaw j.toNat).map fun (k:Nat)=>D.int (k:Int)):=by
 have e:Zb3 0 j.toNat=(Qaw j.toNat).map fun (k:Nat)=>D.int (k:Int):=by simp [Zb3]
 simp only [ZcN]
 rw [ZgF ⟨by omega,by omega⟩,e]
theorem Zcx (n:Nat) (h:n<1000000000):ZcN [.int (n:Int)]=some ((Qaw n).map fun (k:Nat)=>D.int (k:Int)):=by
 rw [Zp2 _ (by omega) (by omega),Qbz]
theorem Zpo (i j:Int) (h0:0<=i) (h1:i<1000000000) (h:j<1000000000) (h2 : -1000000000<j):Ziu [.int i,.int j]=some ((Qaw (j-i).toNat).map fun (k:Nat)=>D.int (i+(k:Int))):=by
 simp only [Ziu]
 rw [ZgF ⟨by omega,by omega,by omega,by omega⟩]
 rfl
theorem ZkZ (xs ys:List D) (h:xs.length+ys.length<=1000000):Zx (.lst xs) (.lst ys)=some (.lst (xs++ys)):=by
 simp only [Zx]
 rw [if_pos (QaP h (by decide))]
theorem Zjy (xs ys:List D) (h:xs.length+ys.length<=1000000):Zx (.tup xs) (.tup ys)=some (.tup (xs++ys)):=by
 simp only [Zx]
 rw [if_pos (QaP h (by decide))]
theorem Zd9 (x y:Str) (h:x.length+y.length<=1000000):Zx (.str x) (.str y)=some (.str (x++y)):=by
 simp only [Zx]
 rw [if_pos (QaP h (by decide))]
theorem ZrT {n:Nat} {i:Int} (h0:0<=i) (h1:i<n):ixN n i=some i.toNat:=by unfold ixN;rw [if_pos h0,if_pos h1]
theorem Zso {α:Type} {xs:List α} {i:Int} (h0:0<=i) (h1:i<xs.length):∃ x,atI xs i=some x/\x∈xs:=by
 have h:i.toNat<xs.length:=by omega
 refine ⟨xs[i.toNat],?_,Qbd _⟩
 unfold atI
 rw [ZrT h0 h1]
 exact QaF h
theorem ZrA {z:Str} {i:Int} (hz:z.length<=1000000) (h0:0<=i) (h1:i<z.length):∃ c,ixD (.str z) (.int i)=some (.str ⟨#[c]⟩)/\c∈z.cps.toList:=by
 have hl:z.cps.toList.length=z.length:=by simp [Str.length]
 obtain ⟨c,e,hc⟩:=Zso (xs:=z.cps.toList) h0 (by rw [hl];exact h1)
 refine ⟨c,?_,hc⟩
 simp only [ixD]
 rw [if_pos (QaP hz (by decide)),e]
 rfl
@[simp] theorem ZaY (d:D):rvD (.val d)=d:=rfl
@[simp] theorem ZgW (xs:List D) (b:Bool):rvD (.own xs b)=.lst xs b:=rfl
end L2
namespace K33
open PySem PySem.Spec PyProof.Rows L2
def CS:List Str:=["NoGrain"]
noncomputable def Zhk:VE->Res:=(fun ρ=>Zh (ZS ((Zu ((Zb (Zk ((Zf Zx (Zf ixD (fun ρ=>rdP ρ 0) (fun _=>some (.int (0)))) (Zf ixD (fun ρ=>rdP ρ 1) (fun _=>some (.int (0))))) ρ)) (Zb (Zk ((Zf Zx (Zf ixD (fun ρ=>rdP ρ 0) (fun _=>some (.int (1)))) (Zf ixD (fun ρ=>rdP ρ 1) (fun _=>some (.int (1))))) ρ)) (Zb (Zk ((ZH Znd (fun ρ=>Zb (Zk ((Zf ixD (fun ρ=>rdP ρ 0) (fun _=>some (.int (2)))) ρ)) (Zb (Zk ((Zf ixD (fun ρ=>rdP ρ 1) (fun _=>some (.int (2)))) ρ)) (some [])))) ρ)) (Zb (Zk ((ZH Zm5 (fun ρ=>Zb (Zk ((Zf ixD (fun ρ=>rdP ρ 0) (fun _=>some (.int (3)))) ρ)) (Zb (Zk ((Zf ixD (fun ρ=>rdP ρ 1) (fun _=>some (.int (3)))) ρ)) (some [])))) ρ)) (some []))))).bind Zz)).map D.tup)) (fun ρ=>.next ρ))
noncomputable def Zd1:List Sl->Option Rv:=fnP 2 2 Zhk
noncomputable def Zfp:VE->Res:=(fun ρ=>Zh (ZS (blO (Zgv (asB ((ZH isD (fun ρ=>Zb (rdA ρ 0) (Zb (Zk (some (.ty "int"))) (some [])))) ρ)) (asB (blO (Zbu (asB ((ZH isD (fun ρ=>Zb (rdA ρ 0) (Zb (Zk (some (.ty "bool"))) (some [])))) ρ)))))))) (fun ρ=>.next ρ))
noncomputable def ZfS:List Sl->Option Rv:=fnP 1 1 Zfp
noncomputable def ZeB:VE->Res:=(fun ρ=>Zh (ZS (Zlb (asB ((Zf ltO (fun ρ=>rdP ρ 1) (ZH Za7 (fun ρ=>Zb (rdA ρ 0) (some [])))) ρ)) ((Zf ixD (fun ρ=>rdP ρ 0) (fun ρ=>rdP ρ 1)) ρ) (some .non))) (fun ρ=>.next ρ))
noncomputable def ZbT:List Sl->Option Rv:=fnP 2 2 ZeB
noncomputable def Zdh:VE->Option D:=(Zf leD (fun ρ=>rdP ρ 0) (fun ρ=>rdP ρ 1))
noncomputable def Zei:VE->Res:=(fun ρ=>Zh (ZS ((ZH Zgg (fun ρ=>Zb (Zk (ZR ((ZQ 2 [] (ZdC (fun ρ=>rdQ ρ 0) (fun ρ=>rdQ ρ 1)) (Zaf 2 (Zy (Zm 0) (Zy (Zm 1) Zam))) (fun _=>some true) Zdh) ρ))) (some []))) ρ)) (fun ρ=>.next ρ))
noncomputable def ZeA:List Sl->Option Rv:=fnP 2 2 Zei
noncomputable def Zca:VE->Option D:=(Zf (ZcM false) (fun ρ=>rdP ρ 1) (fun ρ=>rdP ρ 0))
noncomputable def ZcY:VE->Res:=(fun ρ=>Zh (ZS ((ZH Zgg (fun ρ=>Zb (Zk (ZR ((ZQ 2 [] (ZdC (fun ρ=>rdQ ρ 0) (fun ρ=>rdQ ρ 1)) (Zaf 2 (Zy (Zm 0) (Zy (Zm 1) Zam))) (fun _=>some true) Zca) ρ))) (some []))) ρ)) (fun ρ=>.next ρ))
noncomputable def ZcS:List Sl->Option Rv:=fnP 2 2 ZcY
noncomputable def Zcp:VE->Res:=(fun ρ=>Zh (Z4 (asB ((Zf ltO (fun ρ=>rdP ρ 1) (ZH Za7 (fun ρ=>Zb (rdA ρ 0) (some [])))) ρ)) (Zh (ZS ((Zf ixD (fun ρ=>rdP ρ 0) (fun ρ=>rdP ρ 1)) ρ)) (fun ρ=>.next ρ)) (.next ρ)) (fun ρ=>Zh (ZS (some (.int (0)))) (fun ρ=>.next ρ)))
noncomputable def ZF:List Sl->Option Rv:=fnP 2 2 Zcp
noncomputable def Zb9:VE->Res:=(fun ρ=>Zh (ZP 2 ((Zf ZZ (Zf Zx (Zf Zx (Zf ZdF (fun ρ=>rdP ρ 2) (fun _=>some (.int (48271)))) (Zf ZdF (fun _=>some (.int (2))) (fun ρ=>rdP ρ 4))) (fun _=>some (.int (11)))) (fun _=>some (.int (2147483647)))) ρ) ρ) (fun ρ=>Zh (ZbO 3 ((Zf ZaF (fun ρ=>rdP ρ 2) (fun _=>some (.int (64)))) ρ) ρ) (fun ρ=>.next ρ)))
noncomputable def Zfb:VE->Res:=(fun ρ=>ZP 2 ((Zf ZZ (Zf Zx (fun ρ=>rdP ρ 0) (Zf ZdF (fun _=>some (.int (7919))) (fun ρ=>rdP ρ 1))) (fun _=>some (.int (2147483629)))) ρ) ρ)
noncomputable def ZeV:VE->Res:=(fun ρ=>Zba 3 (Zu ((some []).bind Zz)) ρ)
noncomputable def ZeU:VE->Res:=(ZaW (fun ρ=>((Zb (Zk (some (.int (25)))) (some [])).bind Zz).bind ZcN) (Zm 4) Zb9)
noncomputable def ZeZ:VE->Res:=(fun ρ=>ZS ((sl3 (fun ρ=>rdP ρ 3) (fun ρ=>asI (some (.int (1)))) (fun _=>some none) slD) ρ))
noncomputable def Zh7:VE->Res:=fun ρ=>.next ρ
noncomputable def Zfc:VE->Res:=fun ρ=>Zh (ZeZ ρ) Zh7
noncomputable def Zfk:VE->Res:=fun ρ=>Zh (ZeU ρ) Zfc
noncomputable def Ze4:VE->Res:=fun ρ=>Zh (ZeV ρ) Zfk
noncomputable def Ze9:VE->Res:=fun ρ=>Zh (Zfb ρ) Ze4
noncomputable def Zd3:VE->Res:=Ze9
noncomputable def Zbr:List Sl->Option Rv:=fnP 2 5 Zd3
noncomputable def Zd6:VE->Res:=(fun ρ=>Zh (ZP 3 ((Zf Zx (fun ρ=>rdP ρ 3) (Zf ixD (fun ρ=>rdP ρ 2) (Zf ZZ (Zf ZaF (fun ρ=>rdP ρ 0) (Zf Zx (fun ρ=>rdP ρ 4) (fun _=>some (.int (3))))) (fun _=>some (.int (36)))))) ρ) ρ) (fun ρ=>.next ρ))
noncomputable def ZgD:VE->Res:=(fun ρ=>ZP 2 (some (.str "abcdefghijklmnopqrstuvwxyz0123456789")) ρ)
noncomputable def Zf5:VE->Res:=(fun ρ=>ZP 3 ((Zf ixD (fun ρ=>rdP ρ 2) (Zf ZZ (fun ρ=>rdP ρ 0) (fun _=>some (.int (26))))) ρ) ρ)
noncomputable def Zgi:VE->Res:=(ZaW (fun ρ=>((Zb (Zk (rdV ρ 1)) (some [])).bind Zz).bind ZcN) (Zm 4) Zd6)
noncomputable def Zf8:VE->Res:=(fun ρ=>ZS (rdV ρ 3))
noncomputable def Zke:VE->Res:=fun ρ=>.next ρ
noncomputable def Zf9:VE->Res:=fun ρ=>Zh (Zf8 ρ) Zke
noncomputable def Zgs:VE->Res:=fun ρ=>Zh (Zgi ρ) Zf9
noncomputable def Zgu:VE->Res:=fun ρ=>Zh (Zf5 ρ) Zgs
noncomputable def Zf6:VE->Res:=fun ρ=>Zh (ZgD ρ) Zgu
noncomputable def ZfI:VE->Res:=Zf6
noncomputable def Zc1:List Sl->Option Rv:=fnP 2 5 ZfI
noncomputable def ZfN:VE->Res:=(fun ρ=>Zh (Z4 (ZpS (rdP ρ 0)) (Zh (ZS ((Zu ((Zb (Zk (some (.int (0)))) (Zb (Zk (some (.int (0)))) (Zb (Zk (some (.str ""))) (some [])))).bind Zz)).map D.tup)) (fun ρ=>.next ρ)) (.next ρ)) (fun ρ=>Zh (Z4 (ZaX ((ZH isD (fun ρ=>Zb (rdA ρ 0) (Zb (Zk (some (.ty "int"))) (some [])))) ρ)) (Zh (ZS ((Zu ((Zb (Zk (some (.int (1)))) (Zb (Zk (rdV ρ 0)) (Zb (Zk (some (.str ""))) (some [])))).bind Zz)).map D.tup)) (fun ρ=>.next ρ)) (.next ρ)) (fun ρ=>Zh (ZS ((Zu ((Zb (Zk (some (.int (2)))) (Zb (Zk (some (.int (0)))) (Zb (Zk (rdV ρ 0)) (some [])))).bind Zz)).map D.tup)) (fun ρ=>.next ρ))))
noncomputable def ZdM:List Sl->Option Rv:=fnP 1 1 ZfN
noncomputable def Zb6:VE->Res:=(fun ρ=>Zh (Z4 (asB ((Zf eqO (Zf ixD (fun ρ=>rdP ρ 3) (fun _=>some (.int (0)))) (fun ρ=>rdP ρ 1)) ρ)) (Zh (ZS ((Zf ixD (Zf Zx (fun ρ=>rdP ρ 3) (fun ρ=>(Zu ((Zb (Zk (some .non)) (some [])).bind Zz)).map D.tup)) (fun ρ=>rdP ρ 2)) ρ)) (fun ρ=>.next ρ)) (.next ρ)) (fun ρ=>.next ρ))
noncomputable def ZfO:VE->Res:=(fun ρ=>Zh ((ZaW (fun ρ=>(rdQ ρ 0).bind ZX) (Zm 3) Zb6) ρ) (fun ρ=>Zh (ZS (some .non)) (fun ρ=>.next ρ)))
noncomputable def Zhi:List Sl->Option Rv:=fnP 3 4 ZfO
noncomputable def ZdE:VE->Res:=(fun ρ=>Zh (ZP 1 (ZR ((Zed ZhC (fun ρ=>Zb (rdA ρ 0) (some []))) ρ)) ρ) (fun ρ=>Zh (ZS ((Zu ((Zb (Zk ((ZH Za7 (fun ρ=>Zb (rdA ρ 1) (some []))) ρ)) (Zb (Zk ((ZH Zp9 (fun ρ=>Zb (rdA ρ 1) (some []))) ρ)) (Zb (Zk ((Zf ixD (fun ρ=>rdP ρ 1) (fun _=>some (.int (0)))) ρ)) (Zb (Zk ((Zf ixD (fun ρ=>rdP ρ 1) (fun ρ=>ZjE (some (.int (1))))) ρ)) (some []))))).bind Zz)).map D.tup)) (fun ρ=>.next ρ)))
noncomputable def Zcs:List Sl->Option Rv:=fnP 1 2 ZdE
noncomputable def Zcu:VE->Res:=(fun ρ=>Zh (ZbO 2 ((Zf ZZ (Zf ZaF (fun ρ=>rdP ρ 0) (Zf ixD (fun ρ=>ZR (Zu ((Zb (Zk (some (.int (1)))) (Zb (Zk (some (.int (5)))) (Zb (Zk (some (.int (25)))) (Zb (Zk (some (.int (125)))) (some []))))).bind Zz))) (fun ρ=>rdP ρ 3))) (Zf Zx (ZH Za7 (fun ρ=>Zb (Zk ((Zf ixD (fun ρ=>rdP ρ 4) (fun _=>some (.int (0)))) ρ)) (some []))) (fun _=>some (.int (1))))) ρ) ρ) (fun ρ=>.next ρ))
noncomputable def Zdl:VE->Res:=(fun ρ=>Zh (Zba 2 (Zu ((some []).bind Zz)) ρ) (fun ρ=>Zh ((ZaW (ZcV (fun ρ=>rdQ ρ 1)) (Zaf 2 (Zy (Zm 3) (Zy (Zm 4) Zam))) Zcu) ρ) (fun ρ=>Zh (ZS ((ZH Zbq (fun ρ=>Zb (rdA ρ 2) (some []))) ρ)) (fun ρ=>.next ρ))))
noncomputable def Zdj:List Sl->Option Rv:=fnP 2 5 Zdl
noncomputable def ZcC:VE->Option D:=(ZH isD (fun ρ=>Zb (rdA ρ 0) (Zb (Zk (some (.ty "bool"))) (some []))))
noncomputable def ZbC:VE->Res:=(fun ρ=>Zh (Z4 (orB (Zbu (ZaX ((ZH isD (fun ρ=>Zb (rdA ρ 1) (Zb (Zk (some (.ty "tuple"))) (some [])))) ρ))) (orB (asB ((Zf neO (ZH Za7 (fun ρ=>Zb (rdA ρ 1) (some []))) (fun _=>some (.int (2)))) ρ)) (Zbu (ZaX ((ZH isD (fun ρ=>Zb (Zk ((Zf ixD (fun ρ=>rdP ρ 1) (fun _=>some (.int (0)))) ρ)) (Zb (Zk (some (.ty "tuple"))) (some [])))) ρ))))) (Zh (ZS (some (.bl false))) (fun ρ=>.next ρ)) (.next ρ)) (fun ρ=>Zh (Z4 (orB (Zbu (ZaX ((ZH isD (fun ρ=>Zb (Zk ((Zf ixD (fun ρ=>rdP ρ 1) (fun _=>some (.int (1)))) ρ)) (Zb (Zk (some (.ty "tuple"))) (some [])))) ρ))) (ZaX ((ZH Zgl (fun ρ=>Zb (Zk (ZR ((ZQ 1 [] (fun ρ=>((Zf Zx (Zf ixD (fun ρ=>rdP ρ 1) (fun _=>some (.int (0)))) (Zf ixD (fun ρ=>rdP ρ 1) (fun _=>some (.int (1))))) ρ).bind ZX) (Zm 0) (fun _=>some true) ZcC) ρ))) (some []))) ρ))) (Zh (ZS (some (.bl false))) (fun ρ=>.next ρ)) (.next ρ)) (fun ρ=>.next ρ)))
noncomputable def Zch:VE->Res:=(fun ρ=>Zh (Z4 (Zbu (ZaX ((ZH isD (fun ρ=>Zb (rdA ρ 0) (Zb (Zk (some (.ty "list"))) (some [])))) ρ))) (Zh (ZS (some (.bl false))) (fun ρ=>.next ρ)) (.next ρ)) (fun ρ=>Zh ((ZaW (fun ρ=>(rdQ ρ 0).bind ZX) (Zm 1) ZbC) ρ) (fun ρ=>Zh (ZS (some (.bl true))) (fun ρ=>.next ρ))))
noncomputable def Zc7:List Sl->Option Rv:=fnP 1 2 Zch
noncomputable def Zd4:VE->Res:=(fun ρ=>Zh (Z4 (ZpS (rdP ρ 0)) (Zh (ZS ((Zu ((Zb (Zk (some (.int (0)))) (Zb (Zk (some (.int (0)))) (some []))).bind Zz)).map D.tup)) (fun ρ=>.next ρ)) (.next ρ)) (fun ρ=>Zh (Z4 (ZaX ((Zs ZfS (fun ρ=>Zb (rdA ρ 0) (some []))) ρ)) (Zh (ZS ((Zu ((Zb (Zk (some (.int (1)))) (Zb (Zk (rdV ρ 0)) (some []))).bind Zz)).map D.tup)) (fun ρ=>.next ρ)) (.next ρ)) (fun ρ=>Zh (ZS ((Zu ((Zb (Zk (some (.int (2)))) (Zb (Zk (rdV ρ 0)) (some []))).bind Zz)).map D.tup)) (fun ρ=>.next ρ))))
noncomputable def ZcJ:List Sl->Option Rv:=fnP 1 1 Zd4
noncomputable def Zgd:VE->Option D:=(fun ρ=>(Zu ((Zb (Zk ((Zs ZbT (fun ρ=>Zb (rdA ρ 0) (Zb (rdA ρ 1) (some [])))) ρ)) (Zb (Zk ((Zs ZbT (fun ρ=>Zb (rdA ρ 0) (Zb (rdA ρ 2) (some [])))) ρ)) (some []))).bind Zz)).map D.tup)
noncomputable def Zg3:VE->Res:=(fun ρ=>Zh (Zo2 ((Zjs (fun ρ=>ZR ((ZQ 1 [1,2] (fun ρ=>(rdQ ρ 0).bind ZX) (Zm 0) (fun _=>some true) Zgd) ρ))) ρ)) (fun ρ=>.next ρ))
noncomputable def Ziw:List Sl->Option Rv:=fnP 3 3 Zg3
noncomputable def ZbH:VE->Res:=(fun ρ=>ZP 3 ((Zf ZZ (Zf ZaF (fun ρ=>rdP ρ 1) (fun _=>some (.int (4)))) (Zf Znt (fun _=>some (.int (10))) (fun _=>some (.int (30))))) ρ) ρ)
noncomputable def ZbI:VE->Res:=(fun ρ=>Z4 (asB ((Zf eqO (fun ρ=>rdP ρ 0) (fun _=>some (.int (0)))) ρ)) (Zh (ZS ((Zf Zx (fun ρ=>rdP ρ 3) (fun ρ=>rdP ρ 2)) ρ)) (fun ρ=>.next ρ)) (.next ρ))
noncomputable def Zct:VE->Res:=(fun ρ=>Z4 (asB ((Zf eqO (fun ρ=>rdP ρ 0) (fun _=>some (.int (1)))) ρ)) (Zh (ZS ((Zf Zhb (Zf Zhb (fun _=>some (.int (0))) (fun ρ=>rdP ρ 3)) (fun ρ=>rdP ρ 2)) ρ)) (fun ρ=>.next ρ)) (.next ρ))
noncomputable def ZdG:VE->Res:=(fun ρ=>ZP 4 ((Zs Zc1 (fun ρ=>Zb (Zk ((Zf ZaF (fun ρ=>rdP ρ 1) (fun _=>some (.int (4)))) ρ)) (Zb (Zk ((Zf ZZ (fun ρ=>rdP ρ 1) (fun _=>some (.int (8)))) ρ)) (some [])))) ρ) ρ)
noncomputable def Zdz:VE->Res:=(fun ρ=>Z4 (asB ((Zf eqO (fun ρ=>rdP ρ 0) (fun _=>some (.int (2)))) ρ)) (Zh (ZS ((Zf Zx (fun ρ=>rdP ρ 4) (mtO Zgp (ZH Ziz (fun ρ=>Zb (rdA ρ 2) (some []))) (fun ρ=>Zb (Zk ((Zf Zx (fun _=>some (.int (1))) (Zf ZZ (Zf ZaF (fun ρ=>rdP ρ 1) (fun _=>some (.int (8)))) (fun _=>some (.int (4))))) ρ)) (some [])))) ρ)) (fun ρ=>.next ρ)) (.next ρ))
noncomputable def Zf0:VE->Res:=(fun ρ=>ZP 5 (some (.str "abcdefghijklmnopqrstuvwxyz")) ρ)
noncomputable def ZfX:VE->Res:=(fun ρ=>ZP 6 ((Zf ZZ (Zf ZaF (fun ρ=>rdP ρ 1) (fun _=>some (.int (8)))) (Zf Zx (ZH Za7 (fun ρ=>Zb (rdA ρ 4) (some []))) (fun _=>some (.int (1))))) ρ) ρ)
noncomputable def ZfY:VE->Res:=(fun ρ=>ZP 7 ((Zf Zx (Zf ixD (fun ρ=>rdP ρ 5) (Zf ZaF (fun ρ=>rdP ρ 2) (fun _=>some (.int (26))))) (Zf ixD (fun ρ=>rdP ρ 5) (Zf ZZ (Zf Zx (fun ρ=>rdP ρ 2) (Zf ZaF (fun ρ=>rdP ρ 1) (fun _=>some (.int (8))))) (fun _=>some (.int (26)))))) ρ) ρ)
noncomputable def ZfT:VE->Res:=(fun ρ=>ZS ((Zf Zx (Zf Zx (sl3 (fun ρ=>rdP ρ 4) (fun _=>some none) (fun ρ=>asI (rdP ρ 6)) slD) (fun ρ=>rdP ρ 7)) (sl3 (fun ρ=>rdP ρ 4) (fun ρ=>asI (rdP ρ 6)) (fun _=>some none) slD)) ρ))
noncomputable def Zjn:VE->Res:=fun ρ=>.next ρ
noncomputable def ZfV:VE->Res:=fun ρ=>Zh (ZfT ρ) Zjn
noncomputable def ZfW:VE->Res:=fun ρ=>Zh (ZfY ρ) ZfV
noncomputable def Zf1:VE->Res:=fun ρ=>Zh (ZfX ρ) ZfW
noncomputable def ZfZ:VE->Res:=fun ρ=>Zh (Zf0 ρ) Zf1
noncomputable def Zdy:VE->Res:=fun ρ=>Zh (Zdz ρ) ZfZ
noncomputable def ZdH:VE->Res:=fun ρ=>Zh (ZdG ρ) Zdy
noncomputable def Zco:VE->Res:=fun ρ=>Zh (Zct ρ) ZdH
noncomputable def ZbF:VE->Res:=fun ρ=>Zh (ZbI ρ) Zco
noncomputable def ZbE:VE->Res:=fun ρ=>Zh (ZbH ρ) ZbF
noncomputable def ZbM:VE->Res:=ZbE
noncomputable def Z6:List Sl->Option Rv:=fnP 3 8 ZbM
noncomputable def ZeR:VE->Option D:=(Zf ixD (Zf ixD (fun ρ=>rdP ρ 1) (Zf ZZ (Zf ixD (fun ρ=>rdP ρ 2) (fun ρ=>rdP ρ 0)) (ZH Za7 (fun ρ=>Zb (rdA ρ 1) (some []))))) (fun _=>some (.int (0))))
noncomputable def ZeF:VE->Res:=(fun ρ=>ZP 3 ((Zs Zbr (fun ρ=>Zb (rdA ρ 0) (Zb (rdA ρ 1) (some [])))) ρ) ρ)
noncomputable def ZeK:VE->Res:=(fun ρ=>ZP 4 ((ZH Zbq (fun ρ=>Zb (Zk (ZR ((ZQ 2 [3] (ZcV (fun ρ=>rdQ ρ 2)) (Zaf 2 (Zy (Zm 0) (Zy (Zm 1) Zam))) (fun _=>some true) ZeR) ρ))) (some []))) ρ) ρ)
noncomputable def ZeN:VE->Res:=(fun ρ=>ZP 5 ((Zf ZdF (Zf ZZ (fun ρ=>rdP ρ 0) (Zf Znt (fun _=>some (.int (10))) (fun _=>some (.int (30))))) (Zf Zhb (fun _=>some (.int (1))) (Zf ZdF (fun _=>some (.int (2))) (Zf ZZ (Zf ixD (fun ρ=>rdP ρ 3) (fun _=>some (.int (5)))) (fun _=>some (.int (2))))))) ρ) ρ)
noncomputable def ZeS:VE->Res:=(fun ρ=>Z4 (asB ((Zf eqO (Zf ZZ (Zf ixD (fun ρ=>rdP ρ 3) (fun _=>some (.int (6)))) (fun _=>some (.int (2)))) (fun _=>some (.int (1)))) ρ)) (Zh (ZP 5 ((Zf Zhb (Zf ZZ (Zf ixD (fun ρ=>rdP ρ 3) (fun _=>some (.int (7)))) (fun _=>some (.int (7)))) (fun _=>some (.int (3)))) ρ) ρ) (fun ρ=>.next ρ)) (.next ρ))
noncomputable def ZeG:VE->Res:=(fun ρ=>ZS ((Zu ((Zb (Zk (rdV ρ 4)) (Zb (Zk (rdV ρ 5)) (some []))).bind Zz)).map D.tup))
noncomputable def Zln:VE->Res:=fun ρ=>.next ρ
noncomputable def ZeM:VE->Res:=fun ρ=>Zh (ZeG ρ) Zln
noncomputable def ZeD:VE->Res:=fun ρ=>Zh (ZeS ρ) ZeM
noncomputable def ZeI:VE->Res:=fun ρ=>Zh (ZeN ρ) ZeD
noncomputable def ZeO:VE->Res:=fun ρ=>Zh (ZeK ρ) ZeI
noncomputable def ZeJ:VE->Res:=fun ρ=>Zh (ZeF ρ) ZeO
noncomputable def Zdn:VE->Res:=ZeJ
noncomputable def Zf3:List Sl->Option Rv:=fnP 3 6 Zdn
noncomputable def Zb8:VE->Option D:=(Zs Zhi (fun ρ=>Zb (rdA ρ 0) (Zb (rdA ρ 1) (Zb (rdA ρ 2) (some [])))))
noncomputable def ZcZ:VE->Res:=(fun ρ=>Zh (ZS ((ZH Zbq (fun ρ=>Zb (Zk (ZR ((ZQ 3 [] (Zju (fun ρ=>rdQ ρ 0) (fun ρ=>rdQ ρ 1) (fun ρ=>rdQ ρ 2)) (Zaf 3 (Zy (Zm 0) (Zy (Zm 1) (Zy (Zm 2) Zam)))) (fun _=>some true) Zb8) ρ))) (some []))) ρ)) (fun ρ=>.next ρ))
noncomputable def ZdZ:List Sl->Option Rv:=fnP 3 3 ZcZ
noncomputable def Zcw:VE->Option D:=(Zs ZdM (fun ρ=>Zb (rdA ρ 0) (some [])))
noncomputable def Zb5:VE->Res:=(fun ρ=>Zh (Zbm ((ZQ 1 [] (fun ρ=>(rdQ ρ 0).bind ZX) (Zm 0) (fun _=>some true) Zcw) ρ)) (fun ρ=>.next ρ))
noncomputable def Zcj:List Sl->Option Rv:=fnP 1 1 Zb5
noncomputable def ZdU:VE->Option D:=(Zs ZcJ (fun ρ=>Zb (rdA ρ 0) (some [])))
noncomputable def ZfH:VE->Res:=(fun ρ=>Zh (ZS ((ZH Zbq (fun ρ=>Zb (Zk (ZR ((ZQ 1 [] (fun ρ=>(rdQ ρ 0).bind ZX) (Zm 0) (fun _=>some true) ZdU) ρ))) (some []))) ρ)) (fun ρ=>.next ρ))
noncomputable def ZcU:List Sl->Option Rv:=fnP 1 1 ZfH
noncomputable def ZeC:VE->Option D:=(Zs Ziw (fun ρ=>Zb (rdA ρ 1) (Zb (Zk ((Zf ixD (fun ρ=>rdP ρ 2) (fun ρ=>rdP ρ 0)) ρ)) (Zb (Zk ((Zf ixD (fun ρ=>rdP ρ 3) (fun ρ=>rdP ρ 0)) ρ)) (some [])))))
noncomputable def Zet:VE->Res:=(fun ρ=>Zh (Zbm ((ZQ 2 [1,2] (ZcV (fun ρ=>rdQ ρ 0)) (Zaf 2 (Zy (Zm 0) (Zy (Zm 1) Zam))) (fun _=>some true) ZeC) ρ)) (fun ρ=>.next ρ))
noncomputable def ZgI:List Sl->Option Rv:=fnP 3 3 Zet
noncomputable def ZaA:VE->Res:=(fun ρ=>Zh (ZbO 4 ((Zf ixD (fun ρ=>ZR (Zu ((Zb (Zk ((Zf Zx (fun _=>some (.int (1))) (Zf ZZ (Zf ixD (fun ρ=>rdP ρ 3) (fun ρ=>rdP ρ 5)) (fun _=>some (.int (6))))) ρ)) (Zb (Zk ((Zf Zx (fun _=>some (.int (2))) (Zf ZZ (Zf ixD (fun ρ=>rdP ρ 3) (fun ρ=>rdP ρ 5)) (fun _=>some (.int (3))))) ρ)) (Zb (Zk (some (.int (47)))) (Zb (Zk (some (.int (3)))) (some []))))).bind Zz))) (Zf ZZ (Zf ZaF (Zf ixD (fun ρ=>rdP ρ 3) (fun ρ=>rdP ρ 5)) (fun _=>some (.int (64)))) (fun _=>some (.int (4))))) ρ) ρ) (fun ρ=>.next ρ))
noncomputable def Za2:VE->Res:=(fun ρ=>Zh (Z4 (asB ((Zf gtD (fun ρ=>rdP ρ 5) (fun _=>some (.int (0)))) ρ)) (Zh (ZP 8 ((Zf ZZ (Zf Zx (Zf ZdF (fun ρ=>rdP ρ 8) (Zf Zx (fun _=>some (.int (1))) (Zf ZZ (Zf ixD (fun ρ=>rdP ρ 3) (Zf Zx (fun _=>some (.int (4))) (fun ρ=>rdP ρ 5))) (fun _=>some (.int (5)))))) (Zf ixD (fun ρ=>rdP ρ 3) (Zf Zx (fun _=>some (.int (8))) (fun ρ=>rdP ρ 5)))) (Zf ixD (fun ρ=>rdP ρ 4) (fun ρ=>rdP ρ 5))) ρ) ρ) (fun ρ=>.next ρ)) (.next ρ)) (fun ρ=>Zh (ZP 10 ((Zf Zx (fun ρ=>rdP ρ 0) (Zf ZdF (Zf ZdF (fun ρ=>rdP ρ 5) (Zf ZZ (Zf ixD (fun ρ=>rdP ρ 3) (fun _=>some (.int (16)))) (fun _=>some (.int (2))))) (fun _=>some (.int (1000003))))) ρ) ρ) (fun ρ=>Zh (ZbO 9 ((Zs Z6 (fun ρ=>Zb (Zk ((Zf ZZ (Zf ixD (fun ρ=>rdP ρ 3) (Zf Zx (fun _=>some (.int (12))) (fun ρ=>rdP ρ 5))) (fun _=>some (.int (4)))) ρ)) (Zb (rdA ρ 10) (Zb (rdA ρ 8) (some []))))) ρ) ρ) (fun ρ=>.next ρ))))
noncomputable def Zb4:VE->Res:=(fun ρ=>Zh (ZP 8 ((Zf ZZ (Zf Zx (Zf ZdF (fun ρ=>rdP ρ 7) (Zf Zx (fun _=>some (.int (1))) (Zf ZZ (Zf ixD (fun ρ=>rdP ρ 3) (fun _=>some (.int (0)))) (fun _=>some (.int (46)))))) (Zf ixD (fun ρ=>rdP ρ 3) (fun _=>some (.int (4))))) (fun _=>some (.int (47)))) ρ) ρ) (fun ρ=>Zh (Zba 9 (Zu ((some []).bind Zz)) ρ) (fun ρ=>Zh ((ZaW (fun ρ=>((Zb (Zk (rdV ρ 2)) (some [])).bind Zz).bind ZcN) (Zm 5) Za2) ρ) (fun ρ=>Zh (ZbO 6 ((ZH Zbq (fun ρ=>Zb (rdA ρ 9) (some []))) ρ) ρ) (fun ρ=>.next ρ)))))
noncomputable def ZeY:VE->Res:=(fun ρ=>ZP 3 ((Zs Zbr (fun ρ=>Zb (rdA ρ 0) (Zb (rdA ρ 2) (some [])))) ρ) ρ)
noncomputable def Ze0:VE->Res:=(fun ρ=>Zba 4 (Zu ((Zb (Zk (some (.int (47)))) (some [])).bind Zz)) ρ)
noncomputable def Zfh:VE->Res:=(ZaW (fun ρ=>((Zb (Zk (some (.int (1)))) (Zb (Zk (some (.int (4)))) (some []))).bind Zz).bind Ziu) (Zm 5) ZaA)
noncomputable def Ze3:VE->Res:=(fun ρ=>Zba 6 (Zu ((some []).bind Zz)) ρ)
noncomputable def Zfi:VE->Res:=(ZaW (fun ρ=>((Zb (Zk (rdV ρ 1)) (some [])).bind Zz).bind ZcN) (Zm 7) Zb4)
noncomputable def Zfa:VE->Res:=(fun ρ=>Zbm (rdO ρ 6))
noncomputable def Zia:VE->Res:=fun ρ=>.next ρ
noncomputable def Ze5:VE->Res:=fun ρ=>Zh (Zfa ρ) Zia
noncomputable def ZeX:VE->Res:=fun ρ=>Zh (Zfi ρ) Ze5
noncomputable def Ze8:VE->Res:=fun ρ=>Zh (Ze3 ρ) ZeX
noncomputable def Zfg:VE->Res:=fun ρ=>Zh (Zfh ρ) Ze8
noncomputable def Zfj:VE->Res:=fun ρ=>Zh (Ze0 ρ) Zfg
noncomputable def Zdb:VE->Res:=fun ρ=>Zh (ZeY ρ) Zfj
noncomputable def Zgo:VE->Res:=Zdb
noncomputable def ZbY:List Sl->Option Rv:=fnP 3 11 Zgo
noncomputable def ZdW:VE->Option D:=(Zf Zx (Zf ZaF (fun ρ=>rdP ρ 1) (fun _=>some (.int (6)))) (Zf ZdF (fun _=>some (.int (7))) (fun ρ=>rdP ρ 0)))
noncomputable def ZcQ:VE->Option D:=(Zs Zf3 (fun ρ=>Zb (rdA ρ 1) (Zb (rdA ρ 0) (Zb (rdA ρ 2) (some [])))))
noncomputable def ZdO:VE->Res:=(fun ρ=>Zh (ZP 2 ((Zs ZF (fun ρ=>Zb (rdA ρ 0) (Zb (Zk (some (.int (5)))) (some [])))) ρ) ρ) (fun ρ=>Zh (ZP 3 ((Zf Zx (sl3 (fun ρ=>rdP ρ 0) (fun ρ=>asI (some (.int (7)))) (fun ρ=>asI (some (.int (67)))) slD) (fun ρ=>ZR ((ZQ 1 [2] (fun ρ=>((Zb (Zk ((Zf ZZ (fun ρ=>rdP ρ 2) (fun _=>some (.int (6)))) ρ)) (some [])).bind Zz).bind ZcN) (Zm 0) (fun _=>some true) ZdW) ρ))) ρ) ρ) (fun ρ=>Zh (Zbm ((ZQ 2 [1] (ZcV (fun ρ=>rdQ ρ 3)) (Zaf 2 (Zy (Zm 0) (Zy (Zm 1) Zam))) (fun _=>some true) ZcQ) ρ)) (fun ρ=>.next ρ))))
noncomputable def Zfu:List Sl->Option Rv:=fnP 2 4 ZdO
noncomputable def ZbP:VE->Res:=(fun ρ=>Zh (ZP 4 ((Zs Zbr (fun ρ=>Zb (Zk ((Zs ZF (fun ρ=>Zb (rdA ρ 0) (Zb (Zk ((Zf Zx (fun _=>some (.int (1))) (fun ρ=>rdP ρ 3)) ρ)) (some [])))) ρ)) (Zb (rdA ρ 3) (some [])))) ρ) ρ) (fun ρ=>Zh (ZbO 2 ((Zs ZbY (fun ρ=>Zb (Zk ((Zs ZF (fun ρ=>Zb (rdA ρ 0) (Zb (Zk ((Zf Zx (fun _=>some (.int (1))) (fun ρ=>rdP ρ 3)) ρ)) (some [])))) ρ)) (Zb (Zk ((Zf Zx (fun _=>some (.int (1))) (Zf ZZ (Zf ixD (fun ρ=>rdP ρ 4) (fun _=>some (.int (20)))) (fun _=>some (.int (8))))) ρ)) (Zb (Zk ((Zf Zx (fun _=>some (.int (1))) (Zf ZZ (Zf ixD (fun ρ=>rdP ρ 4) (fun _=>some (.int (21)))) (fun _=>some (.int (4))))) ρ)) (some []))))) ρ) ρ) (fun ρ=>.next ρ)))
noncomputable def Zer:VE->Res:=(fun ρ=>ZP 1 ((Zs ZF (fun ρ=>Zb (rdA ρ 0) (Zb (Zk (some (.int (0)))) (some [])))) ρ) ρ)
noncomputable def Zeo:VE->Res:=(fun ρ=>Zba 2 (Zu ((some []).bind Zz)) ρ)
noncomputable def Zel:VE->Res:=(ZaW (fun ρ=>((Zb (Zk ((Zf Zx (Zf Zx (fun _=>some (.int (1))) (Zf ZZ (fun ρ=>rdP ρ 1) (fun _=>some (.int (3))))) (ZH ZmI (fun ρ=>Zb (Zk ((Zf eqO (Zf ZZ (fun ρ=>rdP ρ 1) (fun _=>some (.int (12)))) (fun _=>some (.int (5)))) ρ)) (some [])))) ρ)) (some [])).bind Zz).bind ZcN) (Zm 3) ZbP)
noncomputable def Zeq:VE->Res:=(fun ρ=>Zbm (rdO ρ 2))
noncomputable def ZhW:VE->Res:=fun ρ=>.next ρ
noncomputable def Zej:VE->Res:=fun ρ=>Zh (Zeq ρ) ZhW
noncomputable def Zee:VE->Res:=fun ρ=>Zh (Zel ρ) Zej
noncomputable def Zem:VE->Res:=fun ρ=>Zh (Zeo ρ) Zee
noncomputable def Zey:VE->Res:=fun ρ=>Zh (Zer ρ) Zem
noncomputable def Zcv:VE->Res:=Zey
noncomputable def ZdA:List Sl->Option Rv:=fnP 1 5 Zcv
noncomputable def ZbG:VE->Res:=(fun ρ=>Zh (ZP 6 ((Zs ZdZ (fun ρ=>Zb (rdA ρ 0) (Zb (rdA ρ 4) (Zb (rdA ρ 2) (some []))))) ρ) ρ) (fun ρ=>Zh (ZgZ 3 (rdP ρ 6) ((Zf Zx (dgF 3 (fun ρ=>rdP ρ 6) (fun ρ=>ZR (Zu ((some []).bind Zz)))) (fun ρ=>ZR (Zu ((Zb (Zk (rdV ρ 5)) (some [])).bind Zz)))) ρ) ρ) (fun ρ=>.next ρ)))
noncomputable def ZdD:VE->Option D:=(fun ρ=>(Zu ((Zb (Zk (rdV ρ 0)) (Zb (Zk ((Zs Zcs (fun ρ=>Zb (Zk ((Zf ZbD (fun ρ=>rdP ρ 1) (fun ρ=>rdP ρ 0)) ρ)) (some []))) ρ)) (some []))).bind Zz)).map D.tup)
noncomputable def Zdk:VE->Res:=(fun ρ=>Zh (Zen 3 (some []) ρ) (fun ρ=>Zh ((ZaW (fun ρ=>(rdQ ρ 1).bind ZX) (Zaf 2 (Zy (Zm 4) (Zy (Zm 5) Zam))) ZbG) ρ) (fun ρ=>Zh (Zbm ((ZQ 1 [3] (fun ρ=>(ZR ((ZgX Zcj (fun ρ=>rdP ρ 3)) ρ)).bind ZX) (Zm 0) (fun _=>some true) ZdD) ρ)) (fun ρ=>.next ρ))))
noncomputable def Zdi:List Sl->Option Rv:=fnP 3 7 Zdk
noncomputable def ZaK:VE->Res:=(fun ρ=>Zh (Z4 (orB (Zbu (ZaX (rdP ρ 1))) (asB ((Zf neO (Zf ixD (fun ρ=>rdP ρ 1) (fun ρ=>ZjE (some (.int (1))))) (fun ρ=>rdP ρ 2)) ρ))) (Zh (ZbO 1 (rdV ρ 2) ρ) (fun ρ=>.next ρ)) (.next ρ)) (fun ρ=>.next ρ))
noncomputable def ZdJ:VE->Res:=(fun ρ=>Zh (Zba 1 (Zu ((some []).bind Zz)) ρ) (fun ρ=>Zh ((ZaW (fun ρ=>(ZR ((Zh2 ZcU (fun ρ=>rdP ρ 0)) ρ)).bind ZX) (Zm 2) ZaK) ρ) (fun ρ=>Zh (Zbm (rdO ρ 1)) (fun ρ=>.next ρ))))
noncomputable def Zfq:List Sl->Option Rv:=fnP 1 3 ZdJ
noncomputable def Za3:VE->Option D:=(Zf ZbD (fun ρ=>rdP ρ 0) (fun ρ=>rdP ρ 1))
noncomputable def Za4:VE->Res:=(fun ρ=>Zh (Z4 (ZaX ((Zs ZcS (fun ρ=>Zb (rdA ρ 0) (Zb (rdA ρ 3) (some [])))) ρ)) (Zh (ZP 5 ((ZH Zbq (fun ρ=>Zb (Zk (ZR ((ZQ 2 [] (ZdC (fun ρ=>rdQ ρ 0) (fun ρ=>rdQ ρ 3)) (Zaf 2 (Zy (Zm 0) (Zy (Zm 1) Zam))) (fun _=>some true) Za3) ρ))) (some []))) ρ) ρ) (fun ρ=>Zh (ZgZ 2 (rdP ρ 5) (Zlb (asB ((Zf (ZcM false) (fun ρ=>rdP ρ 5) (fun ρ=>rdP ρ 2)) ρ)) ((Zs Zd1 (fun ρ=>Zb (Zk ((Zf ZbD (fun ρ=>rdP ρ 2) (fun ρ=>rdP ρ 5)) ρ)) (Zb (rdA ρ 4) (some [])))) ρ) (rdV ρ 4)) ρ) (fun ρ=>.next ρ))) (.next ρ)) (fun ρ=>.next ρ))
noncomputable def Zcz:VE->Option D:=(fun ρ=>(Zu ((Zb (Zk (rdV ρ 0)) (Zb (Zk ((Zf ZbD (fun ρ=>rdP ρ 1) (fun ρ=>rdP ρ 0)) ρ)) (some []))).bind Zz)).map D.tup)
noncomputable def Zci:VE->Res:=(fun ρ=>Zh (Zen 2 (some []) ρ) (fun ρ=>Zh ((ZaW (fun ρ=>(rdQ ρ 1).bind ZX) (Zaf 2 (Zy (Zm 3) (Zy (Zm 4) Zam))) Za4) ρ) (fun ρ=>Zh (Zbm ((ZQ 1 [2] (fun ρ=>((Zs Zfq (fun ρ=>Zb (Zk (ZR ((Zed Zkn (fun ρ=>Zb (rdA ρ 2) (some []))) ρ))) (some []))) ρ).bind ZX) (Zm 0) (fun _=>some true) Zcz) ρ)) (fun ρ=>.next ρ))))
noncomputable def Zc5:List Sl->Option Rv:=fnP 2 6 Zci
noncomputable def ZfD:VE->Res:=(fun ρ=>Zh (Z4 (Zbu (ZaX ((Zs ZeA (fun ρ=>Zb (rdA ρ 2) (Zb (rdA ρ 3) (some [])))) ρ))) (Zh (.fail) (fun ρ=>.next ρ)) (.next ρ)) (fun ρ=>Zh (Zbm ((ZfB Zc5 (fun ρ=>Zb (Zk ((Zs ZgI (fun ρ=>Zb (rdA ρ 0) (Zb (rdA ρ 2) (Zb (rdA ρ 3) (some []))))) ρ)) (Zb (rdA ρ 1) (some [])))) ρ)) (fun ρ=>.next ρ)))
noncomputable def Zc2:List Sl->Option Rv:=fnP 4 4 ZfD
noncomputable def Zfw:VE->Option Str:=(fun ρ=>Zpv (Zbu (ZaX ((Zs ZeA (fun ρ=>Zb (rdA ρ 2) (Zb (rdA ρ 3) (some [])))) ρ))) (Zo7 (Zb (Zk (some (.str "a table is rolled to a grain that is no finer"))) (some [])) "NoGrain") (none))
noncomputable def Zhs:List Sl->Option Str:=fnX 4 4 Zfw
noncomputable def Zc0:VE->Res:=(fun ρ=>Zh (ZS (blO (Zgv (asB ((isX 4 CS (ZcB "NoGrain")) ρ)) (Zgv (asB ((isX 4 CS (ZcB "ValueError")) ρ)) (asB (blO (Zbu (asB ((isX 4 CS (ZcB "TooMuch")) ρ))))))))) (fun ρ=>.next ρ))
noncomputable def Zcr:VE->Res:=(fun ρ=>Zh (Zm6 CS 4 ((Zb (rdA ρ 0) (Zb (rdA ρ 1) (Zb (rdA ρ 2) (Zb (rdA ρ 3) (some []))))).bind Zhs) (ZsL ((Zs Zc2 (fun ρ=>Zb (rdA ρ 0) (Zb (rdA ρ 1) (Zb (rdA ρ 2) (Zb (rdA ρ 3) (some [])))))) ρ) ρ) Zc0 ρ) (fun ρ=>Zh (ZS (some (.bl false))) (fun ρ=>.next ρ)))
noncomputable def ZdB:List Sl->Option Rv:=fnP 4 5 Zcr
noncomputable def ZgK:VE->Option D:=(ZH Zjr (fun ρ=>Zb (rdA ρ 0) (some [])))
noncomputable def ZgS:VE->Option D:=(ZH Zjw (fun ρ=>Zb (rdA ρ 0) (some [])))
noncomputable def Zik:VE->Option D:=(Zf gtD (Zf ixD (fun ρ=>rdP ρ 1) (fun ρ=>rdP ρ 0)) (Zf ixD (fun ρ=>rdP ρ 2) (fun ρ=>rdP ρ 0)))
noncomputable def ZlW:VE->Option D:=(fun ρ=>ZR ((Zed Zir (fun ρ=>Zb (rdA ρ 0) (some []))) ρ))
noncomputable def Zil:VE->Option D:=(Zf ixD (fun ρ=>ZR (Zu ((Zb (Zk ((Zf ixD (fun ρ=>rdP ρ 1) (fun ρ=>rdP ρ 0)) ρ)) (Zb (Zk ((Zf ixD (fun ρ=>rdP ρ 2) (fun ρ=>rdP ρ 0)) ρ)) (some []))).bind Zz))) (Zf ZZ (Zf ZaF (fun ρ=>rdP ρ 3) (Zf ixD (fun ρ=>ZR (Zu ((Zb (Zk (some (.int (1)))) (Zb (Zk (some (.int (2)))) (Zb (Zk (some (.int (4)))) (Zb (Zk (some (.int (8)))) (some []))))).bind Zz))) (fun ρ=>rdP ρ 0))) (fun _=>some (.int (2)))))
noncomputable def Zl8:VE->Res:=(fun ρ=>ZP 1 ((Zs ZdA (fun ρ=>Zb (rdA ρ 0) (some []))) ρ) ρ)
noncomputable def Zms:VE->Res:=(fun ρ=>ZP 2 ((Zs Zfu (fun ρ=>Zb (rdA ρ 0) (Zb (rdA ρ 1) (some [])))) ρ) ρ)
noncomputable def Zl9:VE->Res:=(fun ρ=>ZP 3 ((Zs Zdj (fun ρ=>Zb (Zk ((Zs ZF (fun ρ=>Zb (rdA ρ 0) (Zb (Zk (some (.int (4)))) (some [])))) ρ)) (Zb (rdA ρ 1) (some [])))) ρ) ρ)
noncomputable def Zml:VE->Res:=(fun ρ=>ZP 4 ((Zs Zdj (fun ρ=>Zb (Zk ((Zs ZF (fun ρ=>Zb (rdA ρ 0) (Zb (Zk (some (.int (6)))) (some [])))) ρ)) (Zb (rdA ρ 1) (some [])))) ρ) ρ)
noncomputable def ZgQ:VE->Res:=(fun ρ=>Z4 (asB ((Zf gtD (Zf ZZ (Zf ZaF (Zs ZF (fun ρ=>Zb (rdA ρ 0) (Zb (Zk (some (.int (6)))) (some [])))) (fun _=>some (.int (125)))) (fun _=>some (.int (4)))) (fun _=>some (.int (0)))) ρ)) (Zh (Zj4 (Zaf 2 (Zy (Zm 3) (Zy (Zm 4) Zam))) ((Zu ((Zb (Zk ((ZH Zbq (fun ρ=>Zb (Zk (ZR ((ZQ 1 [] (ZdC (fun ρ=>rdQ ρ 3) (fun ρ=>rdQ ρ 4)) (Zm 0) (fun _=>some true) ZgK) ρ))) (some []))) ρ)) (Zb (Zk ((ZH Zbq (fun ρ=>Zb (Zk (ZR ((ZQ 1 [] (ZdC (fun ρ=>rdQ ρ 3) (fun ρ=>rdQ ρ 4)) (Zm 0) (fun _=>some true) ZgS) ρ))) (some []))) ρ)) (some []))).bind Zz)).map D.tup) ρ) (fun ρ=>.next ρ)) (.next ρ))
noncomputable def ZlJ:VE->Res:=(fun ρ=>ZP 5 ((Zs Zdi (fun ρ=>Zb (rdA ρ 1) (Zb (rdA ρ 2) (Zb (rdA ρ 3) (some []))))) ρ) ρ)
noncomputable def Zl4:VE->Res:=(fun ρ=>ZP 6 (ZR ((Zed Zir (fun ρ=>Zb (rdA ρ 5) (some []))) ρ)) ρ)
noncomputable def Zig:VE->Res:=(fun ρ=>Z4 (ZaX ((ZH Zgl (fun ρ=>Zb (Zk (ZR ((ZQ 1 [3,4] (fun ρ=>((Zb (Zk ((ZH Za7 (fun ρ=>Zb (rdA ρ 1) (some []))) ρ)) (some [])).bind Zz).bind ZcN) (Zm 0) (fun _=>some true) Zik) ρ))) (some []))) ρ)) (Zh (ZS (blO (Zgv (asB ((Zs ZdB (fun ρ=>Zb (rdA ρ 1) (Zb (rdA ρ 6) (Zb (rdA ρ 3) (Zb (rdA ρ 4) (some [])))))) ρ)) (asB ((Zf eqO (fun ρ=>rdP ρ 6) (fun ρ=>rdP ρ 5)) ρ))))) (fun ρ=>.next ρ)) (.next ρ))
noncomputable def ZlM:VE->Res:=(fun ρ=>Zba 7 ((ZfB Zc2 (fun ρ=>Zb (Zk (ZR ((ZQ 1 [] (fun ρ=>(rdQ ρ 1).bind ZX) (Zm 0) (fun _=>some true) ZlW) ρ))) (Zb (rdA ρ 6) (Zb (rdA ρ 3) (Zb (rdA ρ 4) (some [])))))) ρ) ρ)
noncomputable def Zmn:VE->Res:=(fun ρ=>ZP 8 ((Zs Zdi (fun ρ=>Zb (rdA ρ 1) (Zb (rdA ρ 2) (Zb (rdA ρ 4) (some []))))) ρ) ρ)
noncomputable def Zkt:VE->Res:=(fun ρ=>Z4 (orB (Zbu (ZaX ((Zs Zc7 (fun ρ=>Zb (rdA ρ 7) (some []))) ρ))) (orB (asB ((Zf neO (fun ρ=>rdP ρ 7) (fun ρ=>rdP ρ 8)) ρ)) (asB ((Zf neO (fun ρ=>rdP ρ 6) (fun ρ=>rdP ρ 5)) ρ)))) (Zh (ZS (some (.bl false))) (fun ρ=>.next ρ)) (.next ρ))
noncomputable def ZjM:VE->Res:=(fun ρ=>ZkX 7 ρ)
noncomputable def Zkd:VE->Res:=(fun ρ=>Z4 (asB ((Zf neO (fun ρ=>rdP ρ 6) (fun ρ=>rdP ρ 5)) ρ)) (Zh (ZS (some (.bl false))) (fun ρ=>.next ρ)) (.next ρ))
noncomputable def Zlj:VE->Res:=(fun ρ=>ZP 9 ((Zf ZaF (Zs ZF (fun ρ=>Zb (rdA ρ 0) (Zb (Zk (some (.int (5)))) (some [])))) (fun _=>some (.int (6)))) ρ) ρ)
noncomputable def ZjT:VE->Res:=(fun ρ=>ZP 10 ((ZH Zbq (fun ρ=>Zb (Zk (ZR ((ZQ 1 [3,4,9] (fun ρ=>((Zb (Zk ((ZH Za7 (fun ρ=>Zb (rdA ρ 1) (some []))) ρ)) (some [])).bind Zz).bind ZcN) (Zm 0) (fun _=>some true) Zil) ρ))) (some []))) ρ) ρ)
noncomputable def Zkm:VE->Res:=(fun ρ=>ZS ((Zf eqO (Zs Zc2 (fun ρ=>Zb (rdA ρ 1) (Zb (Zk ((Zs Zc2 (fun ρ=>Zb (rdA ρ 1) (Zb (rdA ρ 6) (Zb (rdA ρ 3) (Zb (rdA ρ 10) (some [])))))) ρ)) (Zb (rdA ρ 10) (Zb (rdA ρ 4) (some [])))))) (fun ρ=>rdP ρ 8)) ρ))
noncomputable def Zqc:VE->Res:=fun ρ=>.next ρ
noncomputable def ZkA:VE->Res:=fun ρ=>Zh (Zkm ρ) Zqc
noncomputable def Zk6:VE->Res:=fun ρ=>Zh (ZjT ρ) ZkA
noncomputable def Zk1:VE->Res:=fun ρ=>Zh (Zlj ρ) Zk6
noncomputable def ZkB:VE->Res:=fun ρ=>Zh (Zkd ρ) Zk1
noncomputable def Zlc:VE->Res:=fun ρ=>Zh (ZjM ρ) ZkB
noncomputable def Zk8:VE->Res:=fun ρ=>Zh (Zkt ρ) Zlc
noncomputable def ZlQ:VE->Res:=fun ρ=>Zh (Zmn ρ) Zk8
noncomputable def Zmb:VE->Res:=fun ρ=>Zh (ZlM ρ) ZlQ
noncomputable def ZgO:VE->Res:=fun ρ=>Zh (Zig ρ) Zmb
noncomputable def ZlK:VE->Res:=fun ρ=>Zh (Zl4 ρ) ZgO
noncomputable def Zmt:VE->Res:=fun ρ=>Zh (ZlJ ρ) ZlK
noncomputable def Zmm:VE->Res:=fun ρ=>Zh (ZgQ ρ) Zmt
noncomputable def Zmh:VE->Res:=fun ρ=>Zh (Zml ρ) Zmm
noncomputable def ZlT:VE->Res:=fun ρ=>Zh (Zl9 ρ) Zmh
noncomputable def Zmc:VE->Res:=fun ρ=>Zh (Zms ρ) ZlT
noncomputable def Zg4:VE->Res:=fun ρ=>Zh (Zl8 ρ) Zmc
noncomputable def Zqw:VE->Res:=Zg4
noncomputable def Zqk:List Sl->Option Rv:=fnP 1 11 Zqw
def lnD (l:List At):D:=.tup (l.map aD)
theorem Zn9:∀ (a b:At),eqD (aD a) (aD b)=decide (a=b):=by
 intro a b
 cases a<;>cases b<;>simp [aD]
theorem ZlI:∀ (a b:List At),Zaj (a.map aD) (b.map aD)=decide (a=b)
 | [],[]=>by simp
 | [],_::_=>by simp
 | _::_,[]=>by simp
 | x::a,y::b=>by
  have ih:=ZlI a b
  rw [Bool.eq_iff_iff]
  simp [Zn9,ih]
theorem Znv (n:Nat) (a:At):okD n (aD a)=true:=by cases a<;>cases n<;>rfl
theorem Zih (n:Nat) (l:List At):okD (n+1) (lnD l)=true:=by
 show (l.map aD).all (okD n)=true
 rw [List.all_map,Qct]
 exact fun a _=>Znv n a
theorem Zs3 (a b:List At):neO (lnD a) (lnD b)=some (.bl (!decide (a=b))):=by
 have h1:=Zih 11 a
 have h2:=Zih 11 b
 have h3:eqD (lnD a) (lnD b)=decide (a=b):=by simp only [lnD,eqD,ZlI]
 simp only [neO,Zfd,h1,h2,h3,Qci,if_true]
theorem Zcb (s:Sl) (ns:List Int) (hs:s=.val (.lst (ns.map D.int))\/s=.lent (ns.map D.int)) (k:Int) (h0:0<=k):ZF [s,.val (.int k)]=some (.val (.int (ns.getD k.toNat 0))):=by
 by_cases h:k<ns.length
 ·have hk:k.toNat<ns.length:=by omega
  rcases hs with rfl | rfl<;>simp [ZF,fnP,Zcp,h,atI,ixN,h0,hk]
 ·have hk:ns.length<=k.toNat:=by omega
  rcases hs with rfl | rfl<;>simp [ZF,fnP,Zcp,h,hk]
def letters:Str:="abcdefghijklmnopqrstuvwxyz"
def figures:Str:="0123456789"
def signs:Str:="abcdefghijklmnopqrstuvwxyz0123456789"
theorem Zi0:signs.length=36:=by decide +kernel
theorem ZjP:signs.cps.toList=letters.cps.toList++figures.cps.toList:=by decide +kernel
def Zj6:D->Bool
 | .int _=>true
 | _=>false
def okc (c:Nat):Bool:=decide (c∈letters.cps.toList)||decide (c∈figures.cps.toList)
def ZmP:List Nat->Bool
 | []=>false
 | c::r=>decide (c∈letters.cps.toList)&&(c::r).all okc&&decide ((c::r).length<=12)
def wordD:D->Bool
 | .str z=>ZmP z.cps.toList
 | _=>false
theorem Zoc (c:Nat):okc c=decide (c∈signs.cps.toList):=by
 unfold okc
 rw [ZjP,Bool.eq_iff_iff]
 simp [List.mem_append]
def Sm:D->Prop
 | .str z=>z.length<=100
 | .ty _=>False
 | .lst _ true=>False
 | _=>True
def ZtA (d:D):Bool:=Zj6 d||wordD d
theorem Zqt (x:Str) (l u:Option Int):Qa2 x l u=StrLaws.sliceText x l u:=rfl
theorem ZtM (x:Str) (j:Nat) (h:j<=x.cps.toList.length):(Qa2 x none (some (j:Int))).cps.toList=x.cps.toList.take j:=by
 rw [Zqt,StrLaws.sliceText_to ⟨by omega,by omega⟩]
 simp
theorem Zq1 (x:Str) (j:Nat) (h:j<=x.cps.toList.length):(Qa2 x (some (j:Int)) none).cps.toList=x.cps.toList.drop j:=by
 rw [Zqt,StrLaws.sliceText_from ⟨by omega,by omega⟩]
 simp only [List.toList_toArray]
 rw [Qbx]
 ·simp
 ·simp only [Qb4];omega
theorem Zc6 (x y:Str):(x++y).cps.toList=x.cps.toList++y.cps.toList:=by
 show (x.cps++y.cps).toList=_
 simp
theorem ZgP (c:Nat):(⟨#[c]⟩:Str).cps.toList=[c]:=rfl
theorem Zbn (x:Str):x.length=x.cps.toList.length:=by simp [Str.length]
def zt (n k:Nat):List Nat:=(Txt.zfill (QaY (Qb3 (k:Int))) (n:Int)).cps.toList
theorem Zum:∀ n∈[1,2,3,4],∀ k∈Qaw 47,(zt n k).all okc=true/\(zt n k).length<=4:=by decide +kernel
theorem Zui:∀ n∈[1,2,3,4],((Qaw 47).map (zt n)).Nodup:=by decide +kernel
theorem Zoe {α:Type} {f:Nat->α} {m:Nat} (h:((Qaw m).map f).Nodup) {j k:Nat} (hj:j<m) (hk:k<m) (e:f j=f k):j=k:=by
 rw [List.nodup_iff_pairwise_ne,List.pairwise_map] at h
 rcases Nat.lt_trichotomy j k with hl | hl | hl
 ·exact absurd e (List.pairwise_iff_getElem.mp h j k (by simpa) (by simpa) hl |> fun z=>by simpa using z)
 ·exact hl
 ·exact absurd e.symm (List.pairwise_iff_getElem.mp h k j (by simpa) (by simpa) hl |> fun z=>by simpa using z)
def ltr (i:Nat):Nat:=letters.cps.toList.getD i 0
theorem ZsS:∀ i∈Qaw 26,ltr i∈letters.cps.toList:=by decide +kernel
theorem ZsJ:((Qaw 26).map ltr).Nodup:=by decide +kernel
theorem Zg7:letters.cps.toList.length=26:=by decide +kernel
theorem Zsn (i:Nat) (h:i<26):ixD (.str "abcdefghijklmnopqrstuvwxyz") (.int (i:Int))=some (.str ⟨#[ltr i]⟩):=by
 have hl:=Zg7
 have hz:letters.length<=Qaj:=by rw [Zbn,hl];decide
 have e:atI letters.cps.toList (i:Int)=some (ltr i):=ZbL (by rw [QaF (by omega)];simp [ltr,Qbh,QaF (show i<letters.cps.toList.length by omega)])
 show (if letters.length<=Qaj then (atI letters.cps.toList (i:Int)).map (fun c=>D.str ⟨#[c]⟩) else none)=_
 rw [if_pos hz,e];rfl
def GW (W:List Nat):Prop:=(∃ c r,W=c::r/\c∈letters.cps.toList)/\W.all okc=true
theorem GW.word {W:List Nat} (h:GW W) (hl:W.length<=12):ZmP W=true:=by
 obtain ⟨⟨c,r,rfl,hc⟩,ha⟩:=h
 simp only [ZmP,hc,decide_true,Bool.true_and,ha,hl]
theorem sgn (i:Int) (k:Int) (h0:0<k) (h1:k<=36):∃ c,ixD (.str "abcdefghijklmnopqrstuvwxyz0123456789") (.int (i%k))=some (.str ⟨#[c]⟩)/\okc c=true:=by
 have hl:=Zi0
 obtain ⟨c,h,hm⟩:=ZrA (z:=signs) (i:=i%k) (by omega) (Qc4 _ (by omega)) (by have:=Qda i h0;omega)
 exact ⟨c,h,by rw [Zoc];simpa using hm⟩
theorem Zt4 (i:Int):∃ c,ixD (.str "abcdefghijklmnopqrstuvwxyz0123456789") (.int (i%26))=some (.str ⟨#[c]⟩)/\c∈letters.cps.toList:=by
 obtain ⟨j,hj,hjl⟩:∃ j:Nat,i%26=(j:Int)/\j<26:=⟨(i%26).toNat,by omega,by omega⟩
 have hl:=Zg7
 have hz:signs.length<=Qaj:=by rw [Zi0];decide
 have e:atI signs.cps.toList (j:Int)=some (letters.cps.toList[j]'(by omega)):=ZbL (by rw [ZjP,QbA (by omega),QaF (by omega)])
 refine ⟨letters.cps.toList[j]'(by omega),?_,Qbd _⟩
 rw [hj]
 show (if signs.length<=Qaj then (atI signs.cps.toList (j:Int)).map (fun c=>D.str ⟨#[c]⟩) else none)=_
 rw [if_pos hz,e];rfl
abbrev SG:Sl:=.val (.str "abcdefghijklmnopqrstuvwxyz0123456789")
theorem ZjX (c:Int) (s1:Sl):∀ (ks:List Nat) (z:Str) (s4:Sl),(∀ k∈ks,k<1000)->z.length+ks.length<=1000->∃ z' s4' ext,Z7 (Zm 4) Zd6 (ks.map fun (k:Nat)=>D.int (k:Int)) [.val (.int c),s1,SG,.val (.str z),s4]=.next [.val (.int c),s1,SG,.val (.str z'),s4']/\z'.cps.toList=z.cps.toList++ext/\ext.length=ks.length/\ext.all okc=true
 | [],z,s4,_,_=>⟨z,s4,[],rfl,by simp,rfl,rfl⟩
 | k::ks,z,s4,hk,h=>by
  simp only [QaK] at h
  have hk1:=hk k Qam
  obtain ⟨x,hx,hxo⟩:=sgn (c / ((k:Int)+3)) 36 (by decide) (by decide)
  have h1:(⟨#[x]⟩:Str).length=1:=by simp [Str.length]
  have ha:=Zd9 z ⟨#[x]⟩ (by rw [h1];omega)
  have hl:(z++⟨#[x]⟩).length=z.length+1:=by rw [Zbn,Zc6,Zbn];simp
  obtain ⟨z',s4',ext,e,e1,e2,e3⟩:=ZjX c s1 ks (z++⟨#[x]⟩) (.val (.int (k:Int))) (fun j hj=>hk j (Qag _ hj)) (by rw [hl];omega)
  have hd:ZaR c ((k:Int)+3):=⟨by omega,by omega⟩
  refine ⟨z',s4',x::ext,?_,by rw [e1,Zc6];simp,by simp [e2],by simp [hxo,e3]⟩
  have a1:Zx (.int (k:Int)) (.int 3)=some (.int ((k:Int)+3)):=rfl
  simp [Z7,Zd6,-ixD,-Zx,a1,hd,hx,ha,e]
theorem ZlX (c:Int) (m:Nat) (hm:m<=100):∃ z,Zc1 [.val (.int c),.val (.int (m:Int))]=some (.val (.str z))/\z.cps.toList.length=m+1/\GW z.cps.toList:=by
 obtain ⟨x,hx,hxl⟩:=Zt4 c
 have hr:=Zcx m (by omega)
 obtain ⟨z',s4',ext,e,e1,e2,e3⟩:=ZjX c (.val (.int (m:Int))) (Qaw m) ⟨#[x]⟩ .no (fun k hk=>by have:=List.mem_range.mp hk;omega) (by simp [Str.length];omega)
 have hxo:okc x=true:=by simp [okc,hxl]
 refine ⟨z',?_,by rw [e1,ZgP];simp [e2],⟨x,ext,by rw [e1];rfl,hxl⟩,by rw [e1,ZgP];simp [hxo,e3]⟩
 simp [Zc1,fnP,ZfI,Zf6,ZgD,Zgu,Zf5,Zgs,Zgi,Zf9,Zf8,-ixD,hx,hr,e]
structure VOk (f:Nat->At):Prop where
 val:∀ k,k<47->ZtA (aD (f k))=true
 sm:∀ k,k<47->Sm (aD (f k))
 inj:∀ j k,j<47->k<47->f j=f k->j=k
theorem Zfr {z:Str} (h:GW z.cps.toList) (hl:z.cps.toList.length<=12):ZtA (aD (.str z))=true/\Sm (aD (.str z)):=by
 refine ⟨?_,?_⟩
 ·show (Zj6 (.str z)||wordD (.str z))=true
  simp only [Zj6,wordD,h.word hl,Bool.or_true]
 ·show z.length<=100
  rw [Zbn];omega
theorem GW.app {W V:List Nat} (h:GW W) (hv:V.all okc=true):GW (W++V):=by
 obtain ⟨⟨c,r,rfl,hc⟩,ha⟩:=h
 exact ⟨⟨c,r++V,rfl,hc⟩,by rw [List.all_append,ha,hv];rfl⟩
theorem GW.mid {W V:List Nat} (h:GW W) (a:Nat) (hv:V.all okc=true) (hh:∃ c r,V=c::r/\c∈letters.cps.toList):GW (W.take a++V++W.drop a):=by
 obtain ⟨⟨c,r,rfl,hc⟩,ha⟩:=h
 have hall:(List.take a (c::r)++V++List.drop a (c::r)).all okc=true:=by
  rw [Qct] at ha hv ⊢
  intro x hx
  simp only [List.mem_append] at hx
  rcases hx with (hx | hx) | hx
  ·exact ha x (List.mem_of_mem_take hx)
  ·exact hv x hx
  ·exact ha x (List.mem_of_mem_drop hx)
 refine ⟨?_,hall⟩
 cases a with
 | zero =>
  obtain ⟨c',r',rfl,hc'⟩:=hh
  exact ⟨c',r'++c::r,by simp,hc'⟩
 | succ a=>exact ⟨c,List.take a r++V++List.drop a r,by simp,hc⟩
theorem ZtI {W:List Nat} {a x y x' y':Nat} (h:W.take a++[x,y]++W.drop a=W.take a++[x',y']++W.drop a):x=x'/\y=y':=by
 rw [QbE,QbE] at h
 have h:=List.append_cancel_left h
 simp only [List.cons_append,QcC,List.cons.injEq] at h
 exact ⟨h.1,h.2.1⟩
theorem Ztn (way cell:Int) (w0:way=0):∃ f,VOk f/\∀ k:Nat,k<47->Z6 [.val (.int way),.val (.int cell),.val (.int (k:Int))]=some (.val (aD (f k))):=by
 have d4:ZaR cell 4:=by constructor<;>decide
 have d8:ZaR cell 8:=by constructor<;>decide
 refine ⟨fun k=>.int (cell / 4%10^30+k),⟨fun k _=>rfl,fun k _=>trivial,fun j k _ _ e=>by injection e with e;omega⟩,fun k hk=>?_⟩
 simp [Z6,fnP,ZbM,ZbE,ZbH,ZbF,ZbI,d4,Zft,w0,aD]
theorem Zsk (way cell:Int) (w1:way=1):∃ f,VOk f/\∀ k:Nat,k<47->Z6 [.val (.int way),.val (.int cell),.val (.int (k:Int))]=some (.val (aD (f k))):=by
 have d4:ZaR cell 4:=by constructor<;>decide
 have d8:ZaR cell 8:=by constructor<;>decide
 refine ⟨fun k=>.int (0-cell / 4%10^30-k),⟨fun k _=>rfl,fun k _=>trivial,fun j k _ _ e=>by injection e with e;omega⟩,fun k hk=>?_⟩
 simp [Z6,fnP,ZbM,ZbE,ZbH,ZbF,ZbI,Zco,Zct,d4,Zft,w1,aD]
theorem Zsv (way cell:Int) (w2:way=2):∃ f,VOk f/\∀ k:Nat,k<47->Z6 [.val (.int way),.val (.int cell),.val (.int (k:Int))]=some (.val (aD (f k))):=by
 have d4:ZaR cell 4:=by constructor<;>decide
 have d8:ZaR cell 8:=by constructor<;>decide
 obtain ⟨m,hm,hm7⟩:∃ m:Nat,cell%8=(m:Int)/\m<=7:=⟨(cell%8).toNat,by omega,by omega⟩
 obtain ⟨w,hw,hwl,hwg⟩:=ZlX (cell / 4) m (by omega)
 obtain ⟨n,hn,hn4⟩:∃ n:Nat,1+cell / 8%4=(n:Int)/\n∈[1,2,3,4]:=by
  refine ⟨(1+cell / 8%4).toNat,by omega,?_⟩
  have:(1+cell / 8%4).toNat=1\/(1+cell / 8%4).toNat=2\/(1+cell / 8%4).toNat=3\/(1+cell / 8%4).toNat=4:=by omega
  simpa using this
 have hnn:n<=4:=by simp at hn4;omega
 have hzo:∀ k,k<47->(zt n k).all okc=true/\(zt n k).length<=4:=fun k hk=>Zum n hn4 k (List.mem_range.mpr hk)
 have hcp:∀ k:Nat,(w++Txt.zfill (QaY (Qb3 (k:Int))) (n:Int)).cps.toList=w.cps.toList++zt n k:=fun k=>Zc6 _ _
 have hok:∀ k:Nat,k<47->GW (w++Txt.zfill (QaY (Qb3 (k:Int))) (n:Int)).cps.toList/\(w++Txt.zfill (QaY (Qb3 (k:Int))) (n:Int)).cps.toList.length<=12:=fun k hk=>by
  rw [hcp]
  exact ⟨hwg.app (hzo k hk).1,by rw [Qbg,hwl];have:=(hzo k hk).2;omega⟩
 refine ⟨fun k=>.str (w++Txt.zfill (QaY (Qb3 (k:Int))) (n:Int)),⟨fun k hk=>(Zfr (hok k hk).1 (hok k hk).2).1,fun k hk=>(Zfr (hok k hk).1 (hok k hk).2).2,fun j k hj hk e=>?_⟩,fun k hk=>?_⟩
 ·injection e with e
  have:=congrArg (fun s:Str=>s.cps.toList) e
  simp only [hcp] at this
  exact Zoe (Zui n hn4) hj hk (List.append_cancel_left this)
 ·have hlg:((k:Int).natAbs).log2<1920:=Qc5 (Nat.log2_le_self _) (by omega)
  have hz:=Zn6 (QaY (Qb3 (k:Int))) (n:Int) (by omega) (by omega)
  have ha:=Zd9 w (Txt.zfill (QaY (Qb3 (k:Int))) (n:Int)) (by rw [Zbn,Zbn,hwl];have:=(hzo k hk).2;unfold zt at this;omega)
  have a1:Zx (.int 1) (.int (cell / 8%4))=some (.int (n:Int)):=by rw [<- hn];rfl
  have hsI:Ziz [.int (k:Int)]=some (.str (QaY (Qb3 (k:Int)))):=by simp only [Ziz];rw [if_pos hlg]
  dsimp only
  generalize QaY (Qb3 (k:Int))=T at *
  simp [Z6,fnP,ZbM,ZbE,ZbH,ZbF,ZbI,Zco,Zct,ZdH,ZdG,Zdy,Zdz,d4,d8,Zft,w2,hm,hw,-Ziz,hsI,-Zx,a1,hz,ha,aD]
theorem Zuh (j k c8:Nat) (hj:j<47) (hk:k<47) (r1:j / 26=k / 26) (r2:(j+c8)%26=(k+c8)%26):j=k:=by omega
theorem ZmE {j:Nat} (h:j<47):j / 26<26:=by omega
theorem Zq9:∃ lt:Nat->Nat,(∀ i,i<26->lt i∈letters.cps.toList)/\(∀ i j,i<26->j<26->lt i=lt j->i=j)/\∀ i:Nat,i<26->ixD (.str "abcdefghijklmnopqrstuvwxyz") (.int (i:Int))=some (.str ⟨#[lt i]⟩) :=
 ⟨ltr,fun i hi=>ZsS i (List.mem_range.mpr hi),fun i j hi hj e=>Zoe (f:=ltr) ZsJ hi hj e,Zsn⟩
theorem ZtT (w:Str) (a x y:Nat) (h:a<=w.cps.toList.length):(Qa2 w none (some (a:Int))++(⟨#[x]⟩++⟨#[y]⟩)++Qa2 w (some (a:Int)) none).cps.toList=w.cps.toList.take a++[x,y]++w.cps.toList.drop a:=by
 rw [Zc6,Zc6,Zc6,ZgP,ZgP,ZtM w a h,Zq1 w a h]
 rfl
theorem ZtY (w:Str) (a x y:Nat) (h:w.length<=100):Zx (.str ⟨#[x]⟩) (.str ⟨#[y]⟩)=some (.str (⟨#[x]⟩++⟨#[y]⟩))/\Zx (.str (Qa2 w none (some (a:Int)))) (.str (⟨#[x]⟩++⟨#[y]⟩))=some (.str (Qa2 w none (some (a:Int))++(⟨#[x]⟩++⟨#[y]⟩))) /\
  Zx (.str (Qa2 w none (some (a:Int))++(⟨#[x]⟩++⟨#[y]⟩))) (.str (Qa2 w (some (a:Int)) none))=some (.str (Qa2 w none (some (a:Int))++(⟨#[x]⟩++⟨#[y]⟩)++Qa2 w (some (a:Int)) none)):=by
 have hl1:∀ c:Nat,(⟨#[c]⟩:Str).length=1:=fun c=>by simp [Str.length]
 have hla:∀ x y:Str,(x++y).length=x.length+y.length:=fun x y=>by rw [Zbn,Zbn,Zbn,Zc6,Qbg]
 have hsl1:=Txt.slice_le w none (some (a:Int))
 have hsl2:=Txt.slice_le w (some (a:Int)) none
 refine ⟨Zd9 _ _ (by rw [hl1,hl1];omega),Zd9 _ _ (by rw [hla,hl1,hl1];omega),Zd9 _ _ (by rw [hla,hla,hl1,hl1];omega)⟩
theorem ZqO (cell:Int) (m a:Nat) (w:Str) (hwl:w.cps.toList.length=m+1) (hm7:m<=7) (hwg:GW w.cps.toList) (hal:a<=m+1) (c8:Nat) (lt:Nat->Nat) (hin:∀ i,i<26->lt i∈letters.cps.toList) (hinj:∀ i j,i<26->j<26->lt i=lt j->i=j) (g:Nat->Str) (hg:∀ k,(g k).cps.toList=w.cps.toList.take a++[lt (k / 26),lt ((k+c8)%26)]++w.cps.toList.drop a):VOk fun k=>.str (g k):=by
 have hoc:∀ c,c∈letters.cps.toList->okc c=true:=fun c hc=>by simp only [okc,hc,decide_true,Bool.true_or]
 have hok:∀ k:Nat,k<47->GW (g k).cps.toList/\(g k).cps.toList.length<=12:=fun k hk=>by
  have h1:=hin _ (ZmE hk)
  have h2:=hin ((k+c8)%26) (Nat.mod_lt _ (by decide))
  rw [hg]
  refine ⟨hwg.mid a (by simp only [Qc0,List.all_nil,hoc _ h1,hoc _ h2,Qci]) ⟨_,_,rfl,h1⟩,?_⟩
  simp only [Qbg,List.length_take,Qb4,QaK,Qbb,hwl]
  omega
 refine ⟨fun k hk=>(Zfr (hok k hk).1 (hok k hk).2).1,fun k hk=>(Zfr (hok k hk).1 (hok k hk).2).2,fun j k hj hk e=>?_⟩
 have e':g j=g k:=At.str.inj e
 have h2:w.cps.toList.take a++[lt (j / 26),lt ((j+c8)%26)]++w.cps.toList.drop a=w.cps.toList.take a++[lt (k / 26),lt ((k+c8)%26)]++w.cps.toList.drop a:=by rw [<- hg j,<- hg k,e']
 obtain ⟨q1,q2⟩:=ZtI h2
 exact Zuh j k c8 hj hk (hinj _ _ (ZmE hj) (ZmE hk) q1) (hinj _ _ (Nat.mod_lt _ (by decide)) (Nat.mod_lt _ (by decide)) q2)
theorem Zrt (way cell:Int) (w0:¬ way=0) (w1:¬ way=1) (w2:¬ way=2) (m q1 q2 k:Nat) (a:Int) (w A B S1 S2 S3 C:Str) (hm:cell%8=(m:Int)) (hw:Zc1 [.val (.int (cell / 4)),.val (.int (m:Int))]=some (.val (.str w))) (hlw:Za7 [.str w]=some (.int ((m:Int)+1))) (hwz:w.length<=Qaj)
  (hat:cell / 8%((m:Int)+1+1)=a) (hA:Qa2 w none (some a)=A) (hB:Qa2 w (some a) none=B) (e1:(k:Int) / 26=(q1:Int)) (e2:((k:Int)+cell / 8)%26=(q2:Int))
  (x1:ixD (.str "abcdefghijklmnopqrstuvwxyz") (.int (q1:Int))=some (.str S1)) (x2:ixD (.str "abcdefghijklmnopqrstuvwxyz") (.int (q2:Int))=some (.str S2)) (ad1:Zx (.str S1) (.str S2)=some (.str S3)) (ad2:Zx (.str A) (.str S3)=some (.str C)) (D':Str) (ad3:Zx (.str C) (.str B)=some (.str D')) :
  Z6 [.val (.int way),.val (.int cell),.val (.int (k:Int))]=some (.val (.str D')):=by
 have d4:ZaR cell 4:=by constructor<;>decide
 have d8:ZaR cell 8:=by constructor<;>decide
 have d26:ZaR (k:Int) 26:=by constructor<;>decide
 have hp:(0:Int)<(m:Int)+1+1:=by omega
 have a1:∀ a b:Int,Zx (.int a) (.int b)=some (.int (a+b)):=fun _ _=>rfl
 simp [Z6,fnP,ZbM,ZbE,ZbH,ZbF,ZbI,Zco,Zct,ZdH,ZdG,Zdy,Zdz,ZfZ,Zf0,Zf1,ZfX,ZfW,ZfY,ZfV,ZfT,d4,d8,d26,Zft,w0,w1,w2,hm,hw,-Zx,a1,-Za7,hlw,hp,hat,e1,e2,-ixD,x1,x2,ad1,hwz,hA,hB,ad2,ad3]
theorem Zu7 (x:Int) (m:Nat):∃ a:Nat,x%((m:Int)+1+1)=(a:Int)/\a<=m+1:=by
 have h1:=Qc4 x (show (m:Int)+1+1≠0 by omega)
 have h2:=Qda x (show (0:Int)<(m:Int)+1+1 by omega)
 exact ⟨(x%((m:Int)+1+1)).toNat,by omega,by omega⟩
theorem Zt5 (x:Int):∃ c8:Nat,∀ k:Nat,((k:Int)+x)%26=(((k+c8)%26:Nat):Int):=⟨(x%26).toNat,fun k=>by omega⟩
theorem Zt9 (k:Nat):(k:Int) / 26=((k / 26:Nat):Int):=by omega
theorem ZrY (way cell:Int) (w0:¬ way=0) (w1:¬ way=1) (w2:¬ way=2):∃ f,VOk f/\∀ k:Nat,k<47->Z6 [.val (.int way),.val (.int cell),.val (.int (k:Int))]=some (.val (aD (f k))):=by
 obtain ⟨m,hm,hm7⟩:∃ m:Nat,cell%8=(m:Int)/\m<=7:=⟨(cell%8).toNat,by omega,by omega⟩
 obtain ⟨w,hw,hwl,hwg⟩:=ZlX (cell / 4) m (by omega)
 obtain ⟨a,hat,hal⟩:=Zu7 (cell / 8) m
 obtain ⟨c8,hi2⟩:=Zt5 (cell / 8)
 have hi1:=Zt9
 obtain ⟨lt,hin,hinj,hix⟩:=Zq9
 have hwlen:w.length=m+1:=by rw [Zbn,hwl]
 have hwz:w.length<=Qaj:=by rw [hwlen];exact QaP (Nat.succ_le_succ hm7) (by decide)
 have hlw:Za7 [.str w]=some (.int ((m:Int)+1)):=by simp only [Za7];rw [if_pos hwz,hwlen];rfl
 have hal':a<=w.cps.toList.length:=by rw [hwl];exact hal
 have hw100:w.length<=100:=by rw [hwlen];exact QaP (Nat.succ_le_succ hm7) (by decide)
 refine ⟨_,ZqO cell m a w hwl hm7 hwg hal c8 lt hin hinj (fun k=>Qa2 w none (some (a:Int))++(⟨#[lt (k / 26)]⟩++⟨#[lt ((k+c8)%26)]⟩)++Qa2 w (some (a:Int)) none) (fun k=>ZtT w a (lt (k / 26)) (lt ((k+c8)%26)) hal'),fun k hk=>?_⟩
 obtain ⟨ad1,ad2,ad3⟩:=ZtY w a (lt (k / 26)) (lt ((k+c8)%26)) hw100
 have h3:=Zrt way cell w0 w1 w2 m (k / 26) ((k+c8)%26) k (a:Int) w (Qa2 w none (some (a:Int))) (Qa2 w (some (a:Int)) none) ⟨#[lt (k / 26)]⟩ ⟨#[lt ((k+c8)%26)]⟩ (⟨#[lt (k / 26)]⟩++⟨#[lt ((k+c8)%26)]⟩) (Qa2 w none (some (a:Int))++(⟨#[lt (k / 26)]⟩++⟨#[lt ((k+c8)%26)]⟩)) hm hw hlw hwz hat rfl rfl (hi1 k) (hi2 k) (hix _ (ZmE hk)) (hix _ (Nat.mod_lt _ (by decide))) ad1 ad2 (Qa2 w none (some (a:Int))++(⟨#[lt (k / 26)]⟩++⟨#[lt ((k+c8)%26)]⟩)++Qa2 w (some (a:Int)) none) ad3
 dsimp only [aD]
 exact h3
theorem ZpU (way cell:Int):∃ f,VOk f/\∀ k:Nat,k<47->Z6 [.val (.int way),.val (.int cell),.val (.int (k:Int))]=some (.val (aD (f k))):=by
 by_cases w0:way=0
 ·exact Ztn way cell w0
 ·by_cases w1:way=1
  ·exact Zsk way cell w1
  ·by_cases w2:way=2
   ·exact Zsv way cell w2
   ·exact ZrY way cell w0 w1 w2
def Zd0 (x:Int) (k:Nat):Nat->List Int
 | 0=>[]
 | n+1=>((x * 48271+2 * (k:Int)+11)%2147483647 / 64)::Zd0 ((x * 48271+2 * (k:Int)+11)%2147483647) (k+1) n
theorem Zj8:∀ (n k:Nat) (x:Int),(Zd0 x k n).length=n
 | 0,_,_=>rfl
 | n+1,k,x=>by simp [Zd0,Zj8 n]
theorem ZkF:∀ (n k:Nat) (x:Int),∀ y∈Zd0 x k n,0<=y/\y<33554432
 | 0,_,_,y,h=>by cases h
 | n+1,k,x,y,h=>by
  simp only [Zd0,Qbk] at h
  rcases h with rfl | h
  ·omega
  ·exact ZkF n _ _ y h
theorem ZkK (s0 s1:Sl):∀ (n k:Nat) (x:Int) (acc:List Int) (s4:Sl),acc.length+n<100000->∃ x' s4',Z7 (Zm 4) Zb9 ((Qcm k n).map fun (k:Nat)=>D.int (k:Int)) [s0,s1,.val (.int x),.own (acc.map D.int),s4]=.next [s0,s1,.val (.int x'),.own ((acc++Zd0 x k n).map D.int),s4']
 | 0,k,x,acc,s4,_=>⟨x,s4,by simp [Z7,Zd0]⟩
 | n+1,k,x,acc,s4,h=>by
  obtain ⟨x',s4',e⟩:=ZkK s0 s1 n (k+1) ((x * 48271+2 * (k:Int)+11)%2147483647) (acc++[(x * 48271+2 * (k:Int)+11)%2147483647 / 64]) (.val (.int (k:Int))) (by simp;omega)
  have hz:acc.length<Qaj:=Qay (show acc.length<100000 by omega) (by decide)
  have hm:CMul x 48271:=by right;decide
  have hm2:CMul 2 (k:Int):=by left;decide
  have hd:∀ y:Int,ZaR y 64:=fun y=>by constructor<;>decide
  refine ⟨x',s4',?_⟩
  rw [QcX,Qai]
  simp only [Z7,Zm,Qap,Qan]
  rw [show Zb9 [s0,s1,.val (.int x),.own (acc.map D.int),.val (.int (k:Int))]=.next [s0,s1,.val (.int ((x * 48271+2 * (k:Int)+11)%2147483647)),.own ((acc++[(x * 48271+2 * (k:Int)+11)%2147483647 / 64]).map D.int),.val (.int (k:Int))] by
   simp [Zb9,hz,hm,hm2,hd]]
  simp only [Zd0]
  rw [show acc++((x * 48271+2 * (k:Int)+11)%2147483647 / 64)::Zd0 ((x * 48271+2 * (k:Int)+11)%2147483647) (k+1) n=acc++[(x * 48271+2 * (k:Int)+11)%2147483647 / 64]++Zd0 ((x * 48271+2 * (k:Int)+11)%2147483647) (k+1) n by simp]
  exact e
theorem Zgq (c p:Int):∃ ws:List Int,Zbr [.val (.int c),.val (.int p)]=some (.val (.lst (ws.map D.int)))/\ws.length=24/\∀ y∈ws,0<=y/\y<33554432:=by
 have hr:ZcN [.int 25]=some ((Qcm 0 25).map fun (k:Nat)=>D.int (k:Int)):=by
  have:=Zcx 25 (by omega)
  rw [QcY] at this
  exact this
 obtain ⟨x',s4',e⟩:=ZkK (.val (.int c)) (.val (.int p)) 25 0 ((c+7919 * p)%2147483629) [] .no (by simp)
 have hl:=Zj8 25 0 ((c+7919 * p)%2147483629)
 have hps:=ZkF 25 0 ((c+7919 * p)%2147483629)
 simp only [QcC,Qa3] at e
 generalize Zd0 ((c+7919 * p)%2147483629) 0 25=W at *
 have hc:Zcl (W.map D.int) (some 1) none=(W.drop 1).map D.int:=by rw [ZjY,ZoZ _ _ (by omega)];rfl
 have m1:CMul 7919 p:=by left;decide
 generalize hR:((Qcm 0 25).map fun (k:Nat)=>D.int (k:Int))=R at *
 refine ⟨W.drop 1,?_,by simp [hl],fun y hy=>hps y (List.mem_of_mem_drop hy)⟩
 simp [Zbr,fnP,Zd3,Ze9,Zfb,Ze4,ZeV,Zfk,ZeU,Zfc,ZeZ,hr,m1,e,hc]
theorem Zeg {xs:List Int} {i:Int} (h0:0<=i) (h1:i<xs.length):atI (xs.map D.int) i=some (.int (xs.getD i.toNat 0)):=by
 rw [show i=((i.toNat:Nat):Int) by omega]
 have h:i.toNat<xs.length:=by omega
 exact ZbL (by rw [Qa1,Qbz,QaF h];simp [Qbh,h])
structure Way where
 sv:List Int
 wd:Nat->Int
 fs:Nat->Nat->At
def Way.stp (w:Way) (j x:Nat):Nat:=(((x:Int) * (1+w.sv.getD (4+j) 0%5)+w.sv.getD (8+j) 0)%w.wd j).toNat
def Way.chn (w:Way):Nat->Nat->Nat->List At
 | _,_,0=>[]
 | j,x,n+1=>w.fs j x::w.chn (j+1) (w.stp (j+1) x) n
def Way.a0 (w:Way) (k:Nat):Nat:=(((k:Int) * (1+w.sv.getD 0 0%46)+w.sv.getD 4 0)%47).toNat
structure Way.Ok (w:Way) (cell:Int):Prop where
 len:w.sv.length=24
 pos:∀ y∈w.sv,0<=y/\y<33554432
 w1:∀ j,1<=w.wd j
 w2:∀ j,w.wd j<=47
 vs:∀ j,VOk (w.fs j)
 val:∀ j k:Nat,k<47->Z6 [.val (.int (w.sv.getD (12+j) 0%4)),.val (.int (cell+(j:Int) * (w.sv.getD 16 0%2) * 1000003)),.val (.int (k:Int))]=some (.val (aD (w.fs j k)))
theorem Way.stp_lt {w:Way} {cell:Int} (h:w.Ok cell) (j x:Nat):w.stp j x<47:=by
 have h1:=h.w1 j
 have h2:=h.w2 j
 unfold Way.stp
 generalize (x:Int) * (1+w.sv.getD (4+j) 0%5)+w.sv.getD (8+j) 0=y
 have h3:=Qc4 y (show w.wd j≠0 by omega)
 have h4:=Qda y (show 0<w.wd j by omega)
 omega
theorem Way.stp_int {w:Way} {cell:Int} (h:w.Ok cell) (j x:Nat):((x:Int) * (1+w.sv.getD (4+j) 0%5)+w.sv.getD (8+j) 0)%w.wd j=(w.stp j x:Int):=by
 have h1:=h.w1 j
 unfold Way.stp
 generalize (x:Int) * (1+w.sv.getD (4+j) 0%5)+w.sv.getD (8+j) 0=y
 have h3:=Qc4 y (show w.wd j≠0 by omega)
 omega
theorem Way.a0_lt (w:Way) (k:Nat):w.a0 k<47:=by
 unfold Way.a0
 generalize (k:Int) * (1+w.sv.getD 0 0%46)+w.sv.getD 4 0=y
 omega
theorem Way.a0_int (w:Way) (k:Nat):((k:Int) * (1+w.sv.getD 0 0%46)+w.sv.getD 4 0)%47=(w.a0 k:Int):=by
 unfold Way.a0
 generalize (k:Int) * (1+w.sv.getD 0 0%46)+w.sv.getD 4 0=y
 omega
theorem cm5 (x y:Int):CMul x (1+y%5):=.inr ⟨by omega,by omega⟩
theorem ZuW (x y:Int):CMul x (1+y%46):=.inr ⟨by omega,by omega⟩
theorem cm2 (x y:Int):CMul x (y%2):=.inr ⟨by omega,by omega⟩
theorem ZcW {x y:Int} (h:CMul x y):ZdF (.int x) (.int y)=some (.int (x * y)):=by show (if CMul x y then some (D.int (x * y)) else none)=_;rw [if_pos h]
abbrev WD (w:Way):Sl:=.own ([.int (w.wd 0),.int (w.wd 1),.int (w.wd 2),.int (w.wd 3)]:List D)
theorem Zuj (w:Way) (j:Nat) (h:j<4):atI ([.int (w.wd 0),.int (w.wd 1),.int (w.wd 2),.int (w.wd 3)]:List D) (j:Int)=some (.int (w.wd j)):=by
 have:j=0\/j=1\/j=2\/j=3:=by omega
 rcases this with rfl | rfl | rfl | rfl<;>exact ZbL rfl
theorem ZkS (w:Way) (cell:Int) (h:w.Ok cell) (s1 s2 s6 s7 s10:Sl) (j x:Nat) (hj:j<4) (hx:x<47) (acc:List At) (ha:acc.length<100) :
  Za2 [.val (.int cell),s1,s2,.val (.lst (w.sv.map D.int)),WD w,.val (.int (j:Int)),s6,s7,.val (.int (x:Int)),.own (acc.map aD),s10] =
   .next [.val (.int cell),s1,s2,.val (.lst (w.sv.map D.int)),WD w,.val (.int (j:Int)),s6,s7,.val (.int ((if 0<j then w.stp j x else x:Nat):Int)),.own ((acc++[w.fs j (if 0<j then w.stp j x else x)]).map aD),.val (.int (cell+(j:Int) * (w.sv.getD 16 0%2) * 1000003))]:=by
 have hl:=h.len
 have i16:atI (w.sv.map D.int) 16=some (.int (w.sv.getD 16 0)):=Zeg (by omega) (by omega)
 have i12:atI (w.sv.map D.int) (12+(j:Int))=some (.int (w.sv.getD (12+j) 0)):=by
  have:=Zeg (xs:=w.sv) (i:=12+(j:Int)) (by omega) (by omega)
  rw [show (12+(j:Int)).toNat=12+j by omega] at this
  exact this
 have i4:atI (w.sv.map D.int) (4+(j:Int))=some (.int (w.sv.getD (4+j) 0)):=by
  have:=Zeg (xs:=w.sv) (i:=4+(j:Int)) (by omega) (by omega)
  rw [show (4+(j:Int)).toNat=4+j by omega] at this
  exact this
 have i8:atI (w.sv.map D.int) (8+(j:Int))=some (.int (w.sv.getD (8+j) 0)):=by
  have:=Zeg (xs:=w.sv) (i:=8+(j:Int)) (by omega) (by omega)
  rw [show (8+(j:Int)).toNat=8+j by omega] at this
  exact this
 have iw:=Zuj w j hj
 have hw1:=h.w1 j
 have hwp:0<w.wd j:=by omega
 have hz:acc.length<Qaj:=Qay (show acc.length<100000 by omega) (by decide)
 have hst:=Way.stp_int h j x
 have hv1:=h.val j (w.stp j x) (Way.stp_lt h j x)
 have hv2:=h.val j x hx
 have c1:=cm5 (x:Int) (w.sv.getD (4+j) 0)
 have c2:=cm2 (j:Int) (w.sv.getD 16 0)
 have c3:CMul ((j:Int) * (w.sv.getD 16 0%2)) 1000003:=.inr (by decide)
 generalize w.sv.getD 16 0=g16 at *
 generalize w.sv.getD (12+j) 0=g12 at *
 generalize w.sv.getD (4+j) 0=G4 at *
 generalize hg4:1+G4%5=g4 at *
 generalize w.sv.getD (8+j) 0=g8 at *
 generalize w.stp j x=sx at *
 generalize w.wd j=wj at *
 dsimp only [WD]
 generalize [D.int (w.wd 0),D.int (w.wd 1),D.int (w.wd 2),D.int (w.wd 3)]=WL at *
 have a1:∀ a b:Int,Zx (.int a) (.int b)=some (.int (a+b)):=fun _ _=>rfl
 by_cases hj0:0<j
 ·have hJ0:(0:Int)<(j:Int):=by omega
  rw [if_pos hj0]
  generalize w.fs j sx=va at *
  generalize (sx:Int)=SX at *
  generalize (j:Int)=J at *
  generalize (x:Int)=XX at *
  have u2:=ZcW c2
  have u3:=ZcW c3
  have n2:∀ y:Int,ZZ (.int y) (.int 2)=some (.int (y%2)):=fun y=>rfl
  have n4:∀ y:Int,ZZ (.int y) (.int 4)=some (.int (y%4)):=fun y=>rfl
  have x12:ixD (.lst (w.sv.map D.int)) (.int (12+J))=some (.int g12):=i12
  have x16:ixD (.lst (w.sv.map D.int)) (.int 16)=some (.int g16):=i16
  have u1:=ZcW c1
  have n5:∀ y:Int,ZZ (.int y) (.int 5)=some (.int (y%5)):=fun y=>rfl
  have nw:∀ y:Int,ZZ (.int y) (.int wj)=some (.int (y%wj)):=fun y=>by show (if 0<wj then some (D.int (y%wj)) else none)=_;rw [if_pos hwp]
  have x4:ixD (.lst (w.sv.map D.int)) (.int (4+J))=some (.int G4):=i4
  have x8:ixD (.lst (w.sv.map D.int)) (.int (8+J))=some (.int g8):=i8
  have xw:ixD (.lst WL) (.int J)=some (.int wj):=iw
  have gt:gtD (.int J) (.int 0)=some (.bl true):=by show some (D.bl (decide (0<J)))=_;rw [decide_eq_true hJ0]
  simp only [Za2,Zh,Z4,asB,Zf,rdP,rdV,rdA,rdO,Qaf,Qad,Qah,QaA,ZP,ZbO,Qap,Qan,Zb,Zk,Zs,a1,gt,x4,n5,hg4,u1,x8,xw,nw,hst,x16,n2,u2,u3,x12,n4,hv1,rvD,Qaz,hz,if_true,Qbs,Qai,Qa3]
 ·have hJ0:¬ (0:Int)<(j:Int):=by omega
  rw [if_neg hj0]
  generalize w.fs j x=va at *
  generalize (j:Int)=J at *
  generalize (x:Int)=XX at *
  have u2:=ZcW c2
  have u3:=ZcW c3
  have n2:∀ y:Int,ZZ (.int y) (.int 2)=some (.int (y%2)):=fun y=>rfl
  have n4:∀ y:Int,ZZ (.int y) (.int 4)=some (.int (y%4)):=fun y=>rfl
  have x12:ixD (.lst (w.sv.map D.int)) (.int (12+J))=some (.int g12):=i12
  have x16:ixD (.lst (w.sv.map D.int)) (.int 16)=some (.int g16):=i16
  have gt:gtD (.int J) (.int 0)=some (.bl false):=by show some (D.bl (decide (0<J)))=_;rw [decide_eq_false hJ0]
  simp only [Za2,Zh,Z4,asB,Zf,rdP,rdV,rdA,rdO,Qaf,Qad,Qah,QaA,ZP,ZbO,Qap,Qan,Zb,Zk,Zs,a1,gt,  x16,n2,u2,u3,x12,n4,hv2,rvD,Qaz,hz,if_true,Qbs,Qai,Qa3]
theorem ZkN (w:Way) (cell:Int) (h:w.Ok cell) (s1 s2 s6 s7:Sl):∀ (n j x:Nat) (acc:List At) (s5 s10:Sl),0<j->j+n<=4->x<47->acc.length+n<100 ->
  ∃ s5' s8' s10',Z7 (Zm 5) Za2 ((Qcm j n).map fun (k:Nat)=>D.int (k:Int)) [.val (.int cell),s1,s2,.val (.lst (w.sv.map D.int)),WD w,s5,s6,s7,.val (.int (x:Int)),.own (acc.map aD),s10] =
   .next [.val (.int cell),s1,s2,.val (.lst (w.sv.map D.int)),WD w,s5',s6,s7,s8',.own ((acc++w.chn j (w.stp j x) n).map aD),s10']
 | 0,j,x,acc,s5,s10,_,_,_,_=>⟨s5,_,s10,by simp [Z7,Way.chn];rfl⟩
 | n+1,j,x,acc,s5,s10,h0,h4,hx,ha=>by
  have hp:=ZkS w cell h s1 s2 s6 s7 s10 j x (by omega) hx acc (by omega)
  rw [if_pos h0] at hp
  obtain ⟨a,b,c,e⟩:=ZkN w cell h s1 s2 s6 s7 n (j+1) (w.stp j x) (acc++[w.fs j (w.stp j x)]) (.val (.int (j:Int))) (.val (.int (cell+(j:Int) * (w.sv.getD 16 0%2) * 1000003))) (by omega) (by omega) (Way.stp_lt h j x) (by simp;omega)
  refine ⟨a,b,c,?_⟩
  rw [QcX,Qai]
  simp only [Z7,Zm,Qap,Qan]
  rw [hp]
  simp only [Way.chn]
  rw [show acc++w.fs j (w.stp j x)::w.chn (j+1) (w.stp (j+1) (w.stp j x)) n=acc++[w.fs j (w.stp j x)]++w.chn (j+1) (w.stp (j+1) (w.stp j x)) n by simp]
  exact e
theorem Zqe (w:Way) (cell:Int) (h:w.Ok cell) (s1:Sl) (p:Nat) (hp0:0<p) (hp4:p<=4) (ls:List (List At)) (hls:ls.length<1000) (k:Nat) (s5 s8 s9 s10:Sl) :
  ∃ s5' s8' s9' s10',Zb4 [.val (.int cell),s1,.val (.int (p:Int)),.val (.lst (w.sv.map D.int)),WD w,s5,.own (ls.map lnD),.val (.int (k:Int)),s8,s9,s10] =
   .next [.val (.int cell),s1,.val (.int (p:Int)),.val (.lst (w.sv.map D.int)),WD w,s5',.own ((ls++[w.chn 0 (w.a0 k) p]).map lnD),.val (.int (k:Int)),s8',s9',s10']:=by
 have hl:=h.len
 have i0:atI (w.sv.map D.int) 0=some (.int (w.sv.getD 0 0)):=Zeg (by omega) (by omega)
 have i4:atI (w.sv.map D.int) 4=some (.int (w.sv.getD 4 0)):=Zeg (by omega) (by omega)
 have hr:=Zcx p (by omega)
 have ha:=w.a0_int k
 have hpl:=ZkS w cell h s1 (.val (.int (p:Int))) (.own (ls.map lnD)) (.val (.int (k:Int))) s10 0 (w.a0 k) (by omega) (w.a0_lt k) [] (by simp)
 rw [if_neg (by omega)] at hpl
 obtain ⟨a,b,c,e⟩:=ZkN w cell h s1 (.val (.int (p:Int))) (.own (ls.map lnD)) (.val (.int (k:Int))) (p-1) 1 (w.a0 k) [w.fs 0 (w.a0 k)] (.val (.int 0)) (.val (.int (cell+((0:Nat):Int) * (w.sv.getD 16 0%2) * 1000003))) (by omega) (by omega) (w.a0_lt k) (by simp;omega)
 have hch:w.chn 0 (w.a0 k) p=[w.fs 0 (w.a0 k)]++w.chn 1 (w.stp 1 (w.a0 k)) (p-1):=by
  rw [show p=(p-1)+1 by omega]
  simp [Way.chn]
 have hz:ls.length<Qaj:=Qay (show ls.length<100000 by omega) (by decide)
 have c1:=ZuW (k:Int) (w.sv.getD 0 0)
 have hfor:Z7 (Zm 5) Za2 ((Qaw p).map fun (k:Nat)=>D.int (k:Int)) [.val (.int cell),s1,.val (.int (p:Int)),.val (.lst (w.sv.map D.int)),WD w,s5,.own (ls.map lnD),.val (.int (k:Int)),.val (.int (w.a0 k:Int)),.own [],s10] =
   .next [.val (.int cell),s1,.val (.int (p:Int)),.val (.lst (w.sv.map D.int)),WD w,a,.own (ls.map lnD),.val (.int (k:Int)),b,.own ((w.chn 0 (w.a0 k) p).map aD),c]:=by
  rw [QcY,show p=(p-1)+1 by omega,QcX,Qai]
  simp only [Z7,Zm,Qap,Qan]
  simp only [Qa3,QcC] at hpl
  rw [show (p-1)+1=p by omega]
  rw [hpl,hch]
  exact e
 refine ⟨a,b,.own ((w.chn 0 (w.a0 k) p).map aD),c,?_⟩
 generalize w.chn 0 (w.a0 k) p=ch at *
 generalize (w.a0 k:Int)=A0 at *
 generalize w.sv.getD 0 0=G0 at *
 generalize hg:1+G0%46=g0 at *
 generalize w.sv.getD 4 0=g4 at *
 generalize hR:((Qaw p).map fun (k:Nat)=>D.int (k:Int))=R at *
 generalize (k:Int)=KK at *
 have a1:∀ a b:Int,Zx (.int a) (.int b)=some (.int (a+b)):=fun _ _=>rfl
 have u1:=ZcW c1
 have n46:∀ y:Int,ZZ (.int y) (.int 46)=some (.int (y%46)):=fun y=>rfl
 have n47:∀ y:Int,ZZ (.int y) (.int 47)=some (.int (y%47)):=fun y=>rfl
 have x0:ixD (.lst (w.sv.map D.int)) (.int 0)=some (.int G0):=i0
 have x4:ixD (.lst (w.sv.map D.int)) (.int 4)=some (.int g4):=i4
 have hsh:Zu (some ([]:List D))=some []:=rfl
 have hv:Zz [Sl.val (.int (p:Int))]=some [.int (p:Int)]:=rfl
 have hv0:Zz []=some []:=rfl
 have ht:Zbq [.lst (ch.map aD)]=some (.tup (ch.map aD)):=rfl
 simp only [Zb4,Zh,Zf,rdP,rdV,rdA,rdO,Qaf,Qad,Qah,QaA,ZP,Zba,ZbO,ZaW,Qap,Qan,Zb,Zk,a1,x0,n46,hg,u1,x4,n47,ha,hv,hv0,hsh,hr,hfor,ZH,pks,pk,ht,Qaz,hz,if_true,Qbs,Qai,Qa3,lnD]
def Zau (y:Int):Int:=if y / 64%4=0 then 1+y%6 else if y / 64%4=1 then 2+y%3 else if y / 64%4=2 then 47 else 3
theorem Zl1 (y:Int):1<=Zau y/\Zau y<=47:=by
 unfold Zau
 split
 ·omega
 ·split
  ·omega
  ·split<;>omega
theorem Zrz (y:Int):atI [D.int (1+y%6),.int (2+y%3),.int 47,.int 3] (y / 64%4)=some (.int (Zau y)):=by
 have h:y / 64%4=0\/y / 64%4=1\/y / 64%4=2\/y / 64%4=3:=by omega
 unfold Zau
 generalize y / 64%4=q at *
 rcases h with rfl | rfl | rfl | rfl<;>exact ZbL rfl
theorem ZfM (s0 s1 s2:Sl) (sv:List Int) (hl:sv.length=24) (j:Nat) (hj:j<20) (ws:List D) (hw:ws.length<100) (s6 s7 s8 s9 s10:Sl) :
  ZaA [s0,s1,s2,.val (.lst (sv.map D.int)),.own ws,.val (.int (j:Int)),s6,s7,s8,s9,s10]=.next [s0,s1,s2,.val (.lst (sv.map D.int)),.own (ws++[.int (Zau (sv.getD j 0))]),.val (.int (j:Int)),s6,s7,s8,s9,s10]:=by
 have x1:ixD (.lst (sv.map D.int)) (.int (j:Int))=some (.int (sv.getD j 0)):=by
  have:=Zeg (xs:=sv) (i:=(j:Int)) (by omega) (by omega)
  rw [Qbz] at this
  exact this
 have hs:=Zrz (sv.getD j 0)
 generalize sv.getD j 0=y at *
 generalize Zau y=wy at *
 generalize (j:Int)=J at *
 have x2:ixD (.lst [D.int (1+y%6),.int (2+y%3),.int 47,.int 3]) (.int (y / 64%4))=some (.int wy):=hs
 have n6:ZZ (.int y) (.int 6)=some (.int (y%6)):=rfl
 have n3:ZZ (.int y) (.int 3)=some (.int (y%3)):=rfl
 have n4:ZZ (.int (y / 64)) (.int 4)=some (.int (y / 64%4)):=rfl
 have d64:ZaF (.int y) (.int 64)=some (.int (y / 64)):=by
  show (if ZaR y 64 then some (D.int (y / 64)) else none)=_
  rw [if_pos (by constructor<;>decide)]
 have a1:∀ a b:Int,Zx (.int a) (.int b)=some (.int (a+b)):=fun _ _=>rfl
 have hz:ws.length<Qaj:=Qay (show ws.length<100000 by omega) (by decide)
 have hsh:Zu (some [D.int (1+y%6),.int (2+y%3),.int 47,.int 3])=some [D.int (1+y%6),.int (2+y%3),.int 47,.int 3]:=ZK _ (by simp)
 simp only [ZaA,Zh,Zf,rdP,rdV,rdA,rdO,Qaf,Qad,Qah,QaA,ZbO,Qap,Qan,Zb,Zk,Zz,ZR,x1,n6,n3,a1,d64,n4,hsh,x2,hz,if_true]
theorem ZiI (w:Way) (cell:Int) (h:w.Ok cell) (s1:Sl) (p:Nat) (hp0:0<p) (hp4:p<=4):∀ (n k:Nat) (ls:List (List At)) (s5 s7 s8 s9 s10:Sl),ls.length+n<1000 ->
  ∃ s5' s7' s8' s9' s10',Z7 (Zm 7) Zb4 ((Qcm k n).map fun (k:Nat)=>D.int (k:Int)) [.val (.int cell),s1,.val (.int (p:Int)),.val (.lst (w.sv.map D.int)),WD w,s5,.own (ls.map lnD),s7,s8,s9,s10] =
   .next [.val (.int cell),s1,.val (.int (p:Int)),.val (.lst (w.sv.map D.int)),WD w,s5',.own ((ls++(Qcm k n).map fun k=>w.chn 0 (w.a0 k) p).map lnD),s7',s8',s9',s10']
 | 0,k,ls,s5,s7,s8,s9,s10,_=>⟨s5,s7,s8,s9,s10,by simp [Z7]⟩
 | n+1,k,ls,s5,s7,s8,s9,s10,hz=>by
  obtain ⟨a,b,c,d,e⟩:=Zqe w cell h s1 p hp0 hp4 ls (by omega) k s5 s8 s9 s10
  obtain ⟨a2,b2,c2,d2,f2,e2⟩:=ZiI w cell h s1 p hp0 hp4 n (k+1) (ls++[w.chn 0 (w.a0 k) p]) a (.val (.int (k:Int))) b c d (by simp;omega)
  refine ⟨a2,b2,c2,d2,f2,?_⟩
  rw [QcX,Qai,Qai]
  simp only [Z7,Zm,Qap,Qan]
  rw [e]
  rw [show ls++w.chn 0 (w.a0 k) p::(Qcm (k+1) n).map (fun k=>w.chn 0 (w.a0 k) p)=ls++[w.chn 0 (w.a0 k) p]++(Qcm (k+1) n).map (fun k=>w.chn 0 (w.a0 k) p) by simp]
  exact e2
theorem ZnW (cell:Int) (many p:Nat) (hm:many<500) (hp0:0<p) (hp4:p<=4):∃ w:Way,w.Ok cell/\ZbY [.val (.int cell),.val (.int (many:Int)),.val (.int (p:Int))]=some (.own (((Qaw many).map fun k=>w.chn 0 (w.a0 k) p).map lnD)):=by
 obtain ⟨sv,hs,hl,hps⟩:=Zgq cell (p:Int)
 have hval:=fun j:Nat=>ZpU (sv.getD (12+j) 0%4) (cell+(j:Int) * (sv.getD 16 0%2) * 1000003)
 let w:Way:=⟨sv,fun j=>if j=0 then 47 else Zau (sv.getD j 0),fun j=>(hval j).choose⟩
 have hw:w.Ok cell:=⟨hl,hps,fun j=>by show 1<=(if j=0 then (47:Int) else Zau (sv.getD j 0));split;decide;exact (Zl1 _).1,fun j=>by show (if j=0 then (47:Int) else Zau (sv.getD j 0))<=47;split;decide;exact (Zl1 _).2,fun j=>(hval j).choose_spec.1,fun j k hk=>(hval j).choose_spec.2 k hk⟩
 have hsv:w.sv=sv:=rfl
 have hWD:WD w=.own [.int 47,.int (Zau (sv.getD 1 0)),.int (Zau (sv.getD 2 0)),.int (Zau (sv.getD 3 0))]:=rfl
 obtain ⟨a,b,c,d,e,e1⟩:=ZiI w cell hw (.val (.int (many:Int))) p hp0 hp4 many 0 [] (.val (.int 3)) .no .no .no .no (by simp;omega)
 refine ⟨w,hw,?_⟩
 have hr:=Zcx many (by omega)
 have hr2:Ziu [.int 1,.int 4]=some [.int 1,.int 2,.int 3]:=by
  rw [Zpo 1 4 (by omega) (by omega) (by omega) (by omega)];rfl
 rw [<- QcY,QcC,hsv,hWD] at e1
 generalize ((Qaw many).map fun k=>w.chn 0 (w.a0 k) p)=LS at *
 have t1:ZaA [.val (.int cell),.val (.int (many:Int)),.val (.int (p:Int)),.val (.lst (sv.map D.int)),.own [.int 47],.val (.int 1),.no,.no,.no,.no,.no]=.next [.val (.int cell),.val (.int (many:Int)),.val (.int (p:Int)),.val (.lst (sv.map D.int)),.own [.int 47,.int (Zau (sv.getD 1 0))],.val (.int 1),.no,.no,.no,.no,.no]:=ZfM (.val (.int cell)) (.val (.int (many:Int))) (.val (.int (p:Int))) sv hl 1 (by omega) [.int 47] (by simp) .no .no .no .no .no
 have t2:ZaA [.val (.int cell),.val (.int (many:Int)),.val (.int (p:Int)),.val (.lst (sv.map D.int)),.own [.int 47,.int (Zau (sv.getD 1 0))],.val (.int 2),.no,.no,.no,.no,.no]=.next [.val (.int cell),.val (.int (many:Int)),.val (.int (p:Int)),.val (.lst (sv.map D.int)),.own [.int 47,.int (Zau (sv.getD 1 0)),.int (Zau (sv.getD 2 0))],.val (.int 2),.no,.no,.no,.no,.no]:=ZfM (.val (.int cell)) (.val (.int (many:Int))) (.val (.int (p:Int))) sv hl 2 (by omega) [.int 47,.int (Zau (sv.getD 1 0))] (by simp) .no .no .no .no .no
 have t3:ZaA [.val (.int cell),.val (.int (many:Int)),.val (.int (p:Int)),.val (.lst (sv.map D.int)),.own [.int 47,.int (Zau (sv.getD 1 0)),.int (Zau (sv.getD 2 0))],.val (.int 3),.no,.no,.no,.no,.no]=.next [.val (.int cell),.val (.int (many:Int)),.val (.int (p:Int)),.val (.lst (sv.map D.int)),.own [.int 47,.int (Zau (sv.getD 1 0)),.int (Zau (sv.getD 2 0)),.int (Zau (sv.getD 3 0))],.val (.int 3),.no,.no,.no,.no,.no]:=ZfM (.val (.int cell)) (.val (.int (many:Int))) (.val (.int (p:Int))) sv hl 3 (by omega) [.int 47,.int (Zau (sv.getD 1 0)),.int (Zau (sv.getD 2 0))] (by simp) .no .no .no .no .no
 have hfor:Z7 (Zm 5) ZaA [.int 1,.int 2,.int 3] [.val (.int cell),.val (.int (many:Int)),.val (.int (p:Int)),.val (.lst (sv.map D.int)),.own [.int 47],.no,.no,.no,.no,.no,.no] =
   .next [.val (.int cell),.val (.int (many:Int)),.val (.int (p:Int)),.val (.lst (sv.map D.int)),.own [.int 47,.int (Zau (sv.getD 1 0)),.int (Zau (sv.getD 2 0)),.int (Zau (sv.getD 3 0))],.val (.int 3),.no,.no,.no,.no,.no]:=by
  simp only [Z7,Zm,Qap,Qan]
  simp only [t1,Qap,Qan,t2,t3]
 have hsh:Zu (some [D.int 47])=some [D.int 47]:=ZK _ (by decide)
 have hsh0:Zu (some ([]:List D))=some []:=rfl
 have hv:Zz [Sl.val (.int (many:Int))]=some [.int (many:Int)]:=rfl
 have hfn:ZbY [.val (.int cell),.val (.int (many:Int)),.val (.int (p:Int))]=match Zdb [.val (.int cell),.val (.int (many:Int)),.val (.int (p:Int)),.no,.no,.no,.no,.no,.no,.no,.no] with
  | .ret r=>some r
  | .next _=>some (.val .non)
  | _=>none:=rfl
 rw [hfn]
 simp only [Zdb,ZeY,Zfj,Ze0,Zfg,Zfh,Ze8,Ze3,ZeX,Zfi,Ze5,Zfa,Zh,rdP,rdV,rdA,rdO,Qaf,Qad,Qah,QaA,ZP,Zba,ZaW,Qap,Qan,Zb,Zk,Zs,rvD,hs,Zz,hsh,hsh0,hr2,hfor,hr,Qa3] at e1 ⊢
 rw [e1]
 rfl
theorem ZtR:∀ m∈Qaw 46,∃ n∈Qaw 47,((m+1) * n)%47=1:=by decide +kernel
theorem ZrL {k j m c:Int} (hm0:0<=m) (hm:m<46) (hk:0<=k) (hk2:k<47) (hj:0<=j) (hj2:j<47) (e:(k * (1+m)+c)%47=(j * (1+m)+c)%47):k=j:=by
 obtain ⟨n,hn,he⟩:=ZtR m.toNat (List.mem_range.mpr (by omega))
 have he':((1+m) * (n:Int))%47=1:=by
  have:(((m.toNat+1) * n:Nat):Int)%47=1:=by exact_mod_cast congrArg (fun x:Nat=>(x:Int)) he
  rw [Int.natCast_mul,Int.natCast_add] at this
  have hmm:((m.toNat:Nat):Int)=m:=by omega
  rw [hmm] at this
  rw [Int.add_comm 1 m]
  exact this
 have h1:47 ∣ (k-j) * (1+m):=by
  have:(k * (1+m)+c)-(j * (1+m)+c)=(k-j) * (1+m):=by rw [Int.sub_mul];omega
  rw [<- this]
  exact Int.dvd_of_emod_eq_zero (by omega)
 have h2:47 ∣ (k-j) * ((1+m) * (n:Int)):=by
  rw [<- Int.mul_assoc]
  exact Int.dvd_mul_of_dvd_left h1
 obtain ⟨q,hq⟩:∃ q,(1+m) * (n:Int)=47 * q+1:=⟨(1+m) * (n:Int) / 47,by omega⟩
 rw [hq,Int.mul_add,Int.mul_one] at h2
 have h3:(47:Int) ∣ (k-j) * (47 * q):=⟨(k-j) * q,by rw [<- Int.mul_assoc,<- Int.mul_assoc,Int.mul_comm (k-j) 47]⟩
 have h4:(47:Int) ∣ k-j:=(Int.dvd_add_right h3).mp h2
 omega
theorem Way.a0_inj (w:Way) (hpos:0<=w.sv.getD 0 0) {j k:Nat} (hj:j<47) (hk:k<47) (e:w.a0 j=w.a0 k):j=k:=by
 have e1:=w.a0_int j
 have e2:=w.a0_int k
 rw [e] at e1
 have:=ZrL (k:=(j:Int)) (j:=(k:Int)) (m:=w.sv.getD 0 0%46) (c:=w.sv.getD 4 0) (by omega) (by omega) (by omega) (by omega) (by omega) (by omega) (e1.trans e2.symm)
 omega
structure TO {α:Type} (lt:α->α->Bool):Prop where
 asym:∀ a b,lt a b=true->lt b a=false
 neg:∀ a b c,lt a c=true->lt a b=true\/lt b c=true
 anti:∀ a b,lt a b=false->lt b a=false->a=b
theorem TO.trans {α:Type} {lt:α->α->Bool} (T:TO lt) {a b c:α} (h1:lt a b=true) (h2:lt b c=true):lt a c=true:=by
 rcases T.neg a c b h1 with h | h
 ·exact h
 ·rw [T.asym b c h2] at h;cases h
def Zfz {α:Type} (lt:α->α->Bool) (x:α):List α->List α
 | []=>[x]
 | y::r=>if lt x y then x::y::r else y::Zfz lt x r
def ZaT {α:Type} (lt:α->α->Bool):List α->List α
 | []=>[]
 | x::r=>Zfz lt x (ZaT lt r)
theorem ZgC {α:Type} (lt:α->α->Bool) (x:α):∀ l,(Zfz lt x l).Perm (x::l)
 | []=>.refl _
 | y::r=>by
  unfold Zfz
  split
  ·exact .refl _
  ·exact ((ZgC lt x r).cons y).trans (.swap x y r)
theorem Zag {α:Type} (lt:α->α->Bool):∀ l,(ZaT lt l).Perm l
 | []=>.refl _
 | x::r=>(ZgC lt x _).trans ((Zag lt r).cons x)
theorem Zi5 {α:Type} {lt:α->α->Bool} (T:TO lt) (x:α):∀ l:List α,l.Pairwise (fun a b=>lt b a=false)->(Zfz lt x l).Pairwise fun a b=>lt b a=false
 | [],_=>by simp [Zfz]
 | y::r,hp=>by
  obtain ⟨h1,h2⟩:=List.pairwise_cons.mp hp
  unfold Zfz
  split
  ·next hl =>
   refine List.pairwise_cons.mpr ⟨fun z hz=>?_,hp⟩
   rcases Qbk.mp hz with e | hz
   ·subst e;exact T.asym x z hl
   ·cases hc:lt z x with
    | false=>rfl
    | true =>
     rcases T.neg z y x hc with q | q
     ·rw [h1 z hz] at q;cases q
     ·rw [T.asym x y hl] at q;cases q
  ·next hl =>
   rw [Qcr] at hl
   refine List.pairwise_cons.mpr ⟨fun z hz=>?_,Zi5 T x r h2⟩
   rcases Qbk.mp ((ZgC lt x r).subset hz) with e | hz
   ·subst e;exact hl
   ·exact h1 z hz
theorem ZgG {α:Type} {lt:α->α->Bool} (T:TO lt):∀ l:List α,(ZaT lt l).Pairwise fun a b=>lt b a=false
 | []=>.nil
 | x::r=>Zi5 T x _ (ZgG T r)
theorem ZnO {α:Type} {lt:α->α->Bool} (T:TO lt) {xs ys:List α} (hp:ys.Perm xs) (hs:ys.Pairwise fun a b=>lt b a=false):ys=ZaT lt xs :=
 Qc8 (le:=fun a b=>lt b a=false) (fun a b _ _ h1 h2=>T.anti a b h2 h1) hs (ZgG T xs) (hp.trans (Zag _ xs).symm)
theorem Zkw {α:Type} (f:α->D) (lt:α->α->Bool) (lk:D->D->Bool) (x:α):∀ l:List α,(∀ y∈l,lk (f x) (f y)=lt x y)->Zfv lk (f x) (l.map f)=(Zfz lt x l).map f
 | [],_=>rfl
 | y::r,h=>by
  have h1:=h y Qam
  have ih:=Zkw f lt lk x r fun z hz=>h z (Qag _ hz)
  simp only [Qai,Zfv,Zfz,h1,ih]
  split<;>rfl
theorem Zhv {α:Type} (f:α->D) (lt:α->α->Bool) (lk:D->D->Bool):∀ l:List α,(∀ x∈l,∀ y∈l,lk (f x) (f y)=lt x y)->ZcT lk (l.map f)=(ZaT lt l).map f
 | [],_=>rfl
 | x::r,h=>by
  have ih:=Zhv f lt lk r fun y hy z hz=>h y (Qag _ hy) z (Qag _ hz)
  simp only [Qai,ZcT,ZaT,ih]
  exact Zkw f lt lk x _ fun y hy=>h x Qam y (Qag _ ((Zag lt r).subset hy))
theorem ZpJ {α:Type} {F:List Sl->Option Rv} (f:α->D) {lt:α->α->Bool} (T:TO lt) (b:Bool) (xs:List α) (few:xs.length<64) (ky:α->D) (tells:∀ a∈xs,F [.val (f a)]=some (.val (ky a))) (mode:∀ a∈xs,KMode b (ky a)) (cmp:∀ a∈xs,∀ c∈xs,ltN 6 (ky a) (ky c)=some (lt a c)):Zek F (xs.map f)=some ((ZaT lt xs).map f):=by
 have hk:∀ a∈xs,Za9 F (f a)=ky a:=fun a ha=>by unfold Za9;rw [tells a ha];rfl
 have hl:∀ a∈xs,∀ c∈xs,ltF F (f a) (f c)=lt a c:=fun a ha c hc=>Zhp (by rw [hk a ha,hk c hc];exact cmp a ha c hc)
 have ok:SortOk F (xs.map f):={
  few:=by simpa using few
  tells:=fun x hx=>by obtain ⟨a,ha,rfl⟩:=List.mem_map.mp hx;exact ⟨_,tells a ha⟩
  mode:=⟨b,fun x hx=>by obtain ⟨a,ha,rfl⟩:=List.mem_map.mp hx;rw [hk a ha];exact mode a ha⟩
  cmp:=fun x hx y hy=>by
   obtain ⟨a,ha,rfl⟩:=List.mem_map.mp hx
   obtain ⟨c,hc,rfl⟩:=List.mem_map.mp hy
   rw [hk a ha,hk c hc];exact ⟨_,cmp a ha c hc⟩
  asym:=fun x hx y hy h=>by
   obtain ⟨a,ha,rfl⟩:=List.mem_map.mp hx
   obtain ⟨c,hc,rfl⟩:=List.mem_map.mp hy
   rw [hl a ha c hc] at h;rw [hl c hc a ha];exact T.asym a c h
  neg:=fun x hx y hy z hz h=>by
   obtain ⟨a,ha,rfl⟩:=List.mem_map.mp hx
   obtain ⟨c,hc,rfl⟩:=List.mem_map.mp hy
   obtain ⟨e,he,rfl⟩:=List.mem_map.mp hz
   rw [hl a ha e he] at h;rw [hl a ha c hc,hl c hc e he];exact T.neg a c e h
  anti:=fun x hx y hy h1 h2=>by
   obtain ⟨a,ha,rfl⟩:=List.mem_map.mp hx
   obtain ⟨c,hc,rfl⟩:=List.mem_map.mp hy
   rw [hl a ha c hc] at h1;rw [hl c hc a ha] at h2;rw [T.anti a c h1 h2] }
 rw [Zla ok,Zhv f lt _ xs hl]
def ded {α:Type} [DecidableEq α]:Option α->List α->List α
 | _,[]=>[]
 | p,a::r=>if p=some a then ded p r else a::ded (some a) r
theorem ZiZ {α:Type} [DecidableEq α]:∀ (l:List α) (p:Option α),l.Nodup->(∀ a,p=some a->a∉l)->ded p l=l
 | [],_,_,_=>rfl
 | a::r,p,h,hp=>by
  obtain ⟨h1,h2⟩:=QbW.mp h
  unfold ded
  rw [if_neg (fun e=>hp a e Qam),ZiZ r (some a) h2 fun b hb=>by cases hb;exact h1]
def ltA:At->At->Bool
 | .non,.non=>false
 | .non,_=>true
 | .int i,.int j=>decide (i<j)
 | .int _,.str _=>true
 | .str x,.str y=>decide (x.cps.toList<y.cps.toList)
 | _,_=>false
theorem ZuB {x y:Str} (h:x.cps.toList=y.cps.toList):x=y:=by
 obtain ⟨⟨a⟩⟩:=x
 obtain ⟨⟨b⟩⟩:=y
 simp at h
 rw [h]
theorem TO_A:TO ltA:={
 asym:=fun a b h=>by
  cases a<;>cases b<;>simp only [ltA,decide_eq_true_eq,decide_eq_false_iff_not,QaS] at h ⊢
  ·omega
  ·exact List.lt_asymm h
 neg:=fun a b c h=>by
  cases a<;>cases c<;>simp only [ltA,decide_eq_true_eq,QaS] at h<;>cases b<;>simp only [ltA,decide_eq_true_eq,QaS,true_or,or_true,false_or,or_false]
  ·omega
  ·next x y z =>
   by_cases h1:x.cps.toList<z.cps.toList
   ·exact .inl h1
   ·exact .inr (List.lt_of_le_of_lt (List.not_lt.mp h1) h)
 anti:=fun a b h1 h2=>by
  cases a<;>cases b<;>simp only [ltA,decide_eq_false_iff_not,Bool.true_eq_false] at h1 h2
  ·rfl
  ·rw [At.int.injEq];omega
  ·rw [At.str.injEq];exact ZuB (List.le_antisymm (List.not_lt.mp h2) (List.not_lt.mp h1)) }
def ltL:List At->List At->Bool
 | [],[]=>false
 | [],_::_=>true
 | _::_,[]=>false
 | a::r,b::s=>if a=b then ltL r s else ltA a b
theorem Zj7:∀ a b,ltL a b=true->ltL b a=false
 | [],[],_=>rfl
 | [],_::_,_=>rfl
 | _::_,[],h=>by cases h
 | a::r,b::s,h=>by
  unfold ltL at h ⊢
  by_cases e:a=b
  ·subst e;simp only [if_true] at h ⊢;exact Zj7 r s h
  ·rw [if_neg e] at h;rw [if_neg (fun z=>e z.symm)];exact TO_A.asym a b h
theorem Zma:∀ a b c,ltL a c=true->ltL a b=true\/ltL b c=true
 | [],[],c,h=>.inr h
 | [],_::_,_,_=>.inl rfl
 | _::_,_,[],h=>by cases h
 | _::_,[],_::_,_=>.inr rfl
 | a::r,b::s,c::t,h=>by
  unfold ltL at h ⊢
  by_cases e1:a=b
  ·subst e1
   by_cases e2:a=c
   ·simp only [e2,if_true] at h ⊢;exact Zma r s t h
   ·rw [if_neg e2] at h;right;rw [if_neg e2];exact h
  ·rw [if_neg e1]
   by_cases e2:b=c
   ·subst e2;rw [if_neg e1] at h;exact .inl h
   ·rw [if_neg e2]
    by_cases e3:a=c
    ·subst e3
     cases hc:ltA a b with
     | true=>exact .inl rfl
     | false =>
      cases hd:ltA b a with
      | true=>exact .inr rfl
      | false=>exact absurd (TO_A.anti a b hc hd) e1
    ·rw [if_neg e3] at h;exact TO_A.neg a b c h
theorem Zkr:∀ a b,ltL a b=false->ltL b a=false->a=b
 | [],[],_,_=>rfl
 | [],_::_,h,_=>by cases h
 | _::_,[],_,h=>by cases h
 | a::r,b::s,h1,h2=>by
  unfold ltL at h1 h2
  by_cases e:a=b
  ·subst e;simp only [if_true] at h1 h2;rw [Zkr r s h1 h2]
  ·rw [if_neg e] at h1;rw [if_neg (fun z=>e z.symm)] at h2;exact absurd (TO_A.anti a b h1 h2) e
theorem Zm9:TO ltL:=⟨Zj7,Zma,Zkr⟩
def rk2:At->D
 | .non=>.tup [.int 0,.int 0]
 | .int i=>.tup [.int 1,.int i]
 | .str x=>.tup [.int 2,.str x]
def rk3:At->D
 | .non=>.tup [.int 0,.int 0,.str ""]
 | .int i=>.tup [.int 1,.int i,.str ""]
 | .str x=>.tup [.int 2,.int 0,.str x]
theorem Zr1 (n:Nat) (a b:At):ltN (n+2) (rk2 a) (rk2 b)=some (ltA a b):=by
 cases a<;>cases b<;>simp [rk2,ltA]
 ·intro e;omega
 ·intro e;subst e;simp
theorem Ztd (a b:At):eqD (rk2 a) (rk2 b)=decide (a=b):=by
 cases a<;>cases b<;>simp [rk2]
theorem ZoM (n:Nat) (a:At):okD (n+1) (rk2 a)=true:=by cases a<;>cases n<;>rfl
theorem Zl0 (n:Nat):∀ l m:List At,Zck (ltN (n+2)) (l.map rk2) (m.map rk2)=some (ltL l m)
 | [],[]=>rfl
 | [],_::_=>rfl
 | _::_,[]=>rfl
 | a::r,b::s=>by
  have ih:=Zl0 n r s
  have h1:=ZoM 11 a
  have h2:=ZoM 11 b
  have h3:=Ztd a b
  have h4:=Zr1 n a b
  simp only [Qai,Zck,Zfd,h1,h2,h3,h4,ih,ltL,Qci,if_true,decide_eq_true_eq]
  split<;>rfl
theorem Zta (n:Nat) (a b:At):ltN (n+2) (rk3 a) (rk3 b)=some (ltA a b):=by
 cases a<;>cases b<;>simp [rk3,ltA]
 ·intro e;omega
 ·intro e;subst e;simp
def mn (m y:Int):Int:=if y<m then y else m
def mx (m y:Int):Int:=if y > m then y else m
theorem ZqD (m y:Int):mn m y=min m y:=by unfold mn;split<;>omega
theorem Zqy (m y:Int):mx m y=max m y:=by unfold mx;split<;>omega
def cel (x:Int) (xs:List Int):D:=.tup [.int (xs.length+1:Nat),.int ((x::xs).sum),.int (xs.foldl mn x),.int (xs.foldl mx x)]
theorem four:(4:Nat)<=Qaj:=by decide
theorem ZlV (a:Int):∀ (ys:List Int) (b:Int),ys.foldl mn (mn a b)=mn a (ys.foldl mn b)
 | [],b=>rfl
 | y::ys,b=>by
  have e:mn (mn a b) y=mn a (mn b y):=by simp only [ZqD];omega
  simp only [QbV,e,ZlV a ys]
theorem Zmj (a:Int):∀ (ys:List Int) (b:Int),ys.foldl mx (mx a b)=mx a (ys.foldl mx b)
 | [],b=>rfl
 | y::ys,b=>by
  have e:mx (mx a b) y=mx a (mx b y):=by simp only [Zqy];omega
  simp only [QbV,e,Zmj a ys]
theorem ZlZ:∀ (a b:List Int),(a++b).sum=a.sum+b.sum
 | [],b=>by simp
 | x::a,b=>by simp [ZlZ a b,Int.add_assoc]
theorem Zol (x y:Int) (xs ys:List Int):Zd1 [.val (cel x xs),.val (cel y ys)]=some (.val (cel x (xs++y::ys))):=by
 have e1:(xs++y::ys).foldl mn x=mn (xs.foldl mn x) (ys.foldl mn y):=by rw [List.foldl_append,QbV,ZlV]
 have e2:(xs++y::ys).foldl mx x=mx (xs.foldl mx x) (ys.foldl mx y):=by rw [List.foldl_append,QbV,Zmj]
 simp [Zd1,fnP,Zhk,cel,atI,ixN,four,e1,e2,ZlZ]
 refine ⟨by omega,by omega,rfl,rfl⟩
def mkD (acc:KDs) (ps:List (At×D)):KDs:=ps.foldl (fun kvs p=>Zak kvs (.at p.1) p.2) acc
theorem ZgT (a:At):okK (aD a)=some (.at a):=Zki (.at a)
theorem Zme {kvs:KDs} {a:At} {v:D} (h:∀ p∈kvs,Zdw p.1=true):∀ p∈Zak kvs (.at a) v,Zdw p.1=true:=fun p hp=>by
 rcases Zpy hp with hp | rfl
 ·exact h p hp
 ·rfl
theorem ZhF:∀ (ps:List (At×D)) (acc:KDs),(∀ p∈acc,Zdw p.1=true)->acc.length+ps.length<=100000->ZcG acc (ps.map fun p=>.tup [aD p.1,p.2])=some (mkD acc ps)
 | [],acc,_,_=>rfl
 | p::ps,acc,h,hz=>by
  simp only [QaK] at hz
  have hl:acc.length<Qaj:=Qay (show acc.length<100000 by omega) (by decide)
  have hp:=ZjI acc (.at p.1) p.2
  have ih:=ZhF ps (Zak acc (.at p.1) p.2) (Zme h) (by omega)
  simp only [Qai,ZcG,ZgT,ZgR p.1 h,hl,decide_true,Qci,if_true,ih]
  rfl
theorem ZhJ:∀ (ps:List (At×D)) (acc:KDs),(∀ p∈acc,Zdw p.1=true)->∀ p∈mkD acc ps,Zdw p.1=true
 | [],_,h=>h
 | p::ps,acc,h=>ZhJ ps _ (Zme h)
theorem Zrs:∀ (ps:List (At×D)) (acc:KDs),(mkD acc ps).length<=acc.length+ps.length
 | [],acc=>Qau _
 | p::ps,acc=>by
  have ih:=Zrs ps (Zak acc (.at p.1) p.2)
  have hp:=ZjI acc (.at p.1) p.2
  simp only [mkD,QbV,QaK] at ih ⊢
  omega
theorem ZkY {a:At}:∀ (ps:List (At×D)) (acc:KDs),a∉ps.map (·.1)->ZL (mkD acc ps) (.at a)=ZL acc (.at a)
 | [],_,_=>rfl
 | p::ps,acc,h=>by
  rw [Qai,Qbk,not_or] at h
  have ih:=ZkY ps (Zak acc (.at p.1) p.2) h.2
  show ZL (mkD (Zak acc (.at p.1) p.2) ps) _=_
  rw [ih,Zfx,if_neg (fun e=>h.1 (KT.at.inj e).symm)]
theorem ZlS {a:At} {v:D}:∀ (ps:List (At×D)) (acc:KDs),(ps.map (·.1)).Nodup->(a,v)∈ps->ZL (mkD acc ps) (.at a)=some v
 | p::ps,acc,hn,h=>by
  rw [Qai,QbW] at hn
  show ZL (mkD (Zak acc (.at p.1) p.2) ps) _=_
  rcases Qbk.mp h with rfl | h
  ·rw [ZkY ps _ hn.1,Zfx,if_pos rfl]
  ·exact ZlS ps _ hn.2 h
theorem Zof (a:At):∀ (ps:List (At×D)) (acc:KDs),(ZL (mkD acc ps) (.at a)).isSome=((ZL acc (.at a)).isSome||decide (a∈ps.map (·.1)))
 | [],acc=>by simp [mkD]
 | p::ps,acc=>by
  have ih:=Zof a ps (Zak acc (.at p.1) p.2)
  show (ZL (mkD (Zak acc (.at p.1) p.2) ps) _).isSome=_
  rw [ih,Zfx]
  by_cases e:p.1=a
  ·subst e;simp
  ·have e':¬ KT.at p.1=KT.at a:=fun z=>e (KT.at.inj z)
   have e2:¬ a=p.1:=fun z=>e z.symm
   rw [if_neg e',Bool.eq_iff_iff]
   simp [e2]
theorem ZuI {ps:List (At×D)} {a:At} {v:D} (hn:(ps.map (·.1)).Nodup) (h:(a,v)∈ps):ZbD (.lst (ZJ (mkD [] ps)) true) (aD a)=some v:=by
 have hh:=ZgR (kvs:=mkD [] ps) a (ZhJ ps [] fun _ h=>nomatch h)
 rw [ZfG,ZgT]
 simp only [Qah,hh,if_true,ZlS ps [] hn h]
theorem Zrp (neg:Bool) (ps:List (At×D)) (a:At):ZcM neg (aD a) (.lst (ZJ (mkD [] ps)) true)=some (.bl (neg != decide (a∈ps.map (·.1)))):=by
 have hh:=ZgR (kvs:=mkD [] ps) a (ZhJ ps [] fun _ h=>nomatch h)
 have hi:=Zof a ps []
 rw [ZiH,ZgT]
 simp only [Qah,hh,if_true,hi]
 simp [ZL]
theorem Zp3 {α:Type} (l:List α):Zgg [.lst ((l.map fun _=>true).map D.bl)]=some (.bl true):=by
 simp only [Zgg,Ze1,QbH]
 congr 2
 rw [List.all_map]
 simp
theorem Zav {np n:Nat} {g:VE->Res} {ss:List Sl} {r:Rv} (h:ss.length=np) (e:g (ss++QaT (n-np) .no)=.ret r):fnP np n g ss=some r:=by
 unfold fnP
 rw [if_pos h,e]
theorem Zld {α:Type} (x:α) (xs:List α):atI (x::xs) 0=some x:=by
 have:(0:Int)<(xs.length:Int)+1:=by omega
 simp [atI,ixN,this]
theorem Zle {α:Type} (xs:List α) (x:α):atI (xs++[x]) (-1)=some x:=by
 have h1:(-1+((xs.length:Int)+1)).toNat=xs.length:=by omega
 have h2 : -((xs.length:Int)+1) <= -1:=by omega
 simp [atI,ixN,h1,h2]
theorem Zjg (a:At):ZcJ [.val (aD a)]=some (.val (rk2 a)):=by
 have h2:(2:Nat)<=Qaj:=by decide
 cases a<;>simp [ZcJ,fnP,Zd4,ZfS,Zfp,aD,rk2,h2]
theorem Zly (l:List At) (h:l.length<=1000):ZcU [.val (lnD l)]=some (.val (.tup (l.map rk2))):=by
 have hz:l.length<=Qaj:=QaP h (by decide)
 have hc:=ZaL (b:=Zm 0) (e:=ZdU) (ρ:=[.no]) aD rk2 l fun a _=>⟨[.val (aD a)],rfl,by
  have:=Zjg a
  simp only [ZdU,Zs,Zb,rdA,Qad,Qah,this,QaA,rvD]⟩
 simp [ZcU,fnP,ZfH,lnD,hz,ZT,hc,-Qbw]
theorem ZcP (s0:Sl):∀ (ls acc:List (List At)) (s2:Sl),acc.length+ls.length<100000->∃ s2',Z7 (Zm 2) ZaK (ls.map lnD) [s0,.own (acc.map lnD),s2]=.next [s0,.own ((acc++ded acc.getLast? ls).map lnD),s2']
 | [],acc,s2,_=>⟨s2,by simp [Z7,ded]⟩
 | l::ls,acc,s2,hz=>by
  simp only [QaK] at hz
  have hzz:acc.length<Qaj:=Qay (show acc.length<100000 by omega) (by decide)
  have hn:ZjE (some (.int 1))=some (.int (-1)):=rfl
  simp only [Qai,Z7,Zm,Qap,Qan]
  rcases List.eq_nil_or_concat acc with rfl | ⟨pre,x,rfl⟩
  ·obtain ⟨s2',e⟩:=ZcP s0 ls [l] (.val (lnD l)) (by simp;omega)
   refine ⟨s2',?_⟩
   have hb:ZaK [s0,.own ([].map lnD),.val (lnD l)]=.next [s0,.own ([l].map lnD),.val (lnD l)]:=by
    have h0:(0:Nat)<Qaj:=by decide
    simp [ZaK,h0]
   have hd:ded ([]:List (List At)).getLast? (l::ls)=l::ded (some l) ls:=rfl
   rw [hb,hd]
   exact e
  ·rw [List.concat_eq_append] at hz hzz ⊢
   have hix:ixD (.lst ((pre++[x]).map lnD)) (.int (-1))=some (lnD x):=by
    show atI ((pre++[x]).map lnD) (-1)=_
    rw [Qbs];exact Zle _ _
   have htr:ZaX (some (.lst ((pre++[x]).map lnD)))=some true:=by simp
   have hne:=Zs3 x l
   have hlast:(pre++[x]).getLast?=some x:=by simp
   by_cases hx:x=l
   ·subst hx
    obtain ⟨s2',e⟩:=ZcP s0 ls (pre++[x]) (.val (lnD x)) (by omega)
    refine ⟨s2',?_⟩
    have hb:ZaK [s0,.own ((pre++[x]).map lnD),.val (lnD x)]=.next [s0,.own ((pre++[x]).map lnD),.val (lnD x)]:=by
     simp only [ZaK,Zh,Z4,orB,Zbu,asB,Zf,rdP,rdV,rdO,Qaf,Qad,Qah,QaA,htr,hn,hix,hne,decide_true,Qcy]
    rw [hb,hlast,ded,if_pos rfl,<- hlast]
    exact e
   ·obtain ⟨s2',e⟩:=ZcP s0 ls (pre++[x]++[l]) (.val (lnD l)) (by simp at hz ⊢;omega)
    refine ⟨s2',?_⟩
    have hl:(pre++[x]++[l]).getLast?=some l:=by simp
    have hb:ZaK [s0,.own ((pre++[x]).map lnD),.val (lnD l)]=.next [s0,.own ((pre++[x]++[l]).map lnD),.val (lnD l)]:=by
     rw [show ((pre++[x]++[l]).map lnD)=(pre++[x]).map lnD++[lnD l] by simp]
     simp only [ZaK,Zh,Z4,orB,Zbu,asB,Zf,rdP,rdV,rdO,Qaf,Qad,Qah,QaA,htr,hn,hix,hne,hx,decide_false,Bool.not_false,Qcy,ZbO,Qaz,hzz,if_true,Qap,Qan]
    rw [hb,hlast,ded,if_neg (by simpa using hx)]
    rw [hl] at e
    rw [show pre++[x]++l::ded (some l) ls=pre++[x]++[l]++ded (some l) ls by simp]
    exact e
theorem Zlm (s:Sl) (ls:List (List At)) (hs:s=.val (.lst (ls.map lnD))\/s=.lent (ls.map lnD)) (hl:ls.length<64) (hn:∀ l∈ls,l≠[]/\l.length<=1000):Zfq [s]=some (.own ((ded none (ZaT ltL ls)).map lnD)):=by
 have hs':=ZpJ (F:=ZcU) lnD Zm9 false ls hl (fun l=>.tup (l.map rk2)) (fun l h=>Zly l (hn l h).2) (fun l h=>by
  cases l with
  | nil=>exact absurd rfl (hn [] h).1
  | cons a r=>cases a<;>exact ⟨_,_,rfl⟩) (fun l _ m _=>Zl0 3 l m)
 have hp:=(Zag ltL ls).length_eq
 obtain ⟨s2',e⟩:=ZcP s (ZaT ltL ls) [] .no (by rw [hp];simp;omega)
 have hz:(ZaT ltL ls).length<=Qaj:=by rw [hp];exact QaP (show ls.length<=1000 by omega) (by decide)
 simp only [Qa3,QcC,List.getLast?_nil] at e
 refine Zav rfl ?_
 show ZdJ [s,.no,.no]=_
 have hsh:Zu (some ([]:List D))=some []:=rfl
 rcases hs with rfl | rfl<;>simp only [ZdJ,Zh,Zba,ZaW,Zh2,ZR,ZX,rdP,rdO,Zbm,Zz,hsh,hs',e,Qaf,Qad,Qah,QaA,Qap,Qan]
theorem ZhR (l:List At) (j:Nat) (h:l.length<=1000):ZbT [.val (lnD l),.val (.int (j:Int))]=some (.val (aD (l.getD j .non))):=by
 have hz:l.length<=Qaj:=QaP h (by decide)
 by_cases hj:j<l.length
 ·have hj':(j:Int)<(l.length:Int):=by omega
  have:ixD (lnD l) (.int (j:Int))=some (aD (l.getD j .non)):=by
   show atI (l.map aD) (j:Int)=_
   exact ZbL (by simp [QaF hj,Qbh])
  have hlen:Za7 [lnD l]=some (.int (l.length:Int)):=by simp [lnD]
  simp [ZbT,fnP,ZeB,-ixD,-Za7,hlen,this,hj']
 ·have hj':¬ (j:Int)<(l.length:Int):=by omega
  have hlen:Za7 [lnD l]=some (.int (l.length:Int)):=by simp [lnD]
  have e:l.getD j .non=.non:=by simp [Qbh,QcK (show l.length<=j by omega)]
  rw [e]
  simp [ZbT,fnP,ZeB,-ixD,-Za7,hlen,hj',aD]
def hd0 (l:List At):At:=l.getD 0 .non
theorem Zs8 (a b:At):eqO (aD a) (aD b)=some (.bl (decide (a=b))):=by
 simp only [eqO,Zfd,Znv,Zn9,Qci,if_true]
theorem Zqo (l:List At) (h:l≠[]):ixD (lnD l) (.int 0)=some (aD (hd0 l)):=by
 cases l with
 | nil=>exact absurd rfl h
 | cons a r=>show atI ((a::r).map aD) 0=_;exact Zld _ _
theorem Zpk {C:VE->Option D} (hC:∀ a,C [.val (aD a)]=some (.bl false)) (l:List At):Z8 (Zm 0) (fun _=>some true) C [.no] (l.map aD)=some ((l.map fun _=>false).map D.bl):=by
 rw [ZaL aD (fun _=>D.bl false) l fun a _=>⟨[.val (aD a)],rfl,hC a⟩]
 simp
theorem Zpa (l:List At):Zgl [.lst ((l.map fun _=>false).map D.bl)]=some (.bl false):=by
 simp only [Zgl,Ze1,QbH]
 congr 2
 rw [List.any_map]
 simp
theorem Zax (x n:Int) (h:0<n):ZZ (.int x) (.int n)=some (.int (x%n)):=by
 show (if 0<n then some (D.int (x%n)) else none)=_
 rw [if_pos h]
theorem Zde (x:Int) (n:Nat) (h:0<n):∃ a:Nat,x%(n:Int)=(a:Int)/\a<n:=by
 have h1:=Qc4 x (show (n:Int)≠0 by omega)
 have h2:=Qda x (show (0:Int)<(n:Int) by omega)
 exact ⟨(x%(n:Int)).toNat,by omega,by omega⟩
theorem Zlu (a:At):ZdM [.val (aD a)]=some (.val (rk3 a)):=by
 have h2:(3:Nat)<=Qaj:=by decide
 cases a<;>simp [ZdM,fnP,ZfN,aD,rk3,h2]
def Way.its (w:Way) (j x:Nat):Nat->Nat
 | 0=>x
 | i+1=>w.stp (j+i+1) (w.its j x i)
theorem Way.its_succ (w:Way) (j x:Nat):∀ i,w.its (j+1) (w.stp (j+1) x) i=w.its j x (i+1)
 | 0=>rfl
 | i+1=>by
  have ih:=Way.its_succ w j x i
  show w.stp (j+1+i+1) (w.its (j+1) (w.stp (j+1) x) i)=w.stp (j+(i+1)+1) (w.its j x (i+1))
  rw [ih,show j+1+i+1=j+(i+1)+1 by omega]
theorem Way.chn_len (w:Way):∀ (n j x:Nat),(w.chn j x n).length=n
 | 0,_,_=>rfl
 | n+1,j,x=>by simp [Way.chn,Way.chn_len w n]
theorem Way.chn_get (w:Way):∀ (i n j x:Nat),i<n->(w.chn j x n)[i]?=some (w.fs (j+i) (w.its j x i))
 | _,0,_,_,h=>by omega
 | 0,n+1,j,x,_=>by simp [Way.chn,Way.its]
 | i+1,n+1,j,x,h=>by
  have ih:=Way.chn_get w i n (j+1) (w.stp (j+1) x) (by omega)
  rw [Way.its_succ,show j+1+i=j+(i+1) by omega] at ih
  simpa [Way.chn] using ih
theorem Way.its_lt {w:Way} {cell:Int} (h:w.Ok cell) (j x:Nat) (hx:x<47):∀ i,w.its j x i<47
 | 0=>hx
 | i+1=>Way.stp_lt h _ _
theorem Way.its_go (w:Way) (x y i:Nat) (h:w.its 0 x i=w.its 0 y i):∀ d,w.its 0 x (i+d)=w.its 0 y (i+d)
 | 0=>h
 | d+1=>by
  have ih:=Way.its_go w x y i h d
  show w.stp (0+(i+d)+1) (w.its 0 x (i+d))=w.stp (0+(i+d)+1) (w.its 0 y (i+d))
  rw [ih]
structure Lad (ls:List (List At)):Prop where
 ne:0<ls.length
 few:ls.length<=8
 lw:∃ p,0<p/\p<=4/\∀ l∈ls,l.length=p
 nd:(ls.map hd0).Nodup
 fn:∀ l∈ls,∀ m∈ls,∀ i j,i<=j->l.getD i .non=m.getD i .non->l.getD j .non=m.getD j .non
abbrev ldD (ls:List (List At)):D:=.lst (ls.map lnD)
theorem Lad.four {ls:List (List At)} (h:Lad ls):∀ l∈ls,l.length<=4:=fun l hl=>by
 obtain ⟨p,_,hp,e⟩:=h.lw
 rw [e l hl];exact hp
theorem Lad.some {ls:List (List At)} (h:Lad ls):∀ l∈ls,l≠[]:=fun l hl z=>by
 obtain ⟨p,hp,_,e⟩:=h.lw
 have:=e l hl
 rw [z] at this;simp at this;omega
theorem Zn7 (cell:Int) (many p:Nat) (h0:0<many) (hm:many<=8) (hp0:0<p) (hp4:p<=4):∃ ls,Lad ls/\ZbY [.val (.int cell),.val (.int (many:Int)),.val (.int (p:Int))]=some (.own (ls.map lnD)):=by
 obtain ⟨w,h,e⟩:=ZnW cell many p (by omega) hp0 hp4
 have hpos:0<=w.sv.getD 0 0:=by
  have hl:=h.len
  have:w.sv.getD 0 0∈w.sv:=by
   have e:w.sv.getD 0 0=w.sv[0]'(by omega):=by simp [Qbh,QaF (show 0<w.sv.length by omega)]
   rw [e]
   exact Qbd _
  exact (h.pos _ this).1
 refine ⟨_,⟨by simpa using h0,by simpa using hm,⟨p,hp0,hp4,fun l hl=>?_⟩,?_,?_⟩,e⟩
 ·obtain ⟨k,_,rfl⟩:=List.mem_map.mp hl
  exact Way.chn_len w _ _ _
 ·rw [Qbw,List.nodup_iff_pairwise_ne,List.pairwise_map]
  refine List.Pairwise.imp_of_mem ?_ (List.pairwise_lt_range (n:=many))
  intro a b ha hb hlt e
  have ha:=List.mem_range.mp ha
  have hb:=List.mem_range.mp hb
  have hh:∀ k,hd0 (w.chn 0 (w.a0 k) p)=w.fs 0 (w.a0 k):=fun k=>by
   rw [show p=(p-1)+1 by omega];rfl
  simp only [Function.comp,hh] at e
  have:=Way.a0_inj w hpos (by omega) (by omega) ((h.vs 0).inj _ _ (w.a0_lt a) (w.a0_lt b) e)
  omega
 ·intro l hl m hm i j hij e
  obtain ⟨x,hx,rfl⟩:=List.mem_map.mp hl
  obtain ⟨y,hy,rfl⟩:=List.mem_map.mp hm
  by_cases hj:j<p
  ·have g1:=Way.chn_get w i p 0 (w.a0 x) (by omega)
   have g2:=Way.chn_get w i p 0 (w.a0 y) (by omega)
   have g3:=Way.chn_get w j p 0 (w.a0 x) hj
   have g4:=Way.chn_get w j p 0 (w.a0 y) hj
   simp only [Qbh,g1,g2,QcT] at e
   have e2:=(h.vs (0+i)).inj _ _ (Way.its_lt h 0 _ (w.a0_lt x) i) (Way.its_lt h 0 _ (w.a0_lt y) i) e
   have e3:=Way.its_go w _ _ i e2 (j-i)
   rw [show i+(j-i)=j by omega] at e3
   simp only [Qbh,g3,g4,e3]
  ·have l1:=Way.chn_len w p 0 (w.a0 x)
   have l2:=Way.chn_len w p 0 (w.a0 y)
   simp only [Qbh,QcK (show (w.chn 0 (w.a0 x) p).length<=j by omega),QcK (show (w.chn 0 (w.a0 y) p).length<=j by omega)]
def lfK (ls:List (List At)) (i j:Nat):KDs:=mkD [] (ls.map fun l=>(l.getD i .non,aD (l.getD j .non)))
theorem Zpu {ls:List (List At)} (hL:Lad ls) (i j:Nat):Ziw [.val (ldD ls),.val (.int (i:Int)),.val (.int (j:Int))]=some (.own (ZJ (lfK ls i j)) true):=by
 have hl:=hL.few
 have hn:=hL.four
 have q1:Zu (some (ls.map lnD))=some (ls.map lnD):=ZK _ (by simp;omega)
 have hc:=ZaL (b:=Zm 0) (e:=Zgd) (ρ:=[.no,.val (.int (i:Int)),.val (.int (j:Int))]) lnD (fun l=>.tup [aD (l.getD i .non),aD (l.getD j .non)]) ls fun l hm=>⟨[.val (lnD l),.val (.int (i:Int)),.val (.int (j:Int))],rfl,by
  have h1:=ZhR l j (by have:=hn l hm;omega)
  have h0:ZbT [.val (lnD l),.val (.int (i:Int))]=some (.val (aD (l.getD i .non))):=ZhR l i (by have:=hn l hm;omega)
  have hsh:Zu (some [aD (l.getD i .non),aD (l.getD j .non)])=some [aD (l.getD i .non),aD (l.getD j .non)]:=ZK _ (by simp)
  simp only [Zgd,Zs,Zb,Zk,Zz,rdA,Qaf,Qad,Qah,QaA,h0,h1,ZaY,hsh]⟩
 have hf:=ZhF (ls.map fun l=>(l.getD i .non,aD (l.getD j .non))) [] (fun _ h=>nomatch h) (by simp;omega)
 rw [Qbw] at hf
 have e1:(ls.map fun l=>D.tup [aD (l.getD i .non),aD (l.getD j .non)])=ls.map ((fun p=>D.tup [aD p.1,p.2])∘fun l=>(l.getD i .non,aD (l.getD j .non))):=rfl
 rw [e1] at hc
 unfold ldD lfK
 generalize mkD [] (ls.map fun l=>(l.getD i .non,aD (l.getD j .non)))=KV at *
 generalize ls.map ((fun p=>D.tup [aD p.1,p.2])∘fun l=>(l.getD i .non,aD (l.getD j .non)))=PS at *
 generalize ls.map lnD=L at *
 refine Zav rfl ?_
 have hin:ZT 1 [1,2] [.val (.lst L),.val (.int (i:Int)),.val (.int (j:Int))]=[.no,.val (.int (i:Int)),.val (.int (j:Int))]:=rfl
 show Zg3 [.val (.lst L),.val (.int (i:Int)),.val (.int (j:Int))]=_
 simp only [Zg3,Zh,Zo2,Zjs,ZR,ZQ,hin,rdQ,ZX,Qad,Qah,QaA,q1,hc,hf]
def upA:List (List At)->At->Nat->At
 | [],_,_=>.non
 | l::ls,a,j=>if hd0 l=a then l.getD j .non else upA ls a j
theorem Ze2:∀ {ls:List (List At)} {l:List At},(ls.map hd0).Nodup->l∈ls->∀ j,upA ls (hd0 l) j=l.getD j .non
 | m::ls,l,hnd,hm,j=>by
  unfold upA
  rcases Qbk.mp hm with rfl | hm
  ·rw [if_pos rfl]
  ·rw [Qai,QbW] at hnd
   rw [if_neg (show ¬ hd0 m=hd0 l from fun e=>hnd.1 (by rw [e];exact List.mem_map_of_mem hm))]
   exact Ze2 hnd.2 hm j
theorem ZjF {a:At} {v:D}:∀ (ps:List (At×D)) (acc:KDs),(∀ p∈ps,p.1=a->p.2=v)->(ZL acc (.at a)=some v\/∃ p∈ps,p.1=a)->ZL (mkD acc ps) (.at a)=some v
 | [],acc,_,h=>by
  rcases h with h | ⟨p,hp,_⟩
  ·exact h
  ·exact nomatch hp
 | p::ps,acc,h1,h2=>by
  refine ZjF ps (Zak acc (.at p.1) p.2) (fun q hq=>h1 q (Qag _ hq)) ?_
  rw [Zfx]
  by_cases c:p.1=a
  ·rw [if_pos (by rw [c]),h1 p Qam c];exact .inl rfl
  ·rw [if_neg (fun z=>c (KT.at.inj z))]
   rcases h2 with h2 | ⟨q,hq,e⟩
   ·exact .inl h2
   ·rcases Qbk.mp hq with rfl | hq
    ·exact absurd e c
    ·exact .inr ⟨q,hq,e⟩
theorem Zr8 {ls:List (List At)} (hL:Lad ls) {a:At} (ha:a∈ls.map hd0) {i j:Nat} (hij:i<=j):ZbD (.lst (ZJ (lfK ls i j)) true) (aD (upA ls a i))=some (aD (upA ls a j)):=by
 obtain ⟨l,hm,rfl⟩:=List.mem_map.mp ha
 rw [Ze2 hL.nd hm,Ze2 hL.nd hm,ZfG,ZgT]
 have hat:∀ p∈lfK ls i j,Zdw p.1=true:=ZhJ _ [] (fun _ h=>nomatch h)
 show (if Zbv (.at (l.getD i .non)) (lfK ls i j)=true then _ else _)=_
 rw [if_pos (ZgR _ hat)]
 refine ZjF _ _ (fun p hp e=>?_) (.inr ⟨(l.getD i .non,aD (l.getD j .non)),List.mem_map.mpr ⟨l,hm,rfl⟩,rfl⟩)
 obtain ⟨m,hm',rfl⟩:=List.mem_map.mp hp
 show aD (m.getD j .non)=aD (l.getD j .non)
 rw [hL.fn m hm' l hm i j hij e]
theorem Zuo {ls:List (List At)} (hL:Lad ls) {a:At} (ha:a∈ls.map hd0) (i j:Nat):ZcM false (aD (upA ls a i)) (.lst (ZJ (lfK ls i j)) true)=some (.bl true):=by
 obtain ⟨l,hm,rfl⟩:=List.mem_map.mp ha
 rw [Ze2 hL.nd hm]
 unfold lfK
 rw [Zrp,decide_eq_true (List.mem_map.mpr ⟨_,List.mem_map.mpr ⟨l,hm,rfl⟩,rfl⟩)];rfl
theorem ZhP (s0:Sl) (a:At) (j:Nat):∀ (ls:List (List At)) (s3:Sl),a∈ls.map hd0->(∀ l∈ls,l≠[]/\l.length<=4/\j<=l.length)->Z7 (Zm 3) Zb6 (ls.map lnD) [s0,.val (aD a),.val (.int (j:Int)),s3]=.ret (.val (aD (upA ls a j)))
 | [],_,h,_=>nomatch h
 | l::ls,s3,h,hn=>by
  obtain ⟨h1,h2,h3⟩:=hn l Qam
  have e1:=Zqo l h1
  have e2:=Zs8 (hd0 l) a
  have hsh:Zu (some [D.non])=some [D.non]:=ZK _ (by simp)
  simp only [Qai,Z7,Zm,Qap,Qan]
  by_cases hx:hd0 l=a
  ·have e3:Zx (lnD l) (.tup [.non])=some (lnD (l++[.non])):=by
    unfold lnD
    rw [Zjy _ _ (by simp;omega)]
    simp [aD]
   have e4:ixD (lnD (l++[.non])) (.int (j:Int))=some (aD (l.getD j .non)):=by
    show atI ((l++[At.non]).map aD) (j:Int)=_
    refine ZbL ?_
    rw [Qa1]
    by_cases hj:j<l.length
    ·rw [QbA hj,QaF hj]
     simp [Qbh,hj]
    ·have:j=l.length:=by omega
     subst this
     simp [Qbh]
   have hb:Zb6 [s0,.val (aD a),.val (.int (j:Int)),.val (lnD l)]=.ret (.val (aD (l.getD j .non))):=by
    rw [hx,decide_eq_true rfl] at e2
    simp only [Zb6,Zh,Z4,asB,Zf,rdP,ZS,Zb,Zk,Zz,Qaf,Qad,Qah,QaA,e1,hx,e2,hsh,e3,e4]
   rw [hb]
   unfold upA
   rw [if_pos hx]
  ·have hb:Zb6 [s0,.val (aD a),.val (.int (j:Int)),.val (lnD l)]=.next [s0,.val (aD a),.val (.int (j:Int)),.val (lnD l)]:=by
    rw [decide_eq_false hx] at e2
    simp only [Zb6,Zh,Z4,asB,Zf,rdP,Qaf,Qad,Qah,QaA,e1,e2]
   rw [hb]
   unfold upA
   rw [if_neg hx]
   refine ZhP s0 a j ls _ ?_ fun m hm=>hn m (Qag _ hm)
   rcases Qbk.mp h with e | e
   ·exact absurd e.symm hx
   ·exact e
theorem ZnN {ls:List (List At)} (hL:Lad ls) {a:At} (ha:a∈ls.map hd0) (j:Nat) (hj:∀ l∈ls,j<=l.length):Zhi [.val (ldD ls),.val (aD a),.val (.int (j:Int))]=some (.val (aD (upA ls a j))):=by
 have hr:=ZhP (.val (ldD ls)) a j ls .no ha fun l hl=>⟨hL.some l hl,hL.four l hl,hj l hl⟩
 refine Zav rfl ?_
 show ZfO [.val (ldD ls),.val (aD a),.val (.int (j:Int)),.no]=_
 unfold ldD at *
 generalize ls.map lnD=L at *
 simp only [ZfO,Zh,ZaW,rdQ,ZX,Qad,Qah,hr]
theorem ZfC {α:Type} {e:VE->Option D} (r:VE) (G:α->D):∀ (xs:List α) (k:Nat) (ys:List D),xs.length=ys.length->(∀ (i:Nat) (x:α) (y:D),xs[i]?=some x->ys[i]?=some y->e (.val (.int ((k+i:Nat):Int))::.val (G x)::r)=some y)->Z8 (Zaf 2 (Zy (Zm 0) (Zy (Zm 1) Zam))) (fun _=>some true) e (.no::.no::r) (ZaD k (xs.map G))=some ys
 | [],_,[],_,_=>rfl
 | [],_,_::_,h,_=>by simp at h
 | _::_,_,[],h,_=>by simp at h
 | x::xs,k,y::ys,hl,h=>by
  have ih:=ZfC (e:=e) r G xs (k+1) ys (by simpa using hl) fun i a b ha hb=>by
   have:=h (i+1) a b (by simpa using ha) (by simpa using hb)
   rw [show k+(i+1)=k+1+i by omega] at this
   exact this
  have h0:=h 0 x y rfl rfl
  rw [Nat.add_zero] at h0
  simp only [Qai,ZaD,Z8,Zaf,Zy,Zm,Zam,QaK,Qbb,if_true,Qap,Qan,Qah,ih,h0,Zb]
inductive Axs:List (List (List At))->List Nat->Prop where
 | nil:Axs [] []
 | cons {ls Ls j g}:Lad ls->(∀ l∈ls,j<=l.length)->Axs Ls g->Axs (ls::Ls) (j::g)
inductive Spot:List (List (List At))->List At->Prop where
 | nil:Spot [] []
 | cons {ls Ls a as}:a∈ls.map hd0->Spot Ls as->Spot (ls::Ls) (a::as)
def Z2:List (List (List At))->List At->List Nat->List At
 | ls::Ls,a::as,j::g=>upA ls a j::Z2 Ls as g
 | _,_,_=>[]
def wyL:List (List (List At))->List Nat->List Nat->List D
 | ls::Ls,i::g,j::h=>.lst (ZJ (lfK ls i j)) true::wyL Ls g h
 | _,_,_=>[]
inductive LeG:List Nat->List Nat->Prop where
 | nil:LeG [] []
 | cons {i j g h}:i<=j->LeG g h->LeG (i::g) (j::h)
def grD (g:List Nat):D:=.tup (g.map fun (j:Nat)=>D.int (j:Int))
theorem Axs.len {Ls:List (List (List At))} {g:List Nat} (h:Axs Ls g):g.length=Ls.length:=by
 induction h with
 | nil=>rfl
 | cons _ _ _ ih=>simp [ih]
theorem Spot.len {Ls:List (List (List At))} {s:List At} (h:Spot Ls s):s.length=Ls.length:=by
 induction h with
 | nil=>rfl
 | cons _ _ ih=>simp [ih]
theorem Zij {Ls:List (List (List At))} {g k:List Nat} (h:Axs Ls g) (h':Axs Ls k):(wyL Ls g k).length=Ls.length:=by
 induction h generalizing k with
 | nil=>cases h';rfl
 | cons _ _ _ ih =>
  cases h' with
  | cons _ _ t=>simp [wyL,ih t]
theorem ZjD {Ls:List (List (List At))} {g:List Nat} {s:List At} (h:Axs Ls g) (hs:Spot Ls s):(Z2 Ls s g).length=Ls.length:=by
 induction h generalizing s with
 | nil=>cases hs;rfl
 | cons _ _ _ ih =>
  cases hs with
  | cons _ t=>simp [Z2,ih t]
theorem ZqT {Ls:List (List (List At))} {g k:List Nat} (h:Axs Ls g) (h':Axs Ls k):∀ (n:Nat) (ls:List (List At)),Ls[n]?=some ls->∃ i j:Nat,g[n]?=some i/\k[n]?=some j/\Lad ls/\(wyL Ls g k)[n]?=some (D.lst (ZJ (lfK ls i j)) true):=by
 induction h generalizing k with
 | nil=>intro i ls e;simp at e
 | @cons ls Ls i g h1 h2 h3 ih =>
  cases h' with
  | @cons _ _ j k' t1 t2 t3 =>
  intro n ls' e
  cases n with
  | zero =>
   simp at e;subst e
   exact ⟨i,j,rfl,rfl,h1,rfl⟩
  | succ n=>exact ih t3 n ls' (by simpa using e)
theorem Zm7 {g:List Nat} {i j:Nat} (h:g[i]?=some j):ixD (grD g) (.int (i:Int))=some (.int (j:Int)):=by
 show atI (g.map fun (j:Nat)=>D.int (j:Int)) (i:Int)=_
 exact ZbL (by simp [h])
theorem ZmY {Ls:List (List (List At))} {g k:List Nat} (h:Axs Ls g) (h':Axs Ls k) (hz:Ls.length<=4):ZgI [.val (.lst (Ls.map ldD)),.val (grD g),.val (grD k)]=some (.own (wyL Ls g k)):=by
 have hc:=ZfC (e:=ZeC) [.val (grD g),.val (grD k)] ldD Ls 0 (wyL Ls g k) (Zij h h').symm fun n ls y e1 e2=>by
  obtain ⟨i,j,g1,g2,hL,w1⟩:=ZqT h h' n ls e1
  rw [w1] at e2;cases e2
  have a1:=Zm7 g1
  have a2:=Zm7 g2
  have a3:=Zpu hL i j
  rw [Nat.zero_add]
  simp only [ZeC,Zs,Zf,Zb,Zk,rdA,rdP,Qaf,Qad,Qah,QaA,a1,a2,a3,ZgW]
 have q1:Zu (some (ZaD 0 (Ls.map ldD)))=some (ZaD 0 (Ls.map ldD)):=ZK _ (by rw [Zds];simp;omega)
 generalize Ls.map ldD=L at *
 refine Zav rfl ?_
 show Zet [.val (.lst L),.val (grD g),.val (grD k)]=_
 have hin:ZT 2 [1,2] [.val (.lst L),.val (grD g),.val (grD k)]=[.no,.no,.val (grD g),.val (grD k)]:=rfl
 simp only [Zet,Zh,Zbm,ZQ,ZcV,Zao,hin,rdQ,Qad,Qah,QaA,q1,hc]
theorem ZkW {Ls:List (List (List At))} {g:List Nat} {s:List At} (h:Axs Ls g) (hs:Spot Ls s):Z8 (Zaf 3 (Zy (Zm 0) (Zy (Zm 1) (Zy (Zm 2) Zam)))) (fun _=>some true) Zb8 [.no,.no,.no] (QaV (fun x y=>D.tup [x,y.1,y.2]) (Ls.map ldD) ((s.map aD).zip (g.map fun (j:Nat)=>D.int (j:Int))))=some ((Z2 Ls s g).map aD):=by
 induction h generalizing s with
 | nil=>cases hs;rfl
 | @cons ls Ls j g h1 h2 h3 ih =>
  cases hs with
  | @cons _ _ a as t1 t2 =>
  have e1:Zb8 [.val (ldD ls),.val (aD a),.val (.int (j:Int))]=some (aD (upA ls a j)):=by
   have:=ZnN h1 t1 j h2
   simp only [Zb8,Zs,Zb,rdA,Qaf,Qad,Qah,QaA,this,ZaY]
  have ih:=ih t2
  simp only [Qai,Qca,Qby,Z8,Zaf,Zy,Zm,Zam,QaK,Qbb,if_true,Qap,Qan,Qah,e1,ih,Z2,Zb]
theorem Zjk {Ls:List (List (List At))} {g:List Nat} {s:List At} (h:Axs Ls g) (hs:Spot Ls s) (hz:Ls.length<=4):ZdZ [.val (.lst (Ls.map ldD)),.val (lnD s),.val (grD g)]=some (.val (lnD (Z2 Ls s g))):=by
 have hc:=ZkW h hs
 have q1:=ZK (QaV (fun x y=>D.tup [x,y.1,y.2]) (Ls.map ldD) ((s.map aD).zip (g.map fun (j:Nat)=>D.int (j:Int)))) (by simp;omega)
 refine Zav rfl ?_
 unfold grD lnD
 generalize Ls.map ldD=L at *
 generalize (g.map fun (j:Nat)=>D.int (j:Int))=G at *
 generalize s.map aD=S at *
 show ZcZ [.val (.lst L),.val (.tup S),.val (.tup G)]=_
 have hin:ZT 3 [] [.val (.lst L),.val (.tup S),.val (.tup G)]=[.no,.no,.no]:=rfl
 simp only [ZcZ,Zh,ZS,ZH,Zbq,pks,pk,Zb,Zk,ZR,ZQ,Zju,Zao,hin,rdQ,Qaf,Qad,Qah,QaA,q1,hc]
theorem Zow {Ls:List (List (List At))} {g k:List Nat} {s:List At} (h:Axs Ls g) (h':Axs Ls k) (hs:Spot Ls s):Z8 (Zaf 2 (Zy (Zm 0) (Zy (Zm 1) Zam))) (fun _=>some true) Zca [.no,.no] (QaV (fun x y=>D.tup [x,y]) (wyL Ls g k) ((Z2 Ls s g).map aD))=some ((Ls.map fun _=>true).map D.bl):=by
 induction h generalizing s k with
 | nil=>cases hs;rfl
 | @cons ls Ls i g h1 h2 h3 ih =>
  cases hs with
  | @cons _ _ a as t1 t2 =>
  cases h' with
  | @cons _ _ j k' u1 u2 u3 =>
  have e1:Zca [.val (.lst (ZJ (lfK ls i j)) true),.val (aD (upA ls a i))]=some (.bl true):=by
   have:=Zuo h1 t1 i j
   simp only [Zca,Zf,rdP,Qaf,Qad,Qah,QaA,this]
  have ih:=ih u3 t2
  simp only [wyL,Z2,Qai,Qby,Z8,Zaf,Zy,Zm,Zam,QaK,Qbb,if_true,Qap,Qan,Qah,e1,ih,Zb]
theorem ZmM {Ls:List (List (List At))} {g k:List Nat} {s:List At} (h:Axs Ls g) (h':Axs Ls k) (hle:LeG g k) (hs:Spot Ls s):Z8 (Zaf 2 (Zy (Zm 0) (Zy (Zm 1) Zam))) (fun _=>some true) Za3 [.no,.no] (QaV (fun x y=>D.tup [x,y]) (wyL Ls g k) ((Z2 Ls s g).map aD))=some ((Z2 Ls s k).map aD):=by
 induction h generalizing s k with
 | nil=>cases hs;cases h';rfl
 | @cons ls Ls i g h1 h2 h3 ih =>
  cases hs with
  | @cons _ _ a as t1 t2 =>
  cases h' with
  | @cons _ _ j k' u1 u2 u3 =>
  cases hle with
  | cons v1 v2 =>
  have e1:Za3 [.val (.lst (ZJ (lfK ls i j)) true),.val (aD (upA ls a i))]=some (aD (upA ls a j)):=by
   have:=Zr8 h1 t1 v1
   simp only [Za3,Zf,rdP,Qaf,Qad,Qah,QaA,this]
  have ih:=ih u3 v2 t2
  simp only [wyL,Z2,Qai,Qby,Z8,Zaf,Zy,Zm,Zam,QaK,Qbb,if_true,Qap,Qan,Qah,e1,ih,Zb]
theorem Zjc {Ls:List (List (List At))} {g k:List Nat} {s:List At} (h:Axs Ls g) (h':Axs Ls k) (hs:Spot Ls s) (hz:Ls.length<=4):ZcS [.val (.lst (wyL Ls g k)),.val (lnD (Z2 Ls s g))]=some (.val (.bl true)):=by
 have hc:=Zow h h' hs
 have ha:=Zp3 Ls
 have q1:=ZK (QaV (fun x y=>D.tup [x,y]) (wyL Ls g k) ((Z2 Ls s g).map aD)) (by simp [Zij h h'];omega)
 refine Zav rfl ?_
 unfold lnD
 generalize wyL Ls g k=L at *
 generalize (Z2 Ls s g).map aD=S at *
 generalize (Ls.map fun _=>true).map D.bl=B at *
 show ZcY [.val (.lst L),.val (.tup S)]=_
 have hin:ZT 2 [] [.val (.lst L),.val (.tup S)]=[.no,.no]:=rfl
 simp only [ZcY,Zh,ZS,ZH,pks,pk,Zb,Zk,ZR,ZQ,ZdC,Zao,hin,rdQ,Qaf,Qad,Qah,QaA,q1,hc,ha]
structure Ends (as:List Int) (m M:Int):Prop where
 m1:m∈as
 m2:∀ a∈as,m<=a
 M1:M∈as
 M2:∀ a∈as,a<=M
theorem Ends.uniq {as:List Int} {m M m' M':Int} (h:Ends as m M) (h':Ends as m' M'):m=m'/\M=M':=by
 have a1:=h.m2 _ h'.m1
 have a2:=h'.m2 _ h.m1
 have a3:=h.M2 _ h'.M1
 have a4:=h'.M2 _ h.M1
 omega
theorem Ends.ex (as:List Int) (h:as≠[]):∃ m M,(ZcO as)[0]?=some m/\(ZcO as)[as.length-1]?=some M/\Ends as m M:=by
 have hl:=Zhf as
 have hp:=Zes as
 have hs:=ZiJ as
 have h0:0<as.length:=List.length_pos_iff.mpr h
 refine ⟨(ZcO as)[0]'(by omega),(ZcO as)[as.length-1]'(by omega),by rw [QaF],by rw [QaF],?_,?_,?_,?_⟩
 ·exact hp.mem_iff.mp (Qbd _)
 ·intro a ha
  obtain ⟨i,hi,e⟩:=List.getElem_of_mem (hp.mem_iff.mpr ha)
  subst e
  rcases Nat.eq_zero_or_pos i with h | h
  ·subst h;omega
  ·exact List.pairwise_iff_getElem.mp hs 0 i (by omega) hi h
 ·exact hp.mem_iff.mp (Qbd _)
 ·intro a ha
  obtain ⟨i,hi,e⟩:=List.getElem_of_mem (hp.mem_iff.mpr ha)
  subst e
  by_cases h:i=as.length-1
  ·subst h;omega
  ·exact List.pairwise_iff_getElem.mp hs i (as.length-1) hi (by omega) (by omega)
abbrev Ent:=List At×Int×List Int
def Zo (acc:List Ent):List (List At):=acc.map (·.1)
def ZN:List Ent->List At->Option (Int×List Int)
 | [],_=>none
 | e::r,k=>if e.1=k then some e.2 else ZN r k
def Zat:List Ent->List At->Int->List Ent
 | [],k,x=>[(k,x,[])]
 | e::r,k,x=>if e.1=k then (e.1,e.2.1,e.2.2++[x])::r else e::Zat r k x
def ZO (v:Int×List Int->D) (e:Ent):KT×D:=(.tup e.1,v e.2)
theorem lookA_none {k:List At}:∀ {acc:List Ent},ZN acc k=none↔k∉Zo acc
 | []=>by simp [ZN,Zo]
 | e::r=>by
  have ih:=lookA_none (k:=k) (acc:=r)
  unfold ZN
  by_cases h:e.1=k
  ·rw [if_pos h];simp [Zo,h]
  ·rw [if_neg h,ih];simp [Zo,QaD h]
theorem ZbJ (v:Int×List Int->D) (k:List At):∀ acc:List Ent,ZL (acc.map (ZO v)) (.tup k)=(ZN acc k).map v
 | []=>rfl
 | e::r=>by
  have ih:=ZbJ v k r
  simp only [Qai,ZL,ZN,ZO,KT.tup.injEq]
  by_cases h:e.1=k
  ·rw [if_pos h,if_pos h];rfl
  ·rw [if_neg h,if_neg h];exact ih
theorem Zhm {k:KT} {w:D}:∀ {kvs:KDs},ZL kvs k=none->Zbz kvs k w=kvs
 | [],_=>rfl
 | p::r,h=>by
  unfold ZL at h
  by_cases e:p.1=k
  ·rw [if_pos e] at h;cases h
  ·rw [if_neg e] at h
   unfold Zbz
   rw [if_neg e,Zhm h]
theorem Zmi (v:Int×List Int->D) {k:List At} {x:Int} {p:Int×List Int}:∀ {acc:List Ent},(Zo acc).Nodup->ZN acc k=some p->Zbz (acc.map (ZO v)) (.tup k) (v (p.1,p.2++[x]))=(Zat acc k x).map (ZO v)
 | e::r,hn,h=>by
  simp only [Zo,Qai,QbW] at hn
  unfold ZN at h
  by_cases c:e.1=k
  ·rw [if_pos c] at h;cases h
   have hr:ZL (r.map (ZO v)) (.tup k)=none:=by
    rw [ZbJ,lookA_none.mpr (c ▸ hn.1)];rfl
   simp only [Qai,Zbz,Zat,ZO,c,if_true,Zhm hr,KT.tup.injEq]
  ·rw [if_neg c] at h
   have ih:=Zmi v (x:=x) hn.2 h
   simp only [Qai,Zbz,Zat,ZO,c,if_false,KT.tup.injEq]
   rw [ih]
theorem Zmk {k:List At} {x:Int}:∀ {acc:List Ent},ZN acc k=none->Zat acc k x=acc++[(k,x,[])]
 | [],_=>rfl
 | e::r,h=>by
  unfold ZN at h
  by_cases c:e.1=k
  ·rw [if_pos c] at h;cases h
  ·rw [if_neg c] at h
   unfold Zat
   rw [if_neg c,Zmk h];rfl
theorem Zq0 (v:Int×List Int->D) {k:List At} {x:Int} {p:Int×List Int} {acc:List Ent} (hn:(Zo acc).Nodup) (h:ZN acc k=some p):Zak (acc.map (ZO v)) (.tup k) (v (p.1,p.2++[x]))=(Zat acc k x).map (ZO v):=by
 unfold Zak
 rw [ZbJ,h]
 exact Zmi v hn h
theorem ZqV (v:Int×List Int->D) {k:List At} {x:Int} {acc:List Ent} (h:ZN acc k=none):Zak (acc.map (ZO v)) (.tup k) (v (x,[]))=(Zat acc k x).map (ZO v):=by
 unfold Zak
 rw [ZbJ,h,Zmk h]
 simp [ZO]
theorem Zhr (k:List At) (x:Int):∀ acc:List Ent,Zo (Zat acc k x)=if k∈Zo acc then Zo acc else Zo acc++[k]
 | []=>rfl
 | e::r=>by
  have ih:=Zhr k x r
  unfold Zat
  by_cases c:e.1=k
  ·rw [if_pos c];simp [Zo,c]
  ·rw [if_neg c]
   have:Zo (e::Zat r k x)=e.1::Zo (Zat r k x):=rfl
   have hke:Zo (e::r)=e.1::Zo r:=rfl
   rw [this,ih,hke]
   by_cases m:k∈Zo r
   ·rw [if_pos m,if_pos (Qag _ m)]
   ·rw [if_neg m,if_neg (by simp [Zo,QaD c] at m ⊢;exact m)];rfl
theorem Zox {k:List At} {x:Int} {acc:List Ent} (h:(Zo acc).Nodup):(Zo (Zat acc k x)).Nodup:=by
 rw [Zhr]
 split
 ·exact h
 ·next m=>exact List.nodup_append.mpr ⟨h,by simp,fun a ha b hb=>by simp at hb;subst hb;exact fun e=>m (e ▸ ha)⟩
theorem ZlN (k:List At) (x:Int):∀ acc:List Ent,(Zat acc k x).length<=acc.length+1
 | []=>by simp [Zat]
 | e::r=>by
  have:=ZlN k x r
  unfold Zat
  split<;>simp<;>omega
theorem Zrg {k k':List At} {x:Int} {acc:List Ent} (h:k'∈Zo (Zat acc k x)):k'=k\/k'∈Zo acc:=by
 rw [Zhr] at h
 split at h
 ·exact .inr h
 ·rcases List.mem_append.mp h with h | h
  ·exact .inr h
  ·simp at h;exact .inl h
def szA:List Ent->Nat
 | []=>0
 | e::r=>e.2.2.length+1+szA r
theorem ZnV (k:List At) (x:Int):∀ acc:List Ent,szA (Zat acc k x)=szA acc+1
 | []=>rfl
 | e::r=>by
  have:=ZnV k x r
  unfold Zat
  split<;>simp [szA]<;>omega
theorem Zit {k:List At} {p:Int×List Int}:∀ {acc:List Ent},ZN acc k=some p->p.2.length+1<=szA acc
 | e::r,h=>by
  unfold ZN at h
  simp only [szA]
  split at h
  ·cases h;omega
  ·have:=Zit h;omega
theorem Zin (v:Int×List Int->D) (k:List At) (acc:List Ent):Zbv (.tup k) (acc.map (ZO v))=true:=Zp1 k fun p hp=>by
 obtain ⟨e,_,rfl⟩:=List.mem_map.mp hp
 rfl
theorem ZjW (l:List At):okK (lnD l)=some (.tup l):=Zki (.tup l)
abbrev vL (p:Int×List Int):D:=.lst ((p.1::p.2).map D.int)
abbrev vC (p:Int×List Int):D:=cel p.1 p.2
abbrev dcS (v:Int×List Int->D) (acc:List Ent):Sl:=.own (ZJ (acc.map (ZO v))) true
def Zcm (r:List At×Int):D:=.tup [lnD r.1,.int r.2]
def Zae (Ls:List (List (List At))) (g:List Nat) (rows:List (List At×Int)) (acc:List Ent):List Ent:=rows.foldl (fun acc r=>Zat acc (Z2 Ls r.1 g) r.2) acc
structure AccOk (acc:List Ent) (n m:Nat):Prop where
 nd:(Zo acc).Nodup
 len:acc.length<=m
 sz:szA acc<=m
 kl:∀ k∈Zo acc,k.length=n
theorem AccOk.add {acc:List Ent} {n m:Nat} (h:AccOk acc n m) {k:List At} (hk:k.length=n) (x:Int):AccOk (Zat acc k x) n (m+1) :=
 ⟨Zox h.nd,by have:=ZlN k x acc;have:=h.len;omega,by rw [ZnV];have:=h.sz;omega,fun k' hk'=>by
  rcases Zrg hk' with rfl | h'
  ·exact hk
  ·exact h.kl _ h'⟩
theorem ZkJ {Ls:List (List (List At))} {g:List Nat} {s:List At} (h:Axs Ls g) (hs:Spot Ls s) (hz:Ls.length<=4) (s1 s6:Sl) (x:Int) {acc:List Ent} {n m:Nat} (ha:AccOk acc n m) (hm:m<1000) :
  ZbG [.val (.lst (Ls.map ldD)),s1,.val (grD g),dcS vL acc,.val (lnD s),.val (.int x),s6]=.next [.val (.lst (Ls.map ldD)),s1,.val (grD g),dcS vL (Zat acc (Z2 Ls s g) x),.val (lnD s),.val (.int x),.val (lnD (Z2 Ls s g))]:=by
 have hk:=Zjk h hs hz
 generalize Z2 Ls s g=k at *
 have hok:=ZjW k
 have hom:=Zin vL k acc
 have hval:=ZbJ vL k acc
 have hlen:(acc.map (ZO vL)).length<Qaj:=by rw [Qaz];exact Qc5 ha.len (Qay hm (by decide))
 have hun:=ZfK (acc.map (ZO vL))
 have hsh:Zu (some [D.int x])=some [D.int x]:=ZK _ (by simp)
 have hsh0:Zu (some ([]:List D))=some []:=rfl
 have key:∀ d,Zx ((ZL (acc.map (ZO vL)) (.tup k)).getD (.lst [])) (.lst [.int x])=some d->Zak (acc.map (ZO vL)) (.tup k) d=(Zat acc k x).map (ZO vL)->ZbG [.val (.lst (Ls.map ldD)),s1,.val (grD g),dcS vL acc,.val (lnD s),.val (.int x),s6]=.next [.val (.lst (Ls.map ldD)),s1,.val (grD g),dcS vL (Zat acc k x),.val (lnD s),.val (.int x),.val (lnD k)]:=by
  intro d e1 e2
  unfold dcS
  generalize acc.map (ZO vL)=KV at *
  generalize (Zat acc k x).map (ZO vL)=KV' at *
  simp only [ZbG,Zh,ZP,Zs,Zb,Zk,ZR,Zz,rdA,rdP,rdV,rdG,Zf,dgF,ZgZ,Qaf,Qad,Qah,QaA,Qap,Qan,hk,ZaY,hun,hok,hom,hsh,hsh0,if_true,e1,e2,Bool.true_and,decide_eq_true hlen]
 cases hl:ZN acc k with
 | none =>
  refine key (vL (x,[])) ?_ (ZqV vL hl)
  rw [hval,hl]
  rfl
 | some p =>
  refine key (vL (p.1,p.2++[x])) ?_ (Zq0 vL ha.nd hl)
  rw [hval,hl]
  have:=Zit hl
  have:=ha.sz
  show Zx (.lst ((p.1::p.2).map D.int)) (.lst [.int x])=_
  rw [ZkZ _ _ (by simp;omega)]
  simp
theorem ZfU {Ls:List (List (List At))} {g:List Nat} (h:Axs Ls g) (hz:Ls.length<=4) (s1:Sl):∀ (rows:List (List At×Int)) (acc:List Ent) (m:Nat) (s4 s5 s6:Sl),(∀ r∈rows,Spot Ls r.1)->AccOk acc Ls.length m->m+rows.length<1000 ->
  AccOk (Zae Ls g rows acc) Ls.length (m+rows.length)/\∃ s4' s5' s6',Z7 (Zaf 2 (Zy (Zm 4) (Zy (Zm 5) Zam))) ZbG (rows.map Zcm) [.val (.lst (Ls.map ldD)),s1,.val (grD g),dcS vL acc,s4,s5,s6]=.next [.val (.lst (Ls.map ldD)),s1,.val (grD g),dcS vL (Zae Ls g rows acc),s4',s5',s6']
 | [],acc,m,s4,s5,s6,_,ha,_=>⟨ha,s4,s5,s6,rfl⟩
 | r::rows,acc,m,s4,s5,s6,hr,ha,hm=>by
  simp only [QaK] at hm
  have hs:=hr r Qam
  have e1:=ZkJ h hs hz s1 s6 r.2 ha (by omega)
  obtain ⟨ok,a,b,c,e2⟩:=ZfU h hz s1 rows (Zat acc (Z2 Ls r.1 g) r.2) (m+1) (.val (lnD r.1)) (.val (.int r.2)) (.val (lnD (Z2 Ls r.1 g))) (fun q hq=>hr q (Qag _ hq)) (ha.add (ZjD h hs) r.2) (by omega)
  refine ⟨by rw [QaK,show m+(rows.length+1)=m+1+rows.length by omega];exact ok,a,b,c,?_⟩
  simp only [Qai,Zcm,Z7,Zaf,Zy,Zm,Zam,QaK,Qbb,if_true,Qap,Qan,Qah]
  rw [e1]
  exact e2
theorem ZgB (x:Int):∀ xs:List Int,Ends (x::xs) (xs.foldl mn x) (xs.foldl mx x):=by
 intro xs
 induction xs generalizing x with
 | nil=>exact ⟨by simp,by simp,by simp,by simp⟩
 | cons y ys ih =>
  have a:=ih (mn x y)
  have b:=ih (mx x y)
  have c1:=ZqD x y
  have c2:=Zqy x y
  simp only [QbV]
  refine ⟨?_,fun z hz=>?_,?_,fun z hz=>?_⟩
  ·rcases Qbk.mp a.m1 with e | e
   ·rw [e,c1]
    rcases Int.le_total x y with z | z
    ·rw [show min x y=x by omega];simp
    ·rw [show min x y=y by omega];simp
   ·exact Qag _ (Qag _ e)
  ·have h1:=a.m2 (mn x y) Qam
   rcases Qbk.mp hz with rfl | hz
   ·omega
   ·rcases Qbk.mp hz with rfl | hz
    ·omega
    ·exact a.m2 z (Qag _ hz)
  ·rcases Qbk.mp b.M1 with e | e
   ·rw [e,c2]
    rcases Int.le_total x y with z | z
    ·rw [show max x y=y by omega];simp
    ·rw [show max x y=x by omega];simp
   ·exact Qag _ (Qag _ e)
  ·have h1:=b.M2 (mx x y) Qam
   rcases Qbk.mp hz with rfl | hz
   ·omega
   ·rcases Qbk.mp hz with rfl | hz
    ·omega
    ·exact b.M2 z (Qag _ hz)
theorem Zie (x:Int) (xs:List Int) (h64:xs.length+1<64):Zcs [.val (vL (x,xs))]=some (.val (cel x xs)):=by
 obtain ⟨m',M',e1,e2,he'⟩:=Ends.ex (x::xs) (by simp)
 obtain ⟨hm,hM⟩:=(ZgB x xs).uniq he'
 have hl:=Zhf (x::xs)
 have hs:=ZjK (Zes (x::xs))
 have hsort:=ZpG (x::xs)
 rw [if_pos (by simpa using h64)] at hsort
 unfold vL cel
 rw [hm,hM]
 simp only [QaK] at *
 generalize ZcO (x::xs)=W at *
 generalize (x::xs).sum=S at *
 generalize (x::xs).map D.int=V at *
 have k1:atI (W.map D.int) 0=some (.int m'):=by
  have:(W.map D.int)[0]?=some (D.int m'):=by rw [Qa1,e1];rfl
  exact ZbL this
 have k2:atI (W.map D.int) (-1)=some (.int M'):=by
  have e:ixN (W.map D.int).length (-1)=some xs.length:=by
   unfold ixN
   rw [Qaz,hl,if_neg (by decide),if_pos (by omega)]
   congr 1;omega
  unfold atI
  rw [e]
  simpa using e2
 simp [Zcs,fnP,ZdE,hsort,hl,k1,k2,four,hs]
theorem ZoP {α:Type} {F:List Sl->Option Rv} (f:α->D) {lt:α->α->Bool} (T:TO lt) (b:Option Bool) (xs:List α) (few:xs.length<64) (ky:α->D) (tells:∀ a∈xs,∃ r,F [.val (f a)]=some r/\rvD r=ky a) (mode:∀ a∈xs,KMode b (ky a)) (cmp:∀ a∈xs,∀ c∈xs,ltN 6 (ky a) (ky c)=some (lt a c)):Zek F (xs.map f)=some ((ZaT lt xs).map f):=by
 have hk:∀ a∈xs,Za9 F (f a)=ky a:=fun a ha=>by
  obtain ⟨r,e1,e2⟩:=tells a ha
  unfold Za9;rw [e1];exact e2
 have hl:∀ a∈xs,∀ c∈xs,ltF F (f a) (f c)=lt a c:=fun a ha c hc=>Zhp (by rw [hk a ha,hk c hc];exact cmp a ha c hc)
 have ok:SortOk F (xs.map f):={
  few:=by simpa using few
  tells:=fun x hx=>by obtain ⟨a,ha,rfl⟩:=List.mem_map.mp hx;obtain ⟨r,e1,_⟩:=tells a ha;exact ⟨_,e1⟩
  mode:=⟨b,fun x hx=>by obtain ⟨a,ha,rfl⟩:=List.mem_map.mp hx;rw [hk a ha];exact mode a ha⟩
  cmp:=fun x hx y hy=>by
   obtain ⟨a,ha,rfl⟩:=List.mem_map.mp hx
   obtain ⟨c,hc,rfl⟩:=List.mem_map.mp hy
   rw [hk a ha,hk c hc];exact ⟨_,cmp a ha c hc⟩
  asym:=fun x hx y hy h=>by
   obtain ⟨a,ha,rfl⟩:=List.mem_map.mp hx
   obtain ⟨c,hc,rfl⟩:=List.mem_map.mp hy
   rw [hl a ha c hc] at h;rw [hl c hc a ha];exact T.asym a c h
  neg:=fun x hx y hy z hz h=>by
   obtain ⟨a,ha,rfl⟩:=List.mem_map.mp hx
   obtain ⟨c,hc,rfl⟩:=List.mem_map.mp hy
   obtain ⟨e,he,rfl⟩:=List.mem_map.mp hz
   rw [hl a ha e he] at h;rw [hl a ha c hc,hl c hc e he];exact T.neg a c e h
  anti:=fun x hx y hy h1 h2=>by
   obtain ⟨a,ha,rfl⟩:=List.mem_map.mp hx
   obtain ⟨c,hc,rfl⟩:=List.mem_map.mp hy
   rw [hl a ha c hc] at h1;rw [hl c hc a ha] at h2;rw [T.anti a c h1 h2] }
 rw [Zla ok,Zhv f lt _ xs hl]
theorem ZsR (a b:At):eqD (rk3 a) (rk3 b)=decide (a=b):=by
 cases a<;>cases b<;>simp [rk3]
theorem Zn2 (n:Nat) (a:At):okD (n+1) (rk3 a)=true:=by cases a<;>cases n<;>rfl
theorem Zl5 (n:Nat):∀ l m:List At,Zck (ltN (n+2)) (l.map rk3) (m.map rk3)=some (ltL l m)
 | [],[]=>rfl
 | [],_::_=>rfl
 | _::_,[]=>rfl
 | a::r,b::s=>by
  have ih:=Zl5 n r s
  have h1:=Zn2 11 a
  have h2:=Zn2 11 b
  have h3:=ZsR a b
  have h4:=Zta n a b
  simp only [Qai,Zck,Zfd,h1,h2,h3,h4,ih,ltL,Qci,if_true,decide_eq_true_eq]
  split<;>rfl
theorem ZhZ (l:List At) (h:l.length<=1000):Zcj [.val (lnD l)]=some (.own (l.map rk3)):=by
 have hc:=ZaL (b:=Zm 0) (e:=Zcw) (ρ:=[.no]) aD rk3 l fun a _=>⟨[.val (aD a)],rfl,by
  have:=Zlu a
  simp only [Zcw,Zs,Zb,rdA,Qad,Qah,this,QaA,rvD]⟩
 have q1:=ZK (l.map aD) (by simp;omega)
 refine Zav rfl ?_
 unfold lnD
 generalize l.map aD=L at *
 show Zb5 [.val (.tup L)]=_
 have hin:ZT 1 [] [.val (.tup L)]=[.no]:=rfl
 simp only [Zb5,Zh,Zbm,ZQ,hin,rdQ,ZX,Qad,Qah,QaA,q1,hc]
theorem Zjb (ls:List (List At)) (hl:ls.length<64) (hn:∀ l∈ls,l.length<=1000):Zek Zcj (ls.map lnD)=some ((ZaT ltL ls).map lnD) :=
 ZoP lnD Zm9 none ls hl (fun l=>.lst (l.map rk3)) (fun l h=>⟨_,ZhZ l (hn l h),rfl⟩) (fun l _=>⟨_,rfl⟩) (fun l _ m _=>Zl5 3 l m)
def ZaG (acc:List Ent):List D:=(ZaT ltL (Zo acc)).map fun k=>.tup [lnD k,vC ((ZN acc k).getD (0,[]))]
theorem Zfm {acc:List Ent} {k:List At} (h:k∈ZaT ltL (Zo acc)):∃ p,ZN acc k=some p:=by
 have hm:=(Zag ltL (Zo acc)).mem_iff.mp h
 cases hl:ZN acc k with
 | some p=>exact ⟨p,rfl⟩
 | none=>exact absurd hm (lookA_none.mp hl)
theorem ZkL (v:Int×List Int->D) (acc:List Ent):((acc.map (ZO v)).map fun p=>kD p.1)=(Zo acc).map lnD:=by
 unfold Zo
 rw [Qbw,Qbw];rfl
theorem Ziq (v:Int×List Int->D) {acc:List Ent} {k:List At} {p:Int×List Int} (h:ZN acc k=some p):ZbD (.lst (ZJ (acc.map (ZO v))) true) (lnD k)=some (v p):=by
 rw [ZfG,ZjW]
 show (if Zbv (.tup k) (acc.map (ZO v))=true then _ else _)=_
 rw [if_pos (Zin v k acc),ZbJ,h];rfl
theorem ZcX {Ls:List (List (List At))} {g:List Nat} (h:Axs Ls g) (hz:Ls.length<=4) (rows:List (List At×Int)) (hr:∀ r∈rows,Spot Ls r.1) (hl:rows.length<64):Zdi [.val (.lst (Ls.map ldD)),.val (.lst (rows.map Zcm)),.val (grD g)]=some (.own (ZaG (Zae Ls g rows [])))/\AccOk (Zae Ls g rows []) Ls.length rows.length:=by
 obtain ⟨ok,a,b,c,e⟩:=ZfU h hz (.val (.lst (rows.map Zcm))) rows [] 0 .no .no .no hr ⟨by simp [Zo],by simp,by simp [szA],fun k hk=>nomatch hk⟩ (by omega)
 rw [Nat.zero_add] at ok
 refine ⟨?_,ok⟩
 generalize Zae Ls g rows []=acc at *
 have hkl:(Zo acc).length<64:=by unfold Zo;rw [Qaz];have:=ok.len;omega
 have hs:=Zjb (Zo acc) hkl fun l hl=>by rw [ok.kl l hl];omega
 rw [<- ZkL vL] at hs
 have hc:=ZaL (b:=Zm 0) (e:=ZdD) (ρ:=[.no,.lent (ZJ (acc.map (ZO vL))) true]) lnD (fun k=>.tup [lnD k,vC ((ZN acc k).getD (0,[]))]) (ZaT ltL (Zo acc)) fun k hk=>⟨[.val (lnD k),.lent (ZJ (acc.map (ZO vL))) true],rfl,by
  obtain ⟨p,hp⟩:=Zfm hk
  have e1:=Ziq vL hp
  have e2:=Zie p.1 p.2 (by have:=Zit hp;have:=ok.sz;omega)
  have q:Zu (some [lnD k,vC p])=some [lnD k,vC p]:=ZK _ (by simp)
  rw [hp]
  simp only [ZdD,Zs,Zb,Zk,Zz,Zf,rdP,rdV,Qaf,Qad,Qah,QaA,e1,e2,ZaY,q,Option.getD]⟩
 have q1:=ZK ((ZaT ltL (Zo acc)).map lnD) (by rw [Qaz,(Zag _ _).length_eq];omega)
 have hun:=ZfK (acc.map (ZO vL))
 have h0:dcS vL []=.own [] true:=rfl
 rw [h0] at e
 unfold dcS at e
 unfold ZaG
 refine Zav rfl ?_
 generalize (ZaT ltL (Zo acc)).map (fun k=>D.tup [lnD k,vC ((ZN acc k).getD (0,[]))])=T at *
 generalize (ZaT ltL (Zo acc)).map lnD=W at *
 generalize acc.map (ZO vL)=KV at *
 generalize rows.map Zcm=R at *
 generalize Ls.map ldD=L at *
 show Zdk [.val (.lst L),.val (.lst R),.val (grD g),.no,.no,.no,.no]=_
 have hin:∀ x y z,ZT 1 [3] [.val (.lst L),.val (.lst R),.val (grD g),.own (ZJ KV) true,x,y,z]=[.no,.lent (ZJ KV) true]:=fun _ _ _=>rfl
 simp only [Zdk,Zh,Zen,ZaW,rdQ,ZX,Zbm,ZQ,hin,ZgX,rdP,ZR,Qaf,Qad,Qap,Qan,Qah,QaA,e,hun,hs,q1,hc]
theorem ZgU {ws:List Int} (hl:ws.length=24) (i:Nat) (hi:i<24):ixD (.lst (ws.map D.int)) (.int (i:Int))=some (.int (ws.getD i 0)):=by
 show atI (ws.map D.int) (i:Int)=_
 have:=Zeg (xs:=ws) (i:=(i:Int)) (by omega) (by omega)
 simpa using this
theorem ZnT (ns:List Int) (s1 s4:Sl) (k:Nat) (Ls:List (List (List At))) (hk:k<10) (hz:Ls.length<100):∃ ls s4',Lad ls/\ZbP [.val (.lst (ns.map D.int)),s1,.own (Ls.map ldD),.val (.int (k:Int)),s4]=.next [.val (.lst (ns.map D.int)),s1,.own ((Ls++[ls]).map ldD),.val (.int (k:Int)),s4']:=by
 have h1:=Zcb (.val (.lst (ns.map D.int))) ns (.inl rfl) (1+(k:Int)) (by omega)
 generalize ns.getD (1+(k:Int)).toNat 0=c at *
 obtain ⟨ws,h2,hl,hp⟩:=Zgq c (k:Int)
 have i20:=ZgU hl 20 (by omega)
 have i21:=ZgU hl 21 (by omega)
 generalize ws.getD 20 0=y at *
 generalize ws.getD 21 0=z at *
 obtain ⟨a,ea,ha⟩:=Zde y 8 (by omega)
 obtain ⟨b,eb,hb⟩:=Zde z 4 (by omega)
 obtain ⟨ls,hL,h3⟩:=Zn7 c (1+a) (1+b) (by omega) (by omega) (by omega) (by omega)
 have e1:Zx (.int 1) (.int (k:Int))=some (.int (1+(k:Int))):=rfl
 have m1:=Zax y 8 (by omega)
 have m2:=Zax z 4 (by omega)
 have e2:Zx (.int 1) (.int (y%8))=some (.int ((1+a:Nat):Int)):=by
  show some (D.int (1+y%8))=_
  rw [show y%8=(a:Int) from ea];rfl
 have e3:Zx (.int 1) (.int (z%4))=some (.int ((1+b:Nat):Int)):=by
  show some (D.int (1+z%4))=_
  rw [show z%4=(b:Int) from eb];rfl
 have hlen:(Ls.map ldD).length<Qaj:=by rw [Qaz];exact Qay hz (by decide)
 refine ⟨ls,.val (.lst (ws.map D.int)),hL,?_⟩
 rw [Qbs,List.map_singleton]
 unfold ldD at *
 generalize (Ls.map fun ls=>D.lst (ls.map lnD))=L at *
 generalize ls.map lnD=l at *
 generalize ns.map D.int=N at *
 generalize ws.map D.int=W at *
 have c20:ixD (.lst W) (.int 20)=some (.int y):=i20
 have c21:ixD (.lst W) (.int 21)=some (.int z):=i21
 simp only [ZbP,Zh,ZP,ZbO,Zs,Zf,Zb,Zk,rdA,rdP,rdO,Qaf,Qad,Qap,Qan,Qah,QaA,e1,h1,ZaY,h2,c20,c21,m1,m2,e2,e3,h3,ZgW,hlen,if_true]
theorem ZjC (ns:List Int) (s1:Sl):∀ (n k:Nat) (Ls:List (List (List At))) (s3 s4:Sl),(∀ ls∈Ls,Lad ls)->k+n<=10->Ls.length+n<100->∃ (Ls':List (List (List At))) (s3' s4':Sl),(∀ ls∈Ls',Lad ls)/\Ls'.length=Ls.length+n/\Z7 (Zm 3) ZbP ((Qcm k n).map fun (k:Nat)=>D.int (k:Int)) [.val (.lst (ns.map D.int)),s1,.own (Ls.map ldD),s3,s4]=.next [.val (.lst (ns.map D.int)),s1,.own (Ls'.map ldD),s3',s4']
 | 0,k,Ls,s3,s4,h,_,_=>⟨Ls,s3,s4,h,rfl,rfl⟩
 | n+1,k,Ls,s3,s4,h,hk,hz=>by
  obtain ⟨ls,t4,hL,e1⟩:=ZnT ns s1 s4 k Ls (by omega) (by omega)
  obtain ⟨Ls',a,b,h',hl',e2⟩:=ZjC ns s1 n (k+1) (Ls++[ls]) (.val (.int (k:Int))) t4 (fun m hm=>by
   rcases List.mem_append.mp hm with hm | hm
   ·exact h m hm
   ·simp at hm;subst hm;exact hL) (by omega) (by simp;omega)
  refine ⟨Ls',a,b,h',by rw [hl'];simp;omega,?_⟩
  simp only [QcX,Qai,Z7,Zm,Qap,Qan,e1,e2]
theorem ZmF (ns:List Int):∃ Ls:List (List (List At)),(∀ ls∈Ls,Lad ls)/\0<Ls.length/\Ls.length<=4/\ZdA [.val (.lst (ns.map D.int))]=some (.own (Ls.map ldD)):=by
 have h0:ZF [.val (.lst (ns.map D.int)),.val (.int 0)]=some (.val (.int (ns.getD 0 0))):=Zcb (.val (.lst (ns.map D.int))) ns (.inl rfl) 0 (by omega)
 generalize ns.getD 0 0=c at *
 obtain ⟨n,hn,hn0,hn4⟩:∃ n:Nat,(1+c%3+(if c%12=5 then 1 else 0):Int)=(n:Int)/\0<n/\n<=4:=⟨(1+c%3+(if c%12=5 then 1 else 0):Int).toNat,by split<;>omega,by split<;>omega,by split<;>omega⟩
 obtain ⟨Ls,a,b,hL,hl,e⟩:=ZjC ns (.val (.int c)) n 0 [] .no .no (fun _ h=>nomatch h) (by omega) (by simp;omega)
 refine ⟨Ls,hL,by rw [hl];simp;omega,by rw [hl];simp;omega,?_⟩
 have hr:=Zcx n (by omega)
 rw [<- QcY] at e
 have m1:=Zax c 3 (by omega)
 have m2:=Zax c 12 (by omega)
 have e1:Zx (.int 1) (.int (c%3))=some (.int (1+c%3)):=rfl
 have e2:eqO (.int (c%12)) (.int 5)=some (.bl (decide (c%12=5))):=by simp
 have e3:ZmI [.bl (decide (c%12=5))]=some (.int (if c%12=5 then 1 else 0)):=by
  by_cases h:c%12=5<;>simp [h]
 have e4:Zx (.int (1+c%3)) (.int (if c%12=5 then 1 else 0))=some (.int (n:Int)):=by
  show some (D.int (1+c%3+(if c%12=5 then 1 else 0)))=_
  rw [hn]
 have hsh0:Zu (some ([]:List D))=some []:=rfl
 refine Zav rfl ?_
 generalize Ls.map ldD=L at *
 generalize ns.map D.int=N at *
 show Zcv [.val (.lst N),.no,.no,.no,.no]=_
 rw [Qa3] at e
 simp only [Zcv,Zey,Zer,Zem,Zeo,Zee,Zel,Zej,Zeq,Zh,ZP,Zba,ZaW,Zs,ZH,pks,pk,Zf,Zb,Zk,Zz,rdA,rdP,rdO,Zbm,Qaf,Qad,Qap,Qan,Qah,QaA,h0,ZaY,hsh0,m1,m2,e1,e2,e3,e4,hr,e]
def ZdI (ws:List Int):Nat->List (List (List At))->List At
 | _,[]=>[]
 | k,ls::Ls=>hd0 (ls.getD (ws.getD k 0%(ls.length:Int)).toNat [])::ZdI ws (k+1) Ls
theorem ZkT (ws:List Int):∀ (k:Nat) (Ls:List (List (List At))),(∀ ls∈Ls,Lad ls)->Spot Ls (ZdI ws k Ls)
 | _,[],_=>.nil
 | k,ls::Ls,h=>by
  have hL:=h ls Qam
  obtain ⟨a,ea,ha⟩:=Zde (ws.getD k 0) ls.length hL.ne
  refine .cons ?_ (ZkT ws (k+1) Ls fun m hm=>h m (Qag _ hm))
  rw [ea,Qbz]
  refine List.mem_map_of_mem ?_
  have:ls.getD a []=ls[a]:=by simp [Qbh,ha]
  rw [this];exact Qbd _
theorem ZiF (ws:List Int):∀ (i k:Nat) (Ls:List (List (List At))) (ls:List (List At)),Ls[i]?=some ls->(ZdI ws k Ls)[i]?=some (hd0 (ls.getD (ws.getD (k+i) 0%(ls.length:Int)).toNat []))
 | _,_,[],_,h=>by simp at h
 | 0,k,m::Ls,ls,h=>by simp at h;subst h;rfl
 | i+1,k,m::Ls,ls,h=>by
  have:=ZiF ws i (k+1) Ls ls (by simpa using h)
  rw [show k+1+i=k+(i+1) by omega] at this
  simpa [ZdI] using this
theorem ZnP (a c:Int):CMul a (1-2 * (c%2)):=by
 have:c%2=0\/c%2=1:=by omega
 right
 rcases this with h | h<;>rw [h]<;>decide
theorem Ztr (cell:Int) (place:Nat) (Ls:List (List (List At))) (hL:∀ ls∈Ls,Lad ls) (hz:Ls.length<=4):∃ r:List At×Int,Spot Ls r.1/\Zf3 [.val (.int cell),.val (.int (place:Int)),.val (.lst (Ls.map ldD))]=some (.val (Zcm r)):=by
 obtain ⟨ws,h2,hl,hp⟩:=Zgq cell (place:Int)
 have hsp:=ZkT ws 0 Ls hL
 have hc:=ZfC (e:=ZeR) [.val (.lst (ws.map D.int))] ldD Ls 0 ((ZdI ws 0 Ls).map aD) (by rw [Qaz,hsp.len]) fun i ls y e1 e2=>by
  rw [Qa1,ZiF ws i 0 Ls ls e1] at e2
  cases e2
  rw [Nat.zero_add]
  have hi:i<Ls.length:=(List.getElem?_eq_some_iff.mp e1).1
  have hLs:=hL ls (QcR e1)
  have a1:=ZgU hl i (by omega)
  generalize ws.getD i 0=v at *
  obtain ⟨a,ea,ha⟩:=Zde v ls.length hLs.ne
  have a2:=Zax v (ls.length:Int) (by have:=hLs.ne;omega)
  rw [ea] at a2 ⊢
  rw [Qbz]
  have hg:ls.getD a []=ls[a]:=by simp [Qbh,ha]
  have a3:ixD (ldD ls) (.int (a:Int))=some (lnD ls[a]):=by
   show atI (ls.map lnD) (a:Int)=_
   exact ZbL (by simp [ha])
  have a4:=Zqo ls[a] (hLs.some _ (Qbd _))
  have a5:Za7 [ldD ls]=some (.int (ls.length:Int)):=by simp
  rw [hg]
  generalize ls[a]=l at *
  generalize ws.map D.int=W at *
  generalize ldD ls=LD at *
  simp only [ZeR,Zf,ZH,pks,pk,Zb,rdA,rdP,Qaf,Qad,Qah,QaA,a1,a2,a3,a4,a5]
 have q1:Zu (some (ZaD 0 (Ls.map ldD)))=some (ZaD 0 (Ls.map ldD)):=ZK _ (by rw [Zds];simp;omega)
 have i5:=ZgU hl 5 (by omega)
 have i6:=ZgU hl 6 (by omega)
 have i7:=ZgU hl 7 (by omega)
 have m5:=Zax (ws.getD 5 0) 2 (by omega)
 have m6:=Zax (ws.getD 6 0) 2 (by omega)
 have m7:=Zax (ws.getD 7 0) 7 (by omega)
 have mm:=ZcW (ZnP (cell%10^30) (ws.getD 5 0))
 generalize ws.getD 5 0=y5 at *
 generalize ws.getD 6 0=y6 at *
 generalize ws.getD 7 0=y7 at *
 have c5:ixD (.lst (ws.map D.int)) (.int 5)=some (.int y5):=i5
 have c6:ixD (.lst (ws.map D.int)) (.int 6)=some (.int y6):=i6
 have c7:ixD (.lst (ws.map D.int)) (.int 7)=some (.int y7):=i7
 have pw:Znt (.int 10) (.int 30)=some (.int (10^30)):=by simp [Zft]
 have m0:=Zax cell (10^30) (by decide)
 have k1:=ZcW (x:=2) (y:=y5%2) (.inl (by decide))
 have k2:Zhb (.int 1) (.int (2 * (y5%2)))=some (.int (1-2 * (y5%2))):=rfl
 have k3:Zhb (.int (y7%7)) (.int 3)=some (.int (y7%7-3)):=rfl
 have k4:eqO (.int (y6%2)) (.int 1)=some (.bl (decide (y6%2=1))):=by simp
 refine ⟨(ZdI ws 0 Ls,if y6%2=1 then y7%7-3 else cell%10^30 * (1-2 * (y5%2))),hsp,Zav rfl ?_⟩
 have q2:∀ d,Zu (some [lnD (ZdI ws 0 Ls),d])=some [lnD (ZdI ws 0 Ls),d]:=fun d=>ZK _ (by simp)
 unfold Zcm lnD at *
 generalize (ZdI ws 0 Ls).map aD=S at *
 generalize ws.map D.int=W at *
 generalize Ls.map ldD=L at *
 generalize (10:Int)^30=T at *
 generalize cell%T=cT at *
 generalize cT * (1-2 * (y5%2))=am at *
 show Zdn [.val (.int cell),.val (.int (place:Int)),.val (.lst L),.no,.no,.no]=_
 have hin:ZT 2 [3] [.val (.int cell),.val (.int (place:Int)),.val (.lst L),.val (.lst W),.no,.no]=[.no,.no,.val (.lst W)]:=rfl
 by_cases hy:y6%2=1
 ·rw [decide_eq_true hy] at k4
  rw [if_pos hy]
  simp only [Zdn,ZeJ,ZeF,ZeO,ZeK,ZeI,ZeN,ZeD,ZeS,ZeM,ZeG,Zh,ZP,Z4,asB,ZS,Zs,ZH,Zbq,pks,pk,Zf,Zb,Zk,Zz,ZR,ZQ,ZcV,Zao,hin,rdQ,rdA,rdP,rdV,Qaf,Qad,Qap,Qan,Qah,QaA,h2,ZaY,q1,hc,pw,m0,c5,m5,k1,k2,mm,c6,m6,k4,c7,m7,k3,q2]
 ·rw [decide_eq_false hy] at k4
  rw [if_neg hy]
  simp only [Zdn,ZeJ,ZeF,ZeO,ZeK,ZeI,ZeN,ZeD,ZeS,ZeM,ZeG,Zh,ZP,Z4,asB,ZS,Zs,ZH,Zbq,pks,pk,Zf,Zb,Zk,Zz,ZR,ZQ,ZcV,Zao,hin,rdQ,rdA,rdP,rdV,Qaf,Qad,Qap,Qan,Qah,QaA,h2,ZaY,q1,hc,pw,m0,c5,m5,k1,k2,mm,c6,m6,k4,q2]
theorem ZiP (Ls:List (List (List At))) (hL:∀ ls∈Ls,Lad ls) (hz:Ls.length<=4):∀ (cs:List Int) (k:Nat),∃ rows:List (List At×Int),rows.length=cs.length/\(∀ r∈rows,Spot Ls r.1)/\Z8 (Zaf 2 (Zy (Zm 0) (Zy (Zm 1) Zam))) (fun _=>some true) ZcQ [.no,.no,.val (.lst (Ls.map ldD))] (ZaD k (cs.map D.int))=some (rows.map Zcm)
 | [],_=>⟨[],rfl,(fun _ h=>nomatch h),rfl⟩
 | c::cs,k=>by
  obtain ⟨rows,h1,h2,h3⟩:=ZiP Ls hL hz cs (k+1)
  obtain ⟨r,h4,h5⟩:=Ztr c k Ls hL hz
  refine ⟨r::rows,by simp [h1],fun q hq=>?_,?_⟩
  ·rcases Qbk.mp hq with rfl | hq
   ·exact h4
   ·exact h2 q hq
  ·have e:ZcQ [.val (.int (k:Int)),.val (.int c),.val (.lst (Ls.map ldD))]=some (Zcm r):=by
    generalize Ls.map ldD=L at *
    simp only [ZcQ,Zs,Zb,rdA,Qaf,Qad,Qah,QaA,h5,ZaY]
   simp only [Qai,ZaD,Z8,Zaf,Zy,Zm,Zam,QaK,Qbb,if_true,Qap,Qan,Qah,e,h3,Zb]
theorem ZlG (ns:List Int) (hl:ns.length<=63) (Ls:List (List (List At))) (hL:∀ ls∈Ls,Lad ls) (hz:Ls.length<=4):∃ rows:List (List At×Int),rows.length<64/\(∀ r∈rows,Spot Ls r.1)/\Zfu [.val (.lst (ns.map D.int)),.val (.lst (Ls.map ldD))]=some (.own (rows.map Zcm)):=by
 have h5:ZF [.val (.lst (ns.map D.int)),.val (.int 5)]=some (.val (.int (ns.getD 5 0))):=Zcb (.val (.lst (ns.map D.int))) ns (.inl rfl) 5 (by omega)
 generalize ns.getD 5 0=c at *
 obtain ⟨n,en,hn⟩:=Zde c 6 (by omega)
 have hcut:Zcl (ns.map D.int) (some 7) (some 67)=((ns.drop 7).take 60).map D.int:=by rw [ZjY,ZrJ _ _ _ (by omega) (by omega)];rfl
 have hcl:((ns.drop 7).take 60).length<=57:=by simp;omega
 generalize (ns.drop 7).take 60=as at *
 have hr:=Zcx n (by omega)
 have hc1:=ZaL (b:=Zm 0) (e:=ZdW) (ρ:=[.no,.val (.int c)]) (fun (k:Nat)=>D.int (k:Int)) (fun (k:Nat)=>D.int (c / 6+7 * (k:Int))) (Qaw n) fun k hk=>⟨[.val (.int (k:Int)),.val (.int c)],rfl,by
  have m1:=ZcW (x:=7) (y:=(k:Int)) (.inl (by decide))
  have d1:ZaF (.int c) (.int 6)=some (.int (c / 6)):=by
   show (if ZaR c 6 then some (D.int (c / 6)) else none)=_
   rw [if_pos ⟨by decide,by decide⟩]
  have a1:Zx (.int (c / 6)) (.int (7 * (k:Int)))=some (.int (c / 6+7 * (k:Int))):=rfl
  simp only [ZdW,Zf,rdP,Qaf,Qad,Qah,m1,d1,a1]⟩
 have q0:=ZK ((Qaw n).map fun (k:Nat)=>D.int (k:Int)) (by simp;omega)
 have hadd:=ZkZ (as.map D.int) ((Qaw n).map fun (k:Nat)=>D.int (c / 6+7 * (k:Int))) (by simp;omega)
 have ecs:as.map D.int++(Qaw n).map (fun (k:Nat)=>D.int (c / 6+7 * (k:Int)))=(as++(Qaw n).map fun (k:Nat)=>c / 6+7 * (k:Int)).map D.int:=by
  rw [Qbs,Qbw];rfl
 rw [ecs] at hadd
 have hcl2:(as++(Qaw n).map fun (k:Nat)=>c / 6+7 * (k:Int)).length<=62:=by simp;omega
 generalize (as++(Qaw n).map fun (k:Nat)=>c / 6+7 * (k:Int))=cs at *
 obtain ⟨rows,h1,h2,h3⟩:=ZiP Ls hL hz cs 0
 refine ⟨rows,by omega,h2,Zav rfl ?_⟩
 have q1:Zu (some (ZaD 0 (cs.map D.int)))=some (ZaD 0 (cs.map D.int)):=ZK _ (by rw [Zds];simp;omega)
 have m1:=Zax c 6 (by omega)
 have en':c%6=(n:Int):=en
 rw [en'] at m1
 generalize rows.map Zcm=R at *
 generalize cs.map D.int=C at *
 generalize ((Qaw n).map fun (k:Nat)=>D.int (k:Int))=RG at *
 generalize ((Qaw n).map fun (k:Nat)=>D.int (c / 6+7 * (k:Int)))=RH at *
 generalize as.map D.int=A at *
 generalize ns.map D.int=N at *
 generalize Ls.map ldD=L at *
 show ZdO [.val (.lst N),.val (.lst L),.no,.no]=_
 have hin1:ZT 1 [2] [.val (.lst N),.val (.lst L),.val (.int c),.no]=[.no,.val (.int c)]:=rfl
 have hin2:ZT 2 [1] [.val (.lst N),.val (.lst L),.val (.int c),.val (.lst C)]=[.no,.no,.val (.lst L)]:=rfl
 simp only [ZdO,Zh,ZP,Zbm,Zs,ZQ,ZcV,Zao,hin1,hin2,sl3,slD,asI,Zf,Zb,Zk,Zz,ZR,rdQ,rdA,rdP,Qaf,Qad,Qap,Qan,Qah,QaA,h5,ZaY,m1,hr,q0,hc1,hcut,hadd,q1,h3]
def dv (k:Nat):Int:=[1,5,25,125].getD k 1
theorem Zud (k:Nat) (h:k<4):atI [D.int 1,.int 5,.int 25,.int 125] (k:Int)=some (.int (dv k))/\ZaR 0 (dv k):=by
 match k,h with
 | 0,_=>exact ⟨rfl,by decide,by decide⟩
 | 1,_=>exact ⟨rfl,by decide,by decide⟩
 | 2,_=>exact ⟨rfl,by decide,by decide⟩
 | 3,_=>exact ⟨rfl,by decide,by decide⟩
theorem Zm1 (c:Int) (s1:Sl) (k:Nat) (hk:k<4) (ls:List (List At)) (hL:Lad ls) (g:List Nat) (hg:g.length<100):∃ j:Nat,(∀ l∈ls,j<=l.length)/\Zcu [.val (.int c),s1,.own (g.map fun (j:Nat)=>D.int (j:Int)),.val (.int (k:Int)),.val (ldD ls)]=.next [.val (.int c),s1,.own ((g++[j]).map fun (j:Nat)=>D.int (j:Int)),.val (.int (k:Int)),.val (ldD ls)]:=by
 obtain ⟨p,hp0,hp4,hp⟩:=hL.lw
 obtain ⟨l,ls',rfl⟩:∃ l ls',ls=l::ls':=by
  cases ls with
  | nil=>have:=hL.ne;simp at this
  | cons l ls'=>exact ⟨l,ls',rfl⟩
 have hpl:=hp l Qam
 obtain ⟨d1,d2⟩:=Zud k hk
 generalize dv k=dk at *
 obtain ⟨j,ej,hj⟩:=Zde (c / dk) (p+1) (by omega)
 refine ⟨j,fun m hm=>by rw [hp m hm];omega,?_⟩
 have f1:ZaF (.int c) (.int dk)=some (.int (c / dk)):=by
  show (if ZaR c dk then some (D.int (c / dk)) else none)=_
  rw [if_pos (show ZaR c dk from d2)]
 have f2:ixD (ldD (l::ls')) (.int 0)=some (lnD l):=by
  show atI ((l::ls').map lnD) 0=_
  exact Zld _ _
 have f3:Za7 [lnD l]=some (.int (p:Int)):=by simp [lnD,hpl]
 have f4:Zx (.int (p:Int)) (.int 1)=some (.int ((p:Int)+1)):=rfl
 have f5:=Zax (c / dk) ((p:Int)+1) (by omega)
 have ej':c / dk%((p:Int)+1)=(j:Int):=by
  have e:((p+1:Nat):Int)=(p:Int)+1:=by omega
  rw [e] at ej;exact ej
 rw [ej'] at f5
 have hlen:(g.map fun (j:Nat)=>D.int (j:Int)).length<Qaj:=by rw [Qaz];exact Qay hg (by decide)
 have q:Zu (some [D.int 1,.int 5,.int 25,.int 125])=some [D.int 1,.int 5,.int 25,.int 125]:=ZK _ (by simp)
 have f6:ixD (.lst [D.int 1,.int 5,.int 25,.int 125]) (.int (k:Int))=some (.int dk):=d1
 rw [Qbs,List.map_singleton]
 generalize (g.map fun (j:Nat)=>D.int (j:Int))=G at *
 generalize ldD (l::ls')=LD at *
 simp only [Zcu,Zh,ZbO,ZH,pks,pk,Zf,Zb,Zk,Zz,ZR,rdA,rdP,rdO,Qaf,Qad,Qap,Qan,Qah,QaA,q,f6,f1,f2,f3,f4,f5,hlen,if_true]
theorem ZiU (c:Int) (s1:Sl):∀ (Ls:List (List (List At))) (k:Nat) (g:List Nat) (s3 s4:Sl),(∀ ls∈Ls,Lad ls)->k+Ls.length<=4->g.length+Ls.length<100->∃ (g':List Nat) (s3' s4':Sl),Axs Ls g'/\Z7 (Zaf 2 (Zy (Zm 3) (Zy (Zm 4) Zam))) Zcu (ZaD k (Ls.map ldD)) [.val (.int c),s1,.own (g.map fun (j:Nat)=>D.int (j:Int)),s3,s4]=.next [.val (.int c),s1,.own ((g++g').map fun (j:Nat)=>D.int (j:Int)),s3',s4']
 | [],_,g,s3,s4,_,_,_=>⟨[],s3,s4,.nil,by rw [Qa9];rfl⟩
 | ls::Ls,k,g,s3,s4,h,hk,hz=>by
  simp only [QaK] at hk hz
  have hL:=h ls Qam
  obtain ⟨j,hj,e1⟩:=Zm1 c s1 k (by omega) ls hL g (by omega)
  obtain ⟨g',a,b,hA,e2⟩:=ZiU c s1 Ls (k+1) (g++[j]) (.val (.int (k:Int))) (.val (ldD ls)) (fun m hm=>h m (Qag _ hm)) (by omega) (by simp;omega)
  refine ⟨j::g',a,b,.cons hL hj hA,?_⟩
  simp only [Qai,ZaD,Z7,Zaf,Zy,Zm,Zam,QaK,Qbb,if_true,Qap,Qan,Qah]
  rw [e1]
  simp only [e2,QbE,List.singleton_append]
theorem ZjL (c:Int) (Ls:List (List (List At))) (hL:∀ ls∈Ls,Lad ls) (hz:Ls.length<=4):∃ g,Axs Ls g/\Zdj [.val (.int c),.val (.lst (Ls.map ldD))]=some (.val (grD g)):=by
 obtain ⟨g,a,b,hA,e⟩:=ZiU c (.val (.lst (Ls.map ldD))) Ls 0 [] .no .no hL (by omega) (by simp;omega)
 refine ⟨g,hA,Zav rfl ?_⟩
 rw [QcC,Qa3] at e
 have hsh0:Zu (some ([]:List D))=some []:=rfl
 unfold grD
 generalize (g.map fun (j:Nat)=>D.int (j:Int))=G at *
 generalize Ls.map ldD=L at *
 show Zdl [.val (.int c),.val (.lst L),.no,.no,.no]=_
 simp only [Zdl,Zh,Zba,ZaW,ZS,ZcV,Zao,ZH,Zbq,pks,pk,Zb,Zz,rdQ,rdA,Qaf,Qad,Qap,Qan,Qah,QaA,hsh0,e]
theorem Znw (x:Int) (xs:List Int):cel x xs=lnD [.int ((xs.length+1:Nat):Int),.int ((x::xs).sum),.int (xs.foldl mn x),.int (xs.foldl mx x)]:=rfl
theorem ZqR (s0:Sl) (k:List At) (hk:k.length<=1000) (x:Int) (xs:List Int):ZbC [s0,.val (.tup [lnD k,cel x xs])]=.next [s0,.val (.tup [lnD k,cel x xs])]:=by
 rw [Znw]
 generalize hcc:([.int ((xs.length+1:Nat):Int),.int ((x::xs).sum),.int (xs.foldl mn x),.int (xs.foldl mx x)]:List At)=cc
 have hcl:cc.length=4:=by rw [<- hcc];rfl
 have a1:isD [.tup [lnD k,lnD cc],.ty "tuple"]=some (.bl true):=by simp
 have a2:Za7 [.tup [lnD k,lnD cc]]=some (.int 2):=rfl
 have a3:neO (.int 2) (.int 2)=some (.bl false):=by simp
 have a4:ixD (.tup [lnD k,lnD cc]) (.int 0)=some (lnD k):=rfl
 have a5:ixD (.tup [lnD k,lnD cc]) (.int 1)=some (lnD cc):=rfl
 have a6:isD [lnD k,.ty "tuple"]=some (.bl true):=by simp [lnD]
 have a7:isD [lnD cc,.ty "tuple"]=some (.bl true):=by simp [lnD]
 have a8:Zx (lnD k) (lnD cc)=some (.tup ((k++cc).map aD)):=by
  unfold lnD
  rw [Zjy _ _ (by simp;omega),Qbs]
 have hc:=Zpk (C:=ZcC) (fun a=>by cases a<;>simp [ZcC,aD]) (k++cc)
 have han:=Zpa (k++cc)
 have q:=ZK ((k++cc).map aD) (by simp;omega)
 generalize ((k++cc).map fun _=>false).map D.bl=B at *
 generalize (k++cc).map aD=A at *
 have hin:ZT 1 [] [s0,.val (.tup [lnD k,lnD cc])]=[.no]:=rfl
 simp only [ZbC,Zh,Z4,orB,Zbu,ZaX,asB,ZH,pks,pk,Zf,Zb,Zk,ZR,ZQ,hin,ZX,rdA,rdP,Qaf,Qad,Qah,QaA,a1,a2,a3,a4,a5,a6,a7,a8,q,hc,han,Qcy]
theorem Zmv (s0:Sl):∀ (ts:List (List At×Int×List Int)) (s1:Sl),(∀ t∈ts,t.1.length<=1000)->∃ s1',Z7 (Zm 1) ZbC (ts.map fun t=>.tup [lnD t.1,cel t.2.1 t.2.2]) [s0,s1]=.next [s0,s1']
 | [],s1,_=>⟨s1,rfl⟩
 | t::ts,s1,h=>by
  obtain ⟨s1',e⟩:=Zmv s0 ts (.val (.tup [lnD t.1,cel t.2.1 t.2.2])) fun u hu=>h u (Qag _ hu)
  refine ⟨s1',?_⟩
  have e1:=ZqR s0 t.1 (h t Qam) t.2.1 t.2.2
  simp only [Qai,Z7,Zm,Qap,Qan,e1,e]
def tbE (acc:List Ent):List (List At×Int×List Int):=(ZaT ltL (Zo acc)).map fun k=>(k,(ZN acc k).getD (0,[]))
theorem ZmL (acc:List Ent):ZaG acc=(tbE acc).map fun t=>.tup [lnD t.1,cel t.2.1 t.2.2]:=by
 unfold ZaG tbE
 rw [Qbw];rfl
theorem Zte {acc:List Ent} {n m:Nat} (h:AccOk acc n m) (hn:n<=1000):(∀ t∈tbE acc,t.1.length<=1000)/\(tbE acc).length<=m:=by
 refine ⟨fun t ht=>?_,?_⟩
 ·obtain ⟨k,hk,rfl⟩:=List.mem_map.mp ht
  have:=h.kl k ((Zag ltL _).mem_iff.mp hk)
  show k.length<=1000
  omega
 ·unfold tbE
  rw [Qaz,(Zag ltL _).length_eq]
  unfold Zo
  rw [Qaz];exact h.len
theorem Zlz {acc:List Ent} {n m:Nat} (h:AccOk acc n m) (hn:n<=1000) (hm:m<1000):Zc7 [.lent (ZaG acc)]=some (.val (.bl true)):=by
 obtain ⟨h1,h2⟩:=Zte h hn
 rw [ZmL]
 obtain ⟨s',e⟩:=Zmv (.lent ((tbE acc).map fun t=>D.tup [lnD t.1,cel t.2.1 t.2.2])) (tbE acc) .no h1
 generalize ((tbE acc).map fun t=>D.tup [lnD t.1,cel t.2.1 t.2.2])=T at *
 have a1:isD [.lst T,.ty "list"]=some (.bl true):=by simp
 refine Zav rfl ?_
 show Zch [.lent T,.no]=_
 simp only [Zch,Zh,Z4,Zbu,ZaX,ZaW,ZS,ZH,pks,pk,Zb,Zk,ZX,rdA,rdQ,Qaf,Qad,Qah,QaA,a1,e,Qcy]
theorem ZkH {d:D} (h:okD 12 d=true):eqO d d=some (.bl true)/\neO d d=some (.bl false):=by
 have h2:=Zko 12 d h
 simp only [eqO,neO,Zfd,h,h2,Qci,if_true,Qcy,and_self]
theorem Zl2 (acc:List Ent):okD 12 (.lst (ZaG acc))=true:=by
 rw [ZmL]
 show ((tbE acc).map _).all (okD 11)=true
 rw [List.all_map,Qct]
 intro t _
 show [lnD t.1,cel t.2.1 t.2.2].all (okD 10)=true
 rw [Znw]
 simp only [Qc0,List.all_nil,Zih 9,Qci]
def Zah (acc:List Ent):List (List At×Int):=acc.flatMap fun e=>(e.2.1::e.2.2).map fun x=>(e.1,x)
theorem Zbw (e:Ent) (r:List Ent):Zah (e::r)=(e.2.1::e.2.2).map (fun x=>(e.1,x))++Zah r:=by simp [Zah]
def Zar:List Ent->List At->Int->List Int->List Ent
 | [],k,x,xs=>[(k,x,xs)]
 | e::r,k,x,xs=>if e.1=k then (e.1,e.2.1,e.2.2++x::xs)::r else e::Zar r k x xs
theorem ZoD (k:List At) (x:Int):∀ acc:List Ent,Zat acc k x=Zar acc k x []
 | []=>rfl
 | e::r=>by unfold Zat Zar;rw [ZoD k x r]
theorem ZgA (k:List At) (x:Int) (xs:List Int):∀ acc:List Ent,(Zah (Zar acc k x xs)).Perm ((x::xs).map (fun y=>(k,y))++Zah acc)
 | []=>by simp [Zar,Zah]
 | e::r=>by
  unfold Zar
  by_cases c:e.1=k
  ·rw [if_pos c,Zbw,Zbw]
   subst c
   show ((e.2.1::(e.2.2++x::xs)).map (fun y=>(e.1,y))++Zah r).Perm _
   rw [show e.2.1::(e.2.2++x::xs)=(e.2.1::e.2.2)++(x::xs) by simp,Qbs,<- QbE]
   exact List.perm_append_comm.append_right _
  ·rw [if_neg c,Zbw,Zbw]
   refine ((ZgA k x xs r).append_left _).trans ?_
   rw [<- QbE,<- QbE]
   exact List.perm_append_comm.append_right _
theorem Zgt (k:List At) (x:Int) (xs:List Int):∀ acc:List Ent,Zo (Zar acc k x xs)=if k∈Zo acc then Zo acc else Zo acc++[k]
 | []=>rfl
 | e::r=>by
  have ih:=Zgt k x xs r
  unfold Zar
  by_cases c:e.1=k
  ·rw [if_pos c];simp [Zo,c]
  ·rw [if_neg c]
   have:Zo (e::Zar r k x xs)=e.1::Zo (Zar r k x xs):=rfl
   have hke:Zo (e::r)=e.1::Zo r:=rfl
   rw [this,ih,hke]
   by_cases m:k∈Zo r
   ·rw [if_pos m,if_pos (Qag _ m)]
   ·rw [if_neg m,if_neg (by simp [Zo,QaD c] at m ⊢;exact m)];rfl
theorem Zhz {k:List At} {x:Int} {xs:List Int} {acc:List Ent} (h:(Zo acc).Nodup):(Zo (Zar acc k x xs)).Nodup:=by
 rw [Zgt]
 split
 ·exact h
 ·next m=>exact List.nodup_append.mpr ⟨h,by simp,fun a ha b hb=>by simp at hb;subst hb;exact fun e=>m (e ▸ ha)⟩
theorem Zkq (k:List At) (x:Int) (xs:List Int):∀ acc:List Ent,(Zar acc k x xs).length<=acc.length+1
 | []=>by simp [Zar]
 | e::r=>by
  have:=Zkq k x xs r
  unfold Zar
  split<;>simp<;>omega
theorem Zlf (v:Int×List Int->D) {k:List At} {x:Int} {xs:List Int} {p:Int×List Int}:∀ {acc:List Ent},(Zo acc).Nodup->ZN acc k=some p->Zbz (acc.map (ZO v)) (.tup k) (v (p.1,p.2++x::xs))=(Zar acc k x xs).map (ZO v)
 | e::r,hn,h=>by
  simp only [Zo,Qai,QbW] at hn
  unfold ZN at h
  by_cases c:e.1=k
  ·rw [if_pos c] at h;cases h
   have hr:ZL (r.map (ZO v)) (.tup k)=none:=by
    rw [ZbJ,lookA_none.mpr (c ▸ hn.1)];rfl
   simp only [Qai,Zbz,Zar,ZO,c,if_true,Zhm hr,KT.tup.injEq]
  ·rw [if_neg c] at h
   have ih:=Zlf v (x:=x) (xs:=xs) hn.2 h
   simp only [Qai,Zbz,Zar,ZO,c,if_false,KT.tup.injEq]
   rw [ih]
theorem Zkj {k:List At} {x:Int} {xs:List Int}:∀ {acc:List Ent},ZN acc k=none->Zar acc k x xs=acc++[(k,x,xs)]
 | [],_=>rfl
 | e::r,h=>by
  unfold ZN at h
  by_cases c:e.1=k
  ·rw [if_pos c] at h;cases h
  ·rw [if_neg c] at h
   unfold Zar
   rw [if_neg c,Zkj h];rfl
theorem Zqd (v:Int×List Int->D) {k:List At} {x:Int} {xs:List Int} {p:Int×List Int} {acc:List Ent} (hn:(Zo acc).Nodup) (h:ZN acc k=some p):Zak (acc.map (ZO v)) (.tup k) (v (p.1,p.2++x::xs))=(Zar acc k x xs).map (ZO v):=by
 unfold Zak
 rw [ZbJ,h]
 exact Zlf v hn h
theorem Zps (v:Int×List Int->D) {k:List At} {x:Int} {xs:List Int} {acc:List Ent} (h:ZN acc k=none):Zak (acc.map (ZO v)) (.tup k) (v (x,xs))=(Zar acc k x xs).map (ZO v):=by
 unfold Zak
 rw [ZbJ,h,Zkj h]
 simp [ZO]
theorem ZpE {x y:Int} {xs ys:List Int} (h:(x::xs).Perm (y::ys)):cel x xs=cel y ys:=by
 have h1:=ZgB x xs
 have h2:=ZgB y ys
 have h3:Ends (x::xs) (ys.foldl mn y) (ys.foldl mx y):=⟨h.mem_iff.mpr h2.m1,fun a ha=>h2.m2 a (h.mem_iff.mp ha),h.mem_iff.mpr h2.M1,fun a ha=>h2.M2 a (h.mem_iff.mp ha)⟩
 obtain ⟨e1,e2⟩:=h1.uniq h3
 have e3:=ZjK h
 have e4:=h.length_eq
 simp only [QaK] at e4
 unfold cel
 rw [e1,e2,e3,show xs.length=ys.length by omega]
def Zdx (k:List At) (l:List (List At×Int)):List Int:=l.filterMap fun p=>if p.1=k then some p.2 else none
theorem Zmr (k:List At) (a b:List (List At×Int)):Zdx k (a++b)=Zdx k a++Zdx k b:=by simp [Zdx]
theorem Zkz (k:List At):∀ xs:List Int,Zdx k (xs.map fun x=>(k,x))=xs
 | []=>rfl
 | x::xs=>by
  have ih:=Zkz k xs
  unfold Zdx at ih ⊢
  simp only [Qai,QbI,if_true,ih]
theorem Zgc {k k':List At} (h:k'≠k):∀ xs:List Int,Zdx k (xs.map fun x=>(k',x))=[]
 | []=>rfl
 | x::xs=>by
  have ih:=Zgc h xs
  unfold Zdx at ih ⊢
  simp only [Qai,QbI,h,if_false,ih]
theorem ZjB {k:List At}:∀ {acc:List Ent},k∉Zo acc->Zdx k (Zah acc)=[]
 | [],_=>rfl
 | e::r,h=>by
  simp only [Zo,Qai,Qbk,not_or] at h
  rw [Zbw,Zmr,Zgc (QaD h.1),ZjB (acc:=r) h.2];rfl
theorem Zhj {k:List At} {p:Int×List Int}:∀ {acc:List Ent},(Zo acc).Nodup->ZN acc k=some p->Zdx k (Zah acc)=p.1::p.2
 | e::r,hn,h=>by
  simp only [Zo,Qai,QbW] at hn
  unfold ZN at h
  rw [Zbw,Zmr]
  by_cases c:e.1=k
  ·rw [if_pos c] at h;cases h
   subst c
   rw [Zkz,ZjB hn.1,Qa9]
  ·rw [if_neg c] at h
   rw [Zgc c,Zhj hn.2 h];rfl
theorem key_flat {k:List At}:∀ {acc:List Ent},k∈Zo acc↔∃ x,(k,x)∈Zah acc
 | []=>by simp [Zo,Zah]
 | e::r=>by
  have ih:=key_flat (k:=k) (acc:=r)
  rw [Zbw]
  have hke:Zo (e::r)=e.1::Zo r:=rfl
  rw [hke]
  constructor
  ·intro h
   rcases Qbk.mp h with rfl | h
   ·exact ⟨e.2.1,QbR _ (List.mem_map.mpr ⟨e.2.1,Qam,rfl⟩)⟩
   ·obtain ⟨x,hx⟩:=ih.mp h
    exact ⟨x,Qax _ hx⟩
  ·rintro ⟨x,h⟩
   rcases List.mem_append.mp h with h | h
   ·obtain ⟨y,_,e1⟩:=List.mem_map.mp h
    cases e1
    exact Qam
   ·exact Qag _ (ih.mpr ⟨x,h⟩)
theorem Zpw {acc acc':List Ent} (h1:(Zo acc).Nodup) (h2:(Zo acc').Nodup) (h:(Zah acc).Perm (Zah acc')):ZaG acc=ZaG acc':=by
 have hk:(Zo acc).Perm (Zo acc'):=(List.perm_ext_iff_of_nodup h1 h2).mpr fun k=>by
  rw [key_flat,key_flat]
  exact ⟨fun ⟨x,hx⟩=>⟨x,h.mem_iff.mp hx⟩,fun ⟨x,hx⟩=>⟨x,h.mem_iff.mpr hx⟩⟩
 have hs:ZaT ltL (Zo acc)=ZaT ltL (Zo acc'):=ZnO Zm9 ((Zag ltL _).trans hk) (ZgG Zm9 _)
 unfold ZaG
 rw [hs]
 refine List.map_congr_left fun k hk'=>?_
 obtain ⟨p',e'⟩:=Zfm hk'
 obtain ⟨p,e⟩:=Zfm (acc:=acc) (by rw [hs];exact hk')
 rw [e,e']
 have hp:(Zdx k (Zah acc)).Perm (Zdx k (Zah acc')):=h.filterMap _
 rw [Zhj h1 e,Zhj h2 e'] at hp
 show D.tup [lnD k,cel p.1 p.2]=D.tup [lnD k,cel p'.1 p'.2]
 rw [ZpE hp]
theorem Zok {a b:List Ent} (h:a.Perm b):(Zah a).Perm (Zah b):=h.flatMap_right _
theorem ZoG:∀ {acc:List Ent},(Zo acc).Nodup->acc.map (fun e=>(e.1,(ZN acc e.1).getD (0,[])))=acc:=by
 intro acc hn
 have:∀ e∈acc,ZN acc e.1=some e.2:=by
  intro e he
  induction acc with
  | nil=>exact nomatch he
  | cons d r ih =>
   simp only [Zo,Qai,QbW] at hn
   unfold ZN
   rcases Qbk.mp he with rfl | he
   ·rw [if_pos rfl]
   ·rw [if_neg (fun z=>hn.1 (by rw [z];exact List.mem_map_of_mem he))]
    exact ih hn.2 he
 refine (List.map_congr_left (g:=id) fun e he=>?_).trans (List.map_id _)
 rw [this e he];rfl
theorem Zqg {acc:List Ent} (h:(Zo acc).Nodup):(Zah (tbE acc)).Perm (Zah acc):=by
 refine Zok ?_
 unfold tbE
 have h1:=(Zag ltL (Zo acc)).map fun k=>((k,(ZN acc k).getD (0,[])):Ent)
 have h2:(Zo acc).map (fun k=>((k,(ZN acc k).getD (0,[])):Ent))=acc:=by
  unfold Zo
  rw [Qbw]
  exact ZoG h
 rw [h2] at h1
 exact h1
theorem Zev (Ls:List (List (List At))) (g:List Nat):∀ (rows:List (List At×Int)) (acc:List Ent),(Zah (Zae Ls g rows acc)).Perm (rows.map (fun r=>(Z2 Ls r.1 g,r.2))++Zah acc)
 | [],acc=>.refl _
 | r::rows,acc=>by
  refine (Zev Ls g rows (Zat acc (Z2 Ls r.1 g) r.2)).trans ?_
  rw [ZoD]
  refine ((ZgA _ _ [] acc).append_left _).trans ?_
  simp only [Qai,Qa3,List.singleton_append,List.cons_append]
  exact List.perm_middle
theorem Zpf (Ls:List (List (List At))) (g:List Nat) (rows:List (List At×Int)) {k:List At} (h:k∈Zo (Zae Ls g rows [])):∃ r∈rows,k=Z2 Ls r.1 g:=by
 obtain ⟨x,hx⟩:=key_flat.mp h
 have:=(Zev Ls g rows []).mem_iff.mp hx
 simp only [Zah,List.flatMap_nil,Qa9,List.mem_map,Prod.mk.injEq] at this
 obtain ⟨r,hr,e,_⟩:=this
 exact ⟨r,hr,e.symm⟩
def ZcL:List (List (List At))->List Nat->List Nat->List At->List At
 | ls::Ls,i::g,j::h,a::k=>((ls.find? fun l=>decide (l.getD i .non=a)).getD []).getD j .non::ZcL Ls g h k
 | _,_,_,_=>[]
theorem ZiX {Ls:List (List (List At))} {g k:List Nat} {s:List At} (h:Axs Ls g) (h':Axs Ls k) (hle:LeG g k) (hs:Spot Ls s):ZcL Ls g k (Z2 Ls s g)=Z2 Ls s k:=by
 induction h generalizing s k with
 | nil=>cases hs;cases h';rfl
 | @cons ls Ls i g h1 h2 h3 ih =>
  cases hs with
  | @cons _ _ a as t1 t2 =>
  cases h' with
  | @cons _ _ j k' u1 u2 u3 =>
  cases hle with
  | cons v1 v2 =>
  have ih:=ih u3 v2 t2
  simp only [ZcL,Z2,ih]
  congr 1
  obtain ⟨l,hm,rfl⟩:=List.mem_map.mp t1
  rw [Ze2 h1.nd hm,Ze2 h1.nd hm]
  cases hf:ls.find? fun m=>decide (m.getD i .non=l.getD i .non) with
  | none =>
   have:=List.find?_eq_none.mp hf l hm
   simp at this
  | some m =>
   have e1:=List.find?_some hf
   have e2:=List.mem_of_find?_eq_some hf
   exact h1.fn m e2 l hm i j v1 (by simpa using e1)
def ZgL (f:List At->List At) (ts acc:List Ent):List Ent:=ts.foldl (fun acc t=>Zar acc (f t.1) t.2.1 t.2.2) acc
theorem ZhG (f:List At->List At):∀ (ts acc:List Ent),(Zah (ZgL f ts acc)).Perm ((Zah ts).map (fun p=>(f p.1,p.2))++Zah acc)
 | [],acc=>.refl _
 | t::ts,acc=>by
  refine (ZhG f ts (Zar acc (f t.1) t.2.1 t.2.2)).trans ?_
  refine ((ZgA _ _ _ acc).append_left _).trans ?_
  rw [Zbw,Qbs,Qbw,<- QbE]
  exact List.perm_append_comm.append_right _
theorem Zg8 (f:List At->List At):∀ (ts acc:List Ent),(Zo acc).Nodup->(Zo (ZgL f ts acc)).Nodup
 | [],_,h=>h
 | t::ts,acc,h=>Zg8 f ts _ (Zhz h)
theorem ZnI {Ls:List (List (List At))} {g k:List Nat} (h:Axs Ls g) (h':Axs Ls k) (hle:LeG g k) (rows:List (List At×Int)) (hr:∀ r∈rows,Spot Ls r.1) (n1:(Zo (Zae Ls g rows [])).Nodup) (n2:(Zo (Zae Ls k rows [])).Nodup):ZaG (ZgL (ZcL Ls g k) (tbE (Zae Ls g rows [])) [])=ZaG (Zae Ls k rows []):=by
 refine Zpw (Zg8 _ _ _ (by simp [Zo])) n2 ?_
 refine (ZhG _ _ _).trans ?_
 have e0:Zah []=[]:=rfl
 rw [e0,Qa9]
 refine ((Zqg n1).map _).trans ?_
 refine ((Zev Ls g rows []).map _).trans ?_
 refine List.Perm.trans ?_ (Zev Ls k rows []).symm
 rw [e0,Qa9,Qa9,Qbw]
 refine List.Perm.of_eq (List.map_congr_left fun r hr'=>?_)
 show (ZcL Ls g k (Z2 Ls r.1 g),r.2)=(Z2 Ls r.1 k,r.2)
 rw [ZiX h h' hle (hr r hr')]
structure AccK (acc:List Ent) (n m:Nat):Prop where
 nd:(Zo acc).Nodup
 len:acc.length<=m
 kl:∀ k∈Zo acc,k.length=n
theorem AccK.add {acc:List Ent} {n m:Nat} (h:AccK acc n m) {k:List At} (hk:k.length=n) (x:Int) (xs:List Int):AccK (Zar acc k x xs) n (m+1) :=
 ⟨Zhz h.nd,by have:=Zkq k x xs acc;have:=h.len;omega,fun k' hk'=>by
  rw [Zgt] at hk'
  split at hk'
  ·exact h.kl _ hk'
  ·rcases List.mem_append.mp hk' with z | z
   ·exact h.kl _ z
   ·simp at z;rw [z];exact hk⟩
theorem Znm {Ls:List (List (List At))} {g k:List Nat} {s:List At} (h:Axs Ls g) (h':Axs Ls k) (hle:LeG g k) (hs:Spot Ls s) (hz:Ls.length<=4) (s1 s5:Sl) (x:Int) (xs:List Int) {acc:List Ent} {n m:Nat} (ha:AccK acc n m) (hm:m<1000) :
  Za4 [.val (.lst (wyL Ls g k)),s1,dcS vC acc,.val (lnD (Z2 Ls s g)),.val (cel x xs),s5]=.next [.val (.lst (wyL Ls g k)),s1,dcS vC (Zar acc (Z2 Ls s k) x xs),.val (lnD (Z2 Ls s g)),.val (cel x xs),.val (lnD (Z2 Ls s k))]:=by
 have hgo:=Zjc h h' hs hz
 have hc:=ZmM h h' hle hs
 have q1:=ZK (QaV (fun x y=>D.tup [x,y]) (wyL Ls g k) ((Z2 Ls s g).map aD)) (by simp [Zij h h'];omega)
 have hk:∀ x y z w,ZH Zbq (fun ρ=>Zb (Zk (ZR ((ZQ 2 [] (ZdC (fun ρ=>rdQ ρ 0) (fun ρ=>rdQ ρ 3)) (Zaf 2 (Zy (Zm 0) (Zy (Zm 1) Zam))) (fun _=>some true) Za3) ρ))) (some [])) [.val (.lst (wyL Ls g k)),x,y,.val (lnD (Z2 Ls s g)),z,w]=some (lnD (Z2 Ls s k)):=by
  intro x y z w
  unfold lnD
  generalize wyL Ls g k=L at *
  generalize (Z2 Ls s g).map aD=S at *
  have hin:ZT 2 [] [.val (.lst L),x,y,.val (.tup S),z,w]=[.no,.no]:=rfl
  simp only [ZH,Zbq,pks,pk,Zb,Zk,ZR,ZQ,ZdC,Zao,hin,rdQ,Qaf,Qad,Qah,QaA,q1,hc]
 generalize wyL Ls g k=L at *
 generalize Z2 Ls s g=k1 at *
 generalize Z2 Ls s k=k at *
 have hok:=ZjW k
 have hom:=Zin vC k acc
 have hval:=ZbJ vC k acc
 have hlen:(acc.map (ZO vC)).length<Qaj:=by rw [Qaz];exact Qc5 ha.len (Qay hm (by decide))
 have hun:=ZfK (acc.map (ZO vC))
 have hdin:ZcM false (lnD k) (.lst (ZJ (acc.map (ZO vC))) true)=some (.bl (ZN acc k).isSome):=by
  rw [ZiH,hok]
  show (if Zbv (.tup k) (acc.map (ZO vC))=true then _ else _)=_
  rw [if_pos hom,hval,Option.isSome_map]
  cases (ZN acc k).isSome<;>rfl
 have key:∀ d,Zlb (some (ZN acc k).isSome) ((Zs Zd1 (fun ρ=>Zb (Zk ((Zf ZbD (fun ρ=>rdP ρ 2) (fun ρ=>rdP ρ 5)) ρ)) (Zb (rdA ρ 4) (some [])))) [.val (.lst L),s1,dcS vC acc,.val (lnD k1),.val (cel x xs),.val (lnD k)]) (some (cel x xs))=some d->Zak (acc.map (ZO vC)) (.tup k) d=(Zar acc k x xs).map (ZO vC)->Za4 [.val (.lst L),s1,dcS vC acc,.val (lnD k1),.val (cel x xs),s5]=.next [.val (.lst L),s1,dcS vC (Zar acc k x xs),.val (lnD k1),.val (cel x xs),.val (lnD k)]:=by
  intro d e1 e2
  unfold dcS at *
  have hk':=hk s1 (.own (ZJ (acc.map (ZO vC))) true) (.val (cel x xs)) s5
  generalize acc.map (ZO vC)=KV at *
  generalize (Zar acc k x xs).map (ZO vC)=KV' at *
  unfold Za4
  have t1:ZaX ((Zs ZcS (fun ρ=>Zb (rdA ρ 0) (Zb (rdA ρ 3) (some [])))) [.val (.lst L),s1,.own (ZJ KV) true,.val (lnD k1),.val (cel x xs),s5])=some true:=by
   simp only [Zs,Zb,rdA,Qaf,Qad,Qah,QaA,hgo,ZaY,ZaX]
  simp only [t1,Z4,Zh,hk',ZP,Qap,Qan]
  have t2:Zf (ZcM false) (fun ρ=>rdP ρ 5) (fun ρ=>rdP ρ 2) [.val (.lst L),s1,.own (ZJ KV) true,.val (lnD k1),.val (cel x xs),.val (lnD k)]=some (.bl (ZN acc k).isSome):=by
   simp only [Zf,rdP,Qaf,Qad,Qah,hdin]
  have t3:rdV [.val (.lst L),s1,.own (ZJ KV) true,.val (lnD k1),.val (cel x xs),.val (lnD k)] 4=some (cel x xs):=rfl
  rw [t2,t3]
  simp only [asB,Qah]
  rw [e1]
  simp only [ZgZ,rdP,rdG,Qaf,Qad,Qap,Qan,hun,hok,hom,e2,Bool.true_and,decide_eq_true hlen,if_true]
 cases hl:ZN acc k with
 | none =>
  rw [hl] at key
  exact key (vC (x,xs)) rfl (Zps vC hl)
 | some p =>
  rw [hl] at key
  refine key (vC (p.1,p.2++x::xs)) ?_ (Zqd vC ha.nd hl)
  have e1:=Ziq vC hl
  have e2:=Zol p.1 x p.2 xs
  unfold dcS
  generalize acc.map (ZO vC)=KV at *
  simp only [Zlb,Option.isSome,Zs,Zf,Zb,Zk,rdP,rdA,Qaf,Qad,Qah,QaA,e1,e2,ZaY]
abbrev enD (t:Ent):D:=.tup [lnD t.1,cel t.2.1 t.2.2]
theorem ZiR {Ls:List (List (List At))} {g k:List Nat} (h:Axs Ls g) (h':Axs Ls k) (hle:LeG g k) (hz:Ls.length<=4) (s1:Sl):∀ (ts acc:List Ent) (m:Nat) (s3 s4 s5:Sl),(∀ t∈ts,∃ s,Spot Ls s/\t.1=Z2 Ls s g)->AccK acc Ls.length m->m+ts.length<1000 ->
  AccK (ZgL (ZcL Ls g k) ts acc) Ls.length (m+ts.length)/\∃ s3' s4' s5',Z7 (Zaf 2 (Zy (Zm 3) (Zy (Zm 4) Zam))) Za4 (ts.map enD) [.val (.lst (wyL Ls g k)),s1,dcS vC acc,s3,s4,s5]=.next [.val (.lst (wyL Ls g k)),s1,dcS vC (ZgL (ZcL Ls g k) ts acc),s3',s4',s5']
 | [],acc,m,s3,s4,s5,_,ha,_=>⟨ha,s3,s4,s5,rfl⟩
 | t::ts,acc,m,s3,s4,s5,hr,ha,hm=>by
  simp only [QaK] at hm
  obtain ⟨s,hs,et⟩:=hr t Qam
  have e1:=Znm h h' hle hs hz s1 s5 t.2.1 t.2.2 ha (by omega)
  have ek:=ZiX h h' hle hs
  rw [<- et] at e1 ek
  rw [<- ek] at e1
  have hkl:(ZcL Ls g k t.1).length=Ls.length:=by rw [ek,ZjD h' hs]
  obtain ⟨ok,a,b,c,e2⟩:=ZiR h h' hle hz s1 ts (Zar acc (ZcL Ls g k t.1) t.2.1 t.2.2) (m+1) (.val (lnD t.1)) (.val (cel t.2.1 t.2.2)) (.val (lnD (ZcL Ls g k t.1))) (fun q hq=>hr q (Qag _ hq)) (ha.add hkl _ _) (by omega)
  refine ⟨by rw [QaK,show m+(ts.length+1)=m+1+ts.length by omega];exact ok,a,b,c,?_⟩
  simp only [Qai,enD,Z7,Zaf,Zy,Zm,Zam,QaK,Qbb,if_true,Qap,Qan,Qah]
  rw [e1]
  exact e2
theorem ZqW (acc:List Ent):(tbE acc).length=acc.length:=by
 unfold tbE
 rw [Qaz,(Zag ltL _).length_eq]
 unfold Zo
 rw [Qaz]
theorem ZhN {Ls:List (List (List At))} {g k:List Nat} (h:Axs Ls g) (h':Axs Ls k) (hle:LeG g k) (h0:0<Ls.length) (hz:Ls.length<=4) (rows:List (List At×Int)) (hr:∀ r∈rows,Spot Ls r.1) (hl:rows.length<64):Zc5 [.val (.lst (wyL Ls g k)),.val (.lst (ZaG (Zae Ls g rows [])))]=some (.own (ZaG (Zae Ls k rows []))):=by
 have ok1:=(ZcX h hz rows hr hl).2
 have ok2:=(ZcX h' hz rows hr hl).2
 rw [<- ZnI h h' hle rows hr ok1.nd ok2.nd,ZmL (Zae Ls g rows [])]
 have hke:∀ t∈tbE (Zae Ls g rows []),∃ s,Spot Ls s/\t.1=Z2 Ls s g:=fun t ht=>by
  obtain ⟨k',hk',rfl⟩:=List.mem_map.mp ht
  obtain ⟨r,hr',e⟩:=Zpf Ls g rows ((Zag ltL _).mem_iff.mp hk')
  exact ⟨r.1,hr r hr',e⟩
 have htl:=ZqW (Zae Ls g rows [])
 have hl1:=ok1.len
 obtain ⟨ok,a,b,c,e⟩:=ZiR h h' hle hz (.val (.lst ((tbE (Zae Ls g rows [])).map enD))) (tbE (Zae Ls g rows [])) [] 0 .no .no .no hke ⟨by simp [Zo],by simp,fun k hk=>nomatch hk⟩ (by omega)
 rw [Nat.zero_add] at ok
 generalize ZgL (ZcL Ls g k) (tbE (Zae Ls g rows [])) []=acc at *
 have hkl:(Zo acc).length<64:=by unfold Zo;rw [Qaz];have:=ok.len;omega
 have hi:=Zlm (.val (.lst ((Zo acc).map lnD))) (Zo acc) (.inl rfl) hkl fun l hl=>by
  have:=ok.kl l hl
  exact ⟨fun z=>by rw [z] at this;simp at this;omega,by omega⟩
 rw [ZiZ _ _ ((Zag ltL _).nodup_iff.mpr ok.nd) (fun _ e=>by cases e),<- ZkL vC] at hi
 have hc:=ZaL (b:=Zm 0) (e:=Zcz) (ρ:=[.no,.lent (ZJ (acc.map (ZO vC))) true]) lnD (fun k=>.tup [lnD k,vC ((ZN acc k).getD (0,[]))]) (ZaT ltL (Zo acc)) fun k hk=>⟨[.val (lnD k),.lent (ZJ (acc.map (ZO vC))) true],rfl,by
  obtain ⟨p,hp⟩:=Zfm hk
  have e1:=Ziq vC hp
  have q:Zu (some [lnD k,vC p])=some [lnD k,vC p]:=ZK _ (by simp)
  rw [hp]
  simp only [Zcz,Zb,Zk,Zz,Zf,rdP,rdV,Qaf,Qad,Qah,QaA,e1,q,Option.getD]⟩
 have q1:=ZK ((ZaT ltL (Zo acc)).map lnD) (by rw [Qaz,(Zag _ _).length_eq];omega)
 have hkls:=Zoa (acc.map (ZO vC))
 have h0:dcS vC []=.own [] true:=rfl
 rw [h0] at e
 unfold dcS at e
 unfold ZaG
 refine Zav rfl ?_
 generalize (ZaT ltL (Zo acc)).map (fun k=>D.tup [lnD k,vC ((ZN acc k).getD (0,[]))])=T at *
 generalize (ZaT ltL (Zo acc)).map lnD=W at *
 generalize acc.map (ZO vC)=KV at *
 generalize (tbE (Zae Ls g rows [])).map enD=R at *
 generalize wyL Ls g k=L at *
 show Zci [.val (.lst L),.val (.lst R),.no,.no,.no,.no]=_
 have hin:∀ x y z,ZT 1 [2] [.val (.lst L),.val (.lst R),.own (ZJ KV) true,x,y,z]=[.no,.lent (ZJ KV) true]:=fun _ _ _=>rfl
 simp only [Zci,Zh,Zen,ZaW,rdQ,ZX,Zbm,ZQ,hin,rdA,Zed,pks,pk,Zs,Zb,Zk,ZR,Qaf,Qad,Qap,Qan,Qah,QaA,e,hkls,hi,ZgW,q1,hc]
theorem Zi8:∀ (g k:List Nat),Z8 (Zaf 2 (Zy (Zm 0) (Zy (Zm 1) Zam))) (fun _=>some true) Zdh [.no,.no] (QaV (fun x y=>D.tup [x,y]) (g.map fun (j:Nat)=>D.int (j:Int)) (k.map fun (j:Nat)=>D.int (j:Int)))=some ((QaV (fun i j=>decide (i<=j)) g k).map D.bl)
 | [],_=>by cases ‹List Nat›<;>rfl
 | _::_,[]=>rfl
 | i::g,j::k=>by
  have ih:=Zi8 g k
  have e1:Zdh [.val (.int (i:Int)),.val (.int (j:Int))]=some (.bl (decide (i<=j))):=by
   have e:leD (.int (i:Int)) (.int (j:Int))=some (.bl (decide ((i:Int)<=(j:Int)))):=rfl
   have e':decide ((i:Int)<=(j:Int))=decide (i<=j):=by
    by_cases c:i<=j
    ·rw [decide_eq_true c,decide_eq_true (by omega)]
    ·rw [decide_eq_false c,decide_eq_false (by omega)]
   rw [e'] at e
   simp only [Zdh,Zf,rdP,Qaf,Qad,Qah,e]
  simp only [Qai,Qby,Z8,Zaf,Zy,Zm,Zam,QaK,Qbb,if_true,Qap,Qan,Qah,e1,ih,Zb]
def leB (g k:List Nat):Bool:=(QaV (fun i j=>decide (i<=j)) g k).all id
theorem Zif:∀ (g k:List Nat),g.length=k.length->(leB g k=true↔LeG g k)
 | [],[],_=>⟨fun _=>.nil,fun _=>rfl⟩
 | [],_::_,h=>by simp at h
 | _::_,[],h=>by simp at h
 | i::g,j::k,h=>by
  have ih:=Zif g k (by simpa using h)
  unfold leB at ih ⊢
  simp only [Qby,Qc0,id,QaW,decide_eq_true_eq]
  constructor
  ·rintro ⟨a,b⟩
   exact .cons a (ih.mp b)
  ·intro z
   cases z with
   | cons a b=>exact ⟨a,ih.mpr b⟩
theorem Zh3 (g k:List Nat) (hg:g.length<=1000):ZeA [.val (grD g),.val (grD k)]=some (.val (.bl (leB g k))):=by
 have hc:=Zi8 g k
 have q1:=ZK (QaV (fun x y=>D.tup [x,y]) (g.map fun (j:Nat)=>D.int (j:Int)) (k.map fun (j:Nat)=>D.int (j:Int))) (by simp;omega)
 have ha:Zgg [.lst ((QaV (fun i j=>decide (i<=j)) g k).map D.bl)]=some (.bl (leB g k)):=by simp only [Zgg,Ze1,QbH];rfl
 unfold grD
 refine Zav rfl ?_
 generalize (QaV (fun i j=>decide (i<=j)) g k).map D.bl=B at *
 generalize (g.map fun (j:Nat)=>D.int (j:Int))=G at *
 generalize (k.map fun (j:Nat)=>D.int (j:Int))=W at *
 show Zei [.val (.tup G),.val (.tup W)]=_
 have hin:ZT 2 [] [.val (.tup G),.val (.tup W)]=[.no,.no]:=rfl
 simp only [Zei,Zh,ZS,ZH,pks,pk,Zb,Zk,ZR,ZQ,ZdC,Zao,hin,rdQ,Qaf,Qad,Qah,QaA,q1,hc,ha]
theorem Zgh {Ls:List (List (List At))} {g k:List Nat} (h:Axs Ls g) (h':Axs Ls k) (hle:LeG g k) (h0:0<Ls.length) (hz:Ls.length<=4) (rows:List (List At×Int)) (hr:∀ r∈rows,Spot Ls r.1) (hl:rows.length<64):Zc2 [.val (.lst (Ls.map ldD)),.val (.lst (ZaG (Zae Ls g rows []))),.val (grD g),.val (grD k)]=some (.own (ZaG (Zae Ls k rows []))):=by
 have hm:=ZhN h h' hle h0 hz rows hr hl
 have hw:=ZmY h h' hz
 have ha:=Zh3 g k (by have:=h.len;omega)
 rw [(Zif g k (by rw [h.len,h'.len])).mpr hle] at ha
 generalize ZaG (Zae Ls g rows [])=T at *
 generalize ZaG (Zae Ls k rows [])=T' at *
 generalize wyL Ls g k=W at *
 generalize Ls.map ldD=L at *
 refine Zav rfl ?_
 show ZfD [.val (.lst L),.val (.lst T),.val (grD g),.val (grD k)]=_
 simp only [ZfD,Zh,Z4,Zbu,ZaX,Zbm,rdA,ZfB,Zs,Zb,Zk,Qaf,Qad,Qah,QaA,ha,ZaY,hw,ZgW,hm,rvF,Qcy]
theorem ZqG (s0 s1 s2 s3:Sl):Zc0 [s0,s1,s2,s3,.exc "NoGrain"]=.ret (.val (.bl true)):=by
 have c1:CS.contains "NoGrain"=true:=by decide +kernel
 have k1:ZcB "NoGrain" "NoGrain"=true:=by decide +kernel
 have k2:ZcB "ValueError" "NoGrain"=true:=by decide +kernel
 have k3:ZcB "TooMuch" "NoGrain"=false:=by decide +kernel
 simp only [Zc0,Zh,ZS,blO,Zgv,Zbu,asB,isX,Qaf,Qad,Qah,QaA,c1,if_true,k1,k2,k3,Bool.not_false]
theorem ZmJ (L T:List D) (g k:List Nat) (hlen:g.length=k.length) (hg:g.length<=1000) (hle:¬ LeG g k):ZdB [.val (.lst L),.val (.lst T),.val (grD g),.val (grD k)]=some (.val (.bl true)):=by
 have ha:=Zh3 g k hg
 have hb:leB g k=false:=by
  cases e:leB g k with
  | false=>rfl
  | true=>exact absurd ((Zif g k hlen).mp e) hle
 rw [hb] at ha
 have hX:Zhs [.val (.lst L),.val (.lst T),.val (grD g),.val (grD k)]=some ("NoGrain":Str):=by
  show Zfw [.val (.lst L),.val (.lst T),.val (grD g),.val (grD k)]=_
  simp only [Zfw,Zpv,Zbu,ZaX,Zo7,Zs,Zb,Zk,rdA,Qaf,Qad,Qah,QaA,ha,ZaY,Bool.not_false]
 have c1:CS.contains "NoGrain"=true:=by decide +kernel
 refine Zav rfl ?_
 show Zcr [.val (.lst L),.val (.lst T),.val (grD g),.val (grD k),.no]=_
 simp only [Zcr,Zm6,Zr9,hX,c1,if_pos,ZqG,Zh,Zb,rdA,Qaf,Qad,Qap,Qan,Qah]
def Zga (g k:List Nat):List Nat:=QaV (fun i j=>if j<i then j else i) g k
def Zgj (g k:List Nat):List Nat:=QaV (fun i j=>if j > i then j else i) g k
theorem ZkU:∀ (g k:List Nat),Z8 (Zm 0) (fun _=>some true) ZgK [.no] (QaV (fun x y=>D.tup [x,y]) (g.map fun (j:Nat)=>D.int (j:Int)) (k.map fun (j:Nat)=>D.int (j:Int)))=some ((Zga g k).map fun (j:Nat)=>D.int (j:Int))
 | [],_=>by cases ‹List Nat›<;>rfl
 | _::_,[]=>rfl
 | i::g,j::k=>by
  have ih:=ZkU g k
  have e1:ZgK [.val (.tup [.int (i:Int),.int (j:Int)])]=some (.int ((if j<i then j else i:Nat):Int)):=by
   have e:Zjr [.tup [.int (i:Int),.int (j:Int)]]=some (.int (if (j:Int)<(i:Int) then (j:Int) else (i:Int))):=rfl
   have e':(if (j:Int)<(i:Int) then (j:Int) else (i:Int))=((if j<i then j else i:Nat):Int):=by
    by_cases c:j<i
    ·rw [if_pos c,if_pos (by omega)]
    ·rw [if_neg c,if_neg (by omega)]
   rw [e'] at e
   simp only [ZgK,ZH,pks,pk,Zb,rdA,Qaf,Qad,Qah,e]
  simp only [Qai,Qby,Zga,Z8,Zm,Qan,e1,ih,Zb,Qah]
theorem ZjA:∀ (g k:List Nat),Z8 (Zm 0) (fun _=>some true) ZgS [.no] (QaV (fun x y=>D.tup [x,y]) (g.map fun (j:Nat)=>D.int (j:Int)) (k.map fun (j:Nat)=>D.int (j:Int)))=some ((Zgj g k).map fun (j:Nat)=>D.int (j:Int))
 | [],_=>by cases ‹List Nat›<;>rfl
 | _::_,[]=>rfl
 | i::g,j::k=>by
  have ih:=ZjA g k
  have e1:ZgS [.val (.tup [.int (i:Int),.int (j:Int)])]=some (.int ((if j > i then j else i:Nat):Int)):=by
   have e:Zjw [.tup [.int (i:Int),.int (j:Int)]]=some (.int (if (j:Int) > (i:Int) then (j:Int) else (i:Int))):=rfl
   have e':(if (j:Int) > (i:Int) then (j:Int) else (i:Int))=((if j > i then j else i:Nat):Int):=by
    by_cases c:j > i
    ·rw [if_pos c,if_pos (by omega)]
    ·rw [if_neg c,if_neg (by omega)]
   rw [e'] at e
   simp only [ZgS,ZH,pks,pk,Zb,rdA,Qaf,Qad,Qah,e]
  simp only [Qai,Qby,Zgj,Z8,Zm,Qan,e1,ih,Zb,Qah]
theorem Axs.either {Ls:List (List (List At))} {g k:List Nat} (h:Axs Ls g) (h':Axs Ls k):∀ m:List Nat,m.length=Ls.length->(∀ i,i<m.length->m.getD i 0=g.getD i 0\/m.getD i 0=k.getD i 0)->Axs Ls m:=by
 induction h generalizing k with
 | nil=>intro m hm _;cases m with
  | nil=>exact .nil
  | cons=>simp at hm
 | @cons ls Ls i g h1 h2 h3 ih =>
  cases h' with
  | @cons _ _ j k' u1 u2 u3 =>
  intro m hm hh
  cases m with
  | nil=>simp at hm
  | cons x m =>
   have a:=hh 0 (by simp)
   refine .cons h1 ?_ (ih u3 m (by simpa using hm) fun n hn=>by simpa using hh (n+1) (by simpa using hn))
   simp only [List.getD_cons_zero] at a
   rcases a with rfl | rfl
   ·exact h2
   ·exact u2
theorem LeG.len {g k:List Nat} (h:LeG g k):g.length=k.length:=by
 induction h with
 | nil=>rfl
 | cons _ _ ih=>simp [ih]
theorem LeG.either {g k:List Nat} (h:LeG g k):∀ m:List Nat,m.length=g.length->(∀ i,i<m.length->m.getD i 0=g.getD i 0\/m.getD i 0=k.getD i 0)->LeG g m/\LeG m k:=by
 induction h with
 | nil=>intro m hm _;cases m with
  | nil=>exact ⟨.nil,.nil⟩
  | cons=>simp at hm
 | @cons i j g k a _ ih =>
  intro m hm hh
  cases m with
  | nil=>simp at hm
  | cons x m =>
   have b:=hh 0 (by simp)
   simp only [List.getD_cons_zero] at b
   obtain ⟨z1,z2⟩:=ih m (by simpa using hm) fun n hn=>by simpa using hh (n+1) (by simpa using hn)
   exact ⟨.cons (by omega) z1,.cons (by omega) z2⟩
theorem ZiA (f:Nat->Nat->Nat):∀ (g k:List Nat) (i:Nat),i<g.length->i<k.length->(QaV f g k).getD i 0=f (g.getD i 0) (k.getD i 0)
 | x::g,y::k,0,_,_=>rfl
 | x::g,y::k,i+1,h1,h2=>by
  have:=ZiA f g k i (by simpa using h1) (by simpa using h2)
  simpa using this
theorem ZqP {Ls:List (List (List At))} {g k:List Nat} (h:Axs Ls g) (h':Axs Ls k):Axs Ls (Zga g k)/\Axs Ls (Zgj g k):=by
 have l1:=h.len
 have l2:=h'.len
 refine ⟨h.either h' _ (by simp [Zga];omega) fun i hi=>?_,h.either h' _ (by simp [Zgj];omega) fun i hi=>?_⟩
 ·simp [Zga] at hi
  unfold Zga
  rw [ZiA _ _ _ _ (by omega) (by omega)]
  split
  ·exact .inr rfl
  ·exact .inl rfl
 ·simp [Zgj] at hi
  unfold Zgj
  rw [ZiA _ _ _ _ (by omega) (by omega)]
  split
  ·exact .inr rfl
  ·exact .inl rfl
theorem Zmp:∀ (g k:List Nat),g.length=k.length->(LeG g k↔∀ i,i<g.length->g.getD i 0<=k.getD i 0)
 | [],[],_=>⟨fun _ i h=>by simp at h,fun _=>.nil⟩
 | [],_::_,h=>by simp at h
 | _::_,[],h=>by simp at h
 | x::g,y::k,h=>by
  have ih:=Zmp g k (by simpa using h)
  constructor
  ·intro z i hi
   cases z with
   | cons a b =>
    cases i with
    | zero=>exact a
    | succ i=>simpa using ih.mp b i (by simpa using hi)
  ·intro z
   exact .cons (by simpa using z 0 (by simp)) (ih.mpr fun i hi=>by simpa using z (i+1) (by simpa using hi))
theorem ZhX {g:List Nat} {i:Nat} (h:i<g.length):ixD (grD g) (.int (i:Int))=some (.int ((g.getD i 0:Nat):Int)):=Zm7 (by rw [QaF h];simp [Qbh,h])
theorem ZpK (g k:List Nat) (n:Nat) (h1:g.length=n) (h2:k.length=n):∃ b,Z8 (Zm 0) (fun _=>some true) Zik [.no,.val (grD g),.val (grD k)] ((Qaw n).map fun (i:Nat)=>D.int (i:Int))=some (((Qaw n).map fun i=>decide (k.getD i 0<g.getD i 0)).map D.bl)/\Zgl [.lst (((Qaw n).map fun i=>decide (k.getD i 0<g.getD i 0)).map D.bl)]=some (.bl b)/\(b=true↔¬ LeG g k):=by
 refine ⟨((Qaw n).map fun i=>decide (k.getD i 0<g.getD i 0)).any id,?_,by simp only [Zgl,Ze1,QbH],?_⟩
 ·rw [ZaL (fun (i:Nat)=>D.int (i:Int)) (fun i=>D.bl (decide (k.getD i 0<g.getD i 0))) (Qaw n) fun i hi=>⟨[.val (.int (i:Int)),.val (grD g),.val (grD k)],rfl,?_⟩,Qbw]
  ·rfl
  ·have hi:=List.mem_range.mp hi
   have e1:=ZhX (g:=g) (i:=i) (by omega)
   have e2:=ZhX (g:=k) (i:=i) (by omega)
   have e:gtD (.int ((g.getD i 0:Nat):Int)) (.int ((k.getD i 0:Nat):Int))=some (.bl (decide (((k.getD i 0:Nat):Int)<((g.getD i 0:Nat):Int)))):=rfl
   have e':decide (((k.getD i 0:Nat):Int)<((g.getD i 0:Nat):Int))=decide (k.getD i 0<g.getD i 0):=by
    by_cases c:k.getD i 0<g.getD i 0
    ·rw [decide_eq_true c,decide_eq_true (by omega)]
    ·rw [decide_eq_false c,decide_eq_false (by omega)]
   rw [e'] at e
   simp only [Zik,Zf,rdP,Qaf,Qad,Qah,e1,e2,e]
 ·rw [Zmp g k (by omega),List.any_map,List.any_eq_true]
  constructor
  ·rintro ⟨i,hi,hd⟩ z
   have:=z i (by have:=List.mem_range.mp hi;omega)
   have hd':k.getD i 0<g.getD i 0:=of_decide_eq_true hd
   omega
  ·intro z
   refine Classical.byContradiction fun c=>z fun i hi=>?_
   refine QcS fun hlt=>c ⟨i,List.mem_range.mpr (by omega),?_⟩
   exact decide_eq_true hlt
def dv2 (k:Nat):Int:=[1,2,4,8].getD k 1
theorem Zsq (k:Nat) (h:k<4):ixD (.lst [D.int 1,.int 2,.int 4,.int 8]) (.int (k:Int))=some (.int (dv2 k))/\ZaR 0 (dv2 k):=by
 match k,h with
 | 0,_=>exact ⟨rfl,by decide,by decide⟩
 | 1,_=>exact ⟨rfl,by decide,by decide⟩
 | 2,_=>exact ⟨rfl,by decide,by decide⟩
 | 3,_=>exact ⟨rfl,by decide,by decide⟩
theorem ZpT (g k:List Nat) (c:Int) (n:Nat) (h1:g.length=n) (h2:k.length=n) (h4:n<=4):∃ m:List Nat,m.length=n/\(∀ i,i<m.length->m.getD i 0=g.getD i 0\/m.getD i 0=k.getD i 0)/\Z8 (Zm 0) (fun _=>some true) Zil [.no,.val (grD g),.val (grD k),.val (.int c)] ((Qaw n).map fun (i:Nat)=>D.int (i:Int))=some (m.map fun (j:Nat)=>D.int (j:Int)):=by
 refine ⟨(Qaw n).map fun i=>if c / dv2 i%2=0 then g.getD i 0 else k.getD i 0,by simp,fun i hi=>?_,?_⟩
 ·simp at hi
  have e:((Qaw n).map fun i=>if c / dv2 i%2=0 then g.getD i 0 else k.getD i 0).getD i 0=if c / dv2 i%2=0 then g.getD i 0 else k.getD i 0:=by simp [Qbh,hi]
  rw [e]
  split
  ·exact .inl rfl
  ·exact .inr rfl
 ·rw [ZaL (fun (i:Nat)=>D.int (i:Int)) (fun i=>D.int ((if c / dv2 i%2=0 then g.getD i 0 else k.getD i 0:Nat):Int)) (Qaw n) fun i hi=>⟨[.val (.int (i:Int)),.val (grD g),.val (grD k),.val (.int c)],rfl,?_⟩,Qbw]
  ·rfl
  ·have hi:=List.mem_range.mp hi
   have e1:=ZhX (g:=g) (i:=i) (by omega)
   have e2:=ZhX (g:=k) (i:=i) (by omega)
   obtain ⟨d1,d2⟩:=Zsq i (by omega)
   generalize dv2 i=dk at *
   generalize g.getD i 0=x at *
   generalize k.getD i 0=y at *
   have f1:ZaF (.int c) (.int dk)=some (.int (c / dk)):=by
    show (if ZaR c dk then some (D.int (c / dk)) else none)=_
    rw [if_pos (show ZaR c dk from d2)]
   have f2:=Zax (c / dk) 2 (by omega)
   have q:Zu (some [D.int 1,.int 2,.int 4,.int 8])=some [D.int 1,.int 2,.int 4,.int 8]:=ZK _ (by simp)
   have q2:∀ a b:D,Zu (some [a,b])=some [a,b]:=fun _ _=>ZK _ (by simp)
   have f3:ixD (.lst [D.int (x:Int),.int (y:Int)]) (.int (c / dk%2))=some (.int ((if c / dk%2=0 then x else y:Nat):Int)):=by
    by_cases z:c / dk%2=0
    ·rw [z,if_pos rfl];rfl
    ·rw [if_neg z,show c / dk%2=1 by omega];rfl
   simp only [Zil,Zf,Zb,Zk,Zz,ZR,rdP,Qaf,Qad,Qah,QaA,e1,e2,q,q2,d1,f1,f2,f3]
theorem Zm2 (N L R:List D) (c6:Int) (h6:ZF [.val (.lst N),.val (.int 6)]=some (.val (.int c6))) (Ls:List (List (List At))) (g0 k0:List Nat) (h:Axs Ls g0) (h':Axs Ls k0) (hz:Ls.length<=4):∃ g k,Axs Ls g/\Axs Ls k/\ZgQ [.val (.lst N),.val (.lst L),.val (.lst R),.val (grD g0),.val (grD k0),.no,.no,.no,.no,.no,.no]=.next [.val (.lst N),.val (.lst L),.val (.lst R),.val (grD g),.val (grD k),.no,.no,.no,.no,.no,.no]:=by
 have d1:ZaF (.int c6) (.int 125)=some (.int (c6 / 125)):=by
  show (if ZaR c6 125 then some (D.int (c6 / 125)) else none)=_
  rw [if_pos ⟨by decide,by decide⟩]
 have m1:=Zax (c6 / 125) 4 (by omega)
 have g1:gtD (.int (c6 / 125%4)) (.int 0)=some (.bl (decide (0<c6 / 125%4))):=rfl
 have l1:=h.len
 have l2:=h'.len
 by_cases hc:0<c6 / 125%4
 ·obtain ⟨a1,a2⟩:=ZqP h h'
  refine ⟨Zga g0 k0,Zgj g0 k0,a1,a2,?_⟩
  have e1:=ZkU g0 k0
  have e2:=ZjA g0 k0
  have q1:=ZK (QaV (fun x y=>D.tup [x,y]) (g0.map fun (j:Nat)=>D.int (j:Int)) (k0.map fun (j:Nat)=>D.int (j:Int))) (by simp;omega)
  have q2:∀ a b:D,Zu (some [a,b])=some [a,b]:=fun _ _=>ZK _ (by simp)
  rw [decide_eq_true hc] at g1
  unfold grD
  generalize ((Zga g0 k0).map fun (j:Nat)=>D.int (j:Int))=MI at *
  generalize ((Zgj g0 k0).map fun (j:Nat)=>D.int (j:Int))=MA at *
  generalize (g0.map fun (j:Nat)=>D.int (j:Int))=G at *
  generalize (k0.map fun (j:Nat)=>D.int (j:Int))=W at *
  have hin:ZT 1 [] [.val (.lst N),.val (.lst L),.val (.lst R),.val (.tup G),.val (.tup W),.no,.no,.no,.no,.no,.no]=[.no]:=rfl
  simp only [ZgQ,Zh,Z4,asB,Zj4,Zaf,Zy,Zm,Zam,Zs,ZH,Zbq,pks,pk,Zf,Zb,Zk,Zz,ZR,ZQ,ZdC,Zao,hin,rdQ,rdA,rdP,QaK,Qbb,if_true,Qaf,Qad,Qap,Qan,Qah,QaA,h6,ZaY,d1,m1,g1,q1,q2,e1,e2]
 ·refine ⟨g0,k0,h,h',?_⟩
  rw [decide_eq_false hc] at g1
  simp only [ZgQ,Z4,asB,Zs,Zf,Zb,Zk,rdA,Qaf,Qad,Qah,QaA,h6,ZaY,d1,m1,g1]
theorem Zpl (ns:List Int) (hl:ns.length<=63):Zqk [.val (.lst (ns.map D.int))]=some (.val (.bl true)):=by
 obtain ⟨Ls,hL,h0,hz,e1⟩:=ZmF ns
 obtain ⟨rows,hrl,hr,e2⟩:=ZlG ns hl Ls hL hz
 have c4:ZF [.val (.lst (ns.map D.int)),.val (.int 4)]=some (.val (.int (ns.getD 4 0))):=Zcb (.val (.lst (ns.map D.int))) ns (.inl rfl) 4 (by omega)
 have c6:ZF [.val (.lst (ns.map D.int)),.val (.int 6)]=some (.val (.int (ns.getD 6 0))):=Zcb (.val (.lst (ns.map D.int))) ns (.inl rfl) 6 (by omega)
 have c5:ZF [.val (.lst (ns.map D.int)),.val (.int 5)]=some (.val (.int (ns.getD 5 0))):=Zcb (.val (.lst (ns.map D.int))) ns (.inl rfl) 5 (by omega)
 generalize ns.getD 4 0=x4 at *
 generalize ns.getD 6 0=x6 at *
 generalize ns.getD 5 0=x5 at *
 obtain ⟨g0,hg0,e3⟩:=ZjL x4 Ls hL hz
 obtain ⟨k0,hk0,e4⟩:=ZjL x6 Ls hL hz
 obtain ⟨g,k,hg,hk,e5⟩:=Zm2 (ns.map D.int) (Ls.map ldD) (rows.map Zcm) x6 c6 Ls g0 k0 hg0 hk0 hz
 have lg:=hg.len
 have lk:=hk.len
 obtain ⟨t1,ok1⟩:=ZcX hg hz rows hr hrl
 obtain ⟨t2,ok2⟩:=ZcX hk hz rows hr hrl
 obtain ⟨b,ac,an,hb⟩:=ZpK g k Ls.length lg lk
 have hrn:=Zcx Ls.length (by omega)
 have qn:=ZK ((Qaw Ls.length).map fun (i:Nat)=>D.int (i:Int)) (by simp;omega)
 have hlen:Za7 [.lst (Ls.map ldD)]=some (.int (Ls.length:Int)):=by simp
 obtain ⟨q1,q2⟩:=ZkH (Zl2 (Zae Ls g rows []))
 obtain ⟨q3,q4⟩:=ZkH (Zl2 (Zae Ls k rows []))
 refine Zav rfl ?_
 show Zg4 [.val (.lst (ns.map D.int)),.no,.no,.no,.no,.no,.no,.no,.no,.no,.no]=_
 have s7:Zg4 [.val (.lst (ns.map D.int)),.no,.no,.no,.no,.no,.no,.no,.no,.no,.no]=ZgO [.val (.lst (ns.map D.int)),.val (.lst (Ls.map ldD)),.val (.lst (rows.map Zcm)),.val (grD g),.val (grD k),.val (.lst (ZaG (Zae Ls g rows []))),.val (.lst (ZaG (Zae Ls g rows []))),.no,.no,.no,.no]:=by
  generalize ZaG (Zae Ls g rows [])=T at *
  generalize rows.map Zcm=R at *
  generalize Ls.map ldD=L at *
  generalize ns.map D.int=N at *
  simp only [Zg4,Zl8,Zmc,Zms,ZlT,Zl9,Zmh,Zml,Zmm,Zmt,ZlJ,ZlK,Zl4,Zh,ZP,Zs,Zed,Zir,pks,pk,Zb,Zk,ZR,rdA,Qaf,Qad,Qap,Qan,Qah,QaA,e1,ZgW,e2,c4,ZaY,e3,c6,e4,e5,t1]
 rw [s7]
 have hin:∀ d e f p q r s t,ZT 1 [3,4] [.val (.lst (ns.map D.int)),.val (.lst (Ls.map ldD)),d,.val (grD g),.val (grD k),e,f,p,q,r,s]=[.no,.val (grD g),.val (grD k)]/\ZT 1 [3,4,9] [.val (.lst (ns.map D.int)),.val (.lst (Ls.map ldD)),d,.val (grD g),.val (grD k),e,f,p,q,.val (.int t),s]=[.no,.val (grD g),.val (grD k),.val (.int t)]:=fun _ _ _ _ _ _ _ _=>⟨rfl,rfl⟩
 by_cases hle:LeG g k
 ·have hbf:b=false:=by
   cases b with
   | false=>rfl
   | true=>exact absurd hle (hb.mp rfl)
  subst hbf
  have r1:=Zgh hg hk hle h0 hz rows hr hrl
  obtain ⟨m,hm1,hm2,hmc⟩:=ZpT g k (x5 / 6) Ls.length lg lk hz
  have hm:=hg.either hk m (by omega) hm2
  obtain ⟨le1,le2⟩:=hle.either m (by omega) hm2
  have r2:=Zgh hg hm le1 h0 hz rows hr hrl
  have r3:=Zgh hm hk le2 h0 hz rows hr hrl
  have e7:=Zlz ok2 (by omega) (by omega)
  have hc:=ZaL (b:=Zm 0) (e:=ZlW) (ρ:=[.no]) ldD ldD Ls fun ls _=>⟨[.val (ldD ls)],rfl,rfl⟩
  have s1:=ZK (Ls.map ldD) (by simp;omega)
  have d5:ZaF (.int x5) (.int 6)=some (.int (x5 / 6)):=by
   show (if ZaR x5 6 then some (D.int (x5 / 6)) else none)=_
   rw [if_pos ⟨by decide,by decide⟩]
  have hmD:D.tup (m.map fun (j:Nat)=>D.int (j:Int))=grD m:=rfl
  generalize (((Qaw Ls.length).map fun i=>decide (k.getD i 0<g.getD i 0)).map D.bl)=B at *
  generalize (m.map fun (j:Nat)=>D.int (j:Int))=MD at *
  generalize (Ls.length:Int)=nL at *
  generalize ((Qaw Ls.length).map fun (i:Nat)=>D.int (i:Int))=RG at *
  generalize ZaG (Zae Ls g rows [])=T at *
  generalize ZaG (Zae Ls m rows [])=TM at *
  generalize ZaG (Zae Ls k rows [])=T' at *
  generalize rows.map Zcm=R at *
  generalize Ls.map ldD=L at *
  generalize ns.map D.int=N at *
  have hin0:∀ d e f,ZT 1 [] [.val (.lst N),.val (.lst L),.val (.lst R),.val (grD g),.val (grD k),d,e,f,.no,.no,.no]=[.no]:=fun _ _ _=>rfl
  have i1:=fun d e f p q r s=>(hin d e f p q r s 0).1
  have i2:=fun d e f p q s t=>(hin d e f p q .no s t).2
  simp only [ZgO,Zig,Zmb,ZlM,ZlQ,Zmn,Zk8,Zkt,Zlc,ZjM,ZkB,Zkd,Zk1,Zlj,Zk6,ZjT,ZkA,Zkm,Zh,ZP,Zba,ZkX,Z4,ZS,blO,Zgv,orB,Zbu,ZaX,asB,Zs,ZfB,ZH,Zed,Zir,Zbq,pks,pk,Zf,Zb,Zk,Zz,ZR,ZQ,hin0,i1,i2,ZX,rdQ,rdA,rdP,rdO,Qaf,Qad,Qap,Qan,Qah,QaA,hlen,hrn,qn,ac,an,s1,hc,r1,rvF,t2,ZgW,e7,ZaY,q2,q4,Qcy,c5,d5,hmc,hmD,r2,r3,q3]
 ·have hbt:b=true:=hb.mpr hle
  subst hbt
  have rf:=ZmJ (Ls.map ldD) (ZaG (Zae Ls g rows [])) g k (by omega) (by omega) hle
  generalize (((Qaw Ls.length).map fun i=>decide (k.getD i 0<g.getD i 0)).map D.bl)=B at *
  generalize (Ls.length:Int)=nL at *
  generalize ((Qaw Ls.length).map fun (i:Nat)=>D.int (i:Int))=RG at *
  generalize ZaG (Zae Ls g rows [])=T at *
  generalize rows.map Zcm=R at *
  generalize Ls.map ldD=L at *
  generalize ns.map D.int=N at *
  have i1:=fun d e f p q r s=>(hin d e f p q r s 0).1
  simp only [ZgO,Zig,Zh,Z4,ZS,blO,Zgv,ZaX,asB,Zs,ZH,pks,pk,Zf,Zb,Zk,Zz,ZR,ZQ,i1,rdA,rdP,Qaf,Qad,Qah,QaA,hlen,hrn,qn,ac,an,rf,ZaY,q1]
def top (i:Nat):Stmt:=PySem.Challenge.pw_cubebook_k33_rolled.main.body.getD i (.Pass ⟨0,0,0,0⟩)
abbrev Zdc:Stmt:=top 1
abbrev Zcf:Stmt:=top 7
abbrev Zbs:Stmt:=top 9
abbrev ZbB:Stmt:=top 10
abbrev Zcd:Stmt:=top 11
abbrev ZcH:Stmt:=top 13
abbrev Zdd:Stmt:=top 14
abbrev Zb0:Stmt:=top 16
abbrev ZbX:Stmt:=top 18
abbrev Za8:Stmt:=top 19
abbrev Zap:Stmt:=top 20
abbrev Zdg:Stmt:=top 21
abbrev Zbf:Stmt:=top 23
abbrev Zbp:Stmt:=top 24
abbrev Zb7:Stmt:=top 25
abbrev ZbN:Stmt:=top 26
abbrev Zbt:Stmt:=top 27
abbrev Zbd:Stmt:=top 28
abbrev Zb2:Stmt:=top 29
abbrev Zcc:Stmt:=top 30
abbrev Zdf:Stmt:=top 31
abbrev Za6:Stmt:=top 32
abbrev Zaz:Stmt:=top 33
abbrev Zbc:Stmt:=top 34
abbrev Zbj:Stmt:=top 35
abbrev ZbK:Stmt:=top 36
abbrev Zay:Stmt:=top 37
abbrev Zbi:Stmt:=top 38
abbrev Zbe:Stmt:=top 39
abbrev ZcR:Stmt:=top 40
structure AD where
 a0:Addr
 d0:QaH
 a1:Addr
 d1:QaH
 a2:Addr
 d2:QaH
 a3:Addr
 d3:QaH
 a4:Addr
 d4:QaH
 a5:Addr
 d5:QaH
 a6:Addr
 d6:QaH
 a7:Addr
 d7:QaH
 a8:Addr
 d8:QaH
 a9:Addr
 d9:QaH
 a10:Addr
 d10:QaH
 a11:Addr
 d11:QaH
 a12:Addr
 d12:QaH
 a13:Addr
 d13:QaH
 a14:Addr
 d14:QaH
 a15:Addr
 d15:QaH
 a16:Addr
 d16:QaH
 a17:Addr
 d17:QaH
 a18:Addr
 d18:QaH
 a19:Addr
 d19:QaH
 a20:Addr
 d20:QaH
 a21:Addr
 d21:QaH
 a22:Addr
 d22:QaH
 a23:Addr
 d23:QaH
 a24:Addr
 d24:QaH
 a25:Addr
 d25:QaH
 a26:Addr
 d26:QaH
 a27:Addr
 d27:QaH
 a28:Addr
 d28:QaH
 a29:Addr
 d29:QaH
 a_CubeError:Addr
 a_NoGrain:Addr
 a_TooMuch:Addr
structure Tx (K:Qab) (mg:Str->Option Value) (d:AD):Prop where
 m0:mg "merged"=some (.ref d.a0)
 F0:Fun K "merged" "merged" Zdc d.a0 d.d0
 b0:Binds K d.d0 ["one","other"] []
 m1:mg "is_whole"=some (.ref d.a1)
 F1:Fun K "is_whole" "is_whole" Zcf d.a1 d.d1
 b1:Binds K d.d1 ["thing"] []
 m2:mg "value_rank"=some (.ref d.a2)
 F2:Fun K "value_rank" "value_rank" Zbs d.a2 d.d2
 b2:Binds K d.d2 ["thing"] []
 m3:mg "key_rank"=some (.ref d.a3)
 F3:Fun K "key_rank" "key_rank" ZbB d.a3 d.d3
 b3:Binds K d.d3 ["key"] []
 m4:mg "in_order"=some (.ref d.a4)
 F4:Fun K "in_order" "in_order" Zcd d.a4 d.d4
 b4:Binds K d.d4 ["keys"] []
 m5:mg "line_at"=some (.ref d.a5)
 F5:Fun K "line_at" "line_at" ZcH d.a5 d.d5
 b5:Binds K d.d5 ["line","level"] []
 m6:mg "lifts"=some (.ref d.a6)
 F6:Fun K "lifts" "lifts" Zdd d.a6 d.d6
 b6:Binds K d.d6 ["ladder","level","other"] []
 m7:mg "as_fine"=some (.ref d.a7)
 F7:Fun K "as_fine" "as_fine" Zb0 d.a7 d.d7
 b7:Binds K d.d7 ["one","other"] []
 m8:mg "ways_up"=some (.ref d.a8)
 F8:Fun K "ways_up" "ways_up" ZbX d.a8 d.d8
 b8:Binds K d.d8 ["ladders","grain","to"] []
 m9:mg "goes_along"=some (.ref d.a9)
 F9:Fun K "goes_along" "goes_along" Za8 d.a9 d.d9
 b9:Binds K d.d9 ["ways","key"] []
 m10:mg "merged_along"=some (.ref d.a10)
 F10:Fun K "merged_along" "merged_along" Zap d.a10 d.d10
 b10:Binds K d.d10 ["ways","table"] []
 m11:mg "rolled"=some (.ref d.a11)
 F11:Fun K "rolled" "rolled" Zdg d.a11 d.d11
 b11:Binds K d.d11 ["ladders","table","grain","to"] []
 m12:mg "_law_cell_at"=some (.ref d.a12)
 F12:Fun K "_law_cell_at" "_law_cell_at" Zbf d.a12 d.d12
 b12:Binds K d.d12 ["_law_script","_law_k"] []
 m13:mg "_law_stream"=some (.ref d.a13)
 F13:Fun K "_law_stream" "_law_stream" Zbp d.a13 d.d13
 b13:Binds K d.d13 ["_law_cell","_law_place"] []
 m14:mg "_law_word"=some (.ref d.a14)
 F14:Fun K "_law_word" "_law_word" Zb7 d.a14 d.d14
 b14:Binds K d.d14 ["_law_cell","_law_many"] []
 m15:mg "_law_value"=some (.ref d.a15)
 F15:Fun K "_law_value" "_law_value" ZbN d.a15 d.d15
 b15:Binds K d.d15 ["_law_way","_law_cell","_law_k"] []
 m16:mg "_law_ladder"=some (.ref d.a16)
 F16:Fun K "_law_ladder" "_law_ladder" Zbt d.a16 d.d16
 b16:Binds K d.d16 ["_law_cell","_law_many","_law_places"] []
 m17:mg "_law_ladders"=some (.ref d.a17)
 F17:Fun K "_law_ladders" "_law_ladders" Zbd d.a17 d.d17
 b17:Binds K d.d17 ["_law_script"] []
 m18:mg "_law_row"=some (.ref d.a18)
 F18:Fun K "_law_row" "_law_row" Zb2 d.a18 d.d18
 b18:Binds K d.d18 ["_law_cell","_law_place","_law_ladders_here"] []
 m19:mg "_law_rank"=some (.ref d.a19)
 F19:Fun K "_law_rank" "_law_rank" Zcc d.a19 d.d19
 b19:Binds K d.d19 ["_law_value_here"] []
 m20:mg "_law_up"=some (.ref d.a20)
 F20:Fun K "_law_up" "_law_up" Zdf d.a20 d.d20
 b20:Binds K d.d20 ["_law_ladder_here","_law_value_here","_law_level"] []
 m21:mg "_law_key_at"=some (.ref d.a21)
 F21:Fun K "_law_key_at" "_law_key_at" Za6 d.a21 d.d21
 b21:Binds K d.d21 ["_law_ladders_here","_law_spot","_law_grain_here"] []
 m22:mg "_law_key_rank"=some (.ref d.a22)
 F22:Fun K "_law_key_rank" "_law_key_rank" Zaz d.a22 d.d22
 b22:Binds K d.d22 ["_law_spot"] []
 m23:mg "_law_cell_of"=some (.ref d.a23)
 F23:Fun K "_law_cell_of" "_law_cell_of" Zbc d.a23 d.d23
 b23:Binds K d.d23 ["_law_amounts"] []
 m24:mg "_law_table"=some (.ref d.a24)
 F24:Fun K "_law_table" "_law_table" Zbj d.a24 d.d24
 b24:Binds K d.d24 ["_law_ladders_here","_law_rows_here","_law_grain_here"] []
 m25:mg "_law_grain"=some (.ref d.a25)
 F25:Fun K "_law_grain" "_law_grain" ZbK d.a25 d.d25
 b25:Binds K d.d25 ["_law_cell","_law_ladders_here"] []
 m26:mg "_law_is_table"=some (.ref d.a26)
 F26:Fun K "_law_is_table" "_law_is_table" Zay d.a26 d.d26
 b26:Binds K d.d26 ["_law_found"] []
 m27:mg "_law_rows"=some (.ref d.a27)
 F27:Fun K "_law_rows" "_law_rows" Zbi d.a27 d.d27
 b27:Binds K d.d27 ["_law_script","_law_ladders_here"] []
 m28:mg "_law_refused"=some (.ref d.a28)
 F28:Fun K "_law_refused" "_law_refused" Zbe d.a28 d.d28
 b28:Binds K d.d28 ["_law_ladders_here","_law_table_here","_law_grain_here","_law_to"] []
 m29:mg "law"=some (.ref d.a29)
 F29:Fun K "law" "law" ZcR d.a29 d.d29
 b29:Binds K d.d29 ["_law_script"] []
 n_ValueError:mg "ValueError"=none
 n_all:mg "all"=none
 n_any:mg "any"=none
 n_bool:mg "bool"=none
 n_dict:mg "dict"=none
 n_enumerate:mg "enumerate"=none
 n_int:mg "int"=none
 n_isinstance:mg "isinstance"=none
 n_len:mg "len"=none
 n_list:mg "list"=none
 n_max:mg "max"=none
 n_min:mg "min"=none
 n_range:mg "range"=none
 n_sorted:mg "sorted"=none
 n_str:mg "str"=none
 n_sum:mg "sum"=none
 n_tuple:mg "tuple"=none
 n_zip:mg "zip"=none
 m_CubeError:mg "CubeError"=some (.ref d.a_CubeError)
 q_CubeError:Qar K Qak "CubeError"=some (some (.ref d.a_CubeError))
 m_NoGrain:mg "NoGrain"=some (.ref d.a_NoGrain)
 q_NoGrain:Qar K Qak "NoGrain"=some (some (.ref d.a_NoGrain))
 m_TooMuch:mg "TooMuch"=some (.ref d.a_TooMuch)
 q_TooMuch:Qar K Qak "TooMuch"=some (some (.ref d.a_TooMuch))
 k_NoGrain:XMk K d.a_NoGrain
 f_NoGrain:Zce K d.a_NoGrain
 p_NoGrain_NoGrain:Qcn K (.ref d.a_NoGrain) (.ref d.a_NoGrain)=some (ZcB "NoGrain" "NoGrain")
 p_NoGrain_TooMuch:Qcn K (.ref d.a_NoGrain) (.ref d.a_TooMuch)=some (ZcB "TooMuch" "NoGrain")
 p_NoGrain_ValueError:Qcn K (.ref d.a_NoGrain) (.type "ValueError")=some (ZcB "ValueError" "NoGrain")
 x_NoGrain_CubeError:PySem.W.exmOne K (.ref d.a_NoGrain) (.ref d.a_CubeError)=some true
section
variable {P:Qav} {w:World} {K:Qab} {mg:Str->Option Value} {base:Heap} {d:AD}
theorem Zjq {c:Str} (h:CS.contains c=true):c="NoGrain":=by
 simpa [CS] using h
theorem Zjl (T:Tx K mg d):∀ c D,CS.contains c=true->Qar K Qak c=some (some (.ref D))->PySem.W.exmOne K (.ref D) (.ref d.a_CubeError)=some true:=by
 intro c D h e
 rcases Zjq h with rfl
 ·have z:=e.symm.trans T.q_NoGrain;cases z;exact T.x_NoGrain_CubeError
theorem Zlw (T:Tx K mg d):∀ c D,CS.contains c=true->Qar K Qak c=some (some (.ref D))->Zce K D/\Qcn K (.ref D) (.ref d.a_NoGrain)=some (ZcB "NoGrain" c):=by
 intro c D h e
 rcases Zjq h with rfl
 ·have z:=e.symm.trans T.q_NoGrain;cases z;exact ⟨T.f_NoGrain,T.p_NoGrain_NoGrain⟩
theorem Zlo (T:Tx K mg d):∀ c D,CS.contains c=true->Qar K Qak c=some (some (.ref D))->Zce K D/\Qcn K (.ref D) (.ref d.a_TooMuch)=some (ZcB "TooMuch" c):=by
 intro c D h e
 rcases Zjq h with rfl
 ·have z:=e.symm.trans T.q_NoGrain;cases z;exact ⟨T.f_NoGrain,T.p_NoGrain_TooMuch⟩
theorem Zh9 (T:Tx K mg d):∀ c D,CS.contains c=true->Qar K Qak c=some (some (.ref D))->Zce K D/\Qcn K (.ref D) (.type "ValueError")=some (ZcB "ValueError" c):=by
 intro c D h e
 rcases Zjq h with rfl
 ·have z:=e.symm.trans T.q_NoGrain;cases z;exact ⟨T.f_NoGrain,T.p_NoGrain_ValueError⟩
theorem ZnF:ZD ["one","other"] ["one","other"] (Zg Zdc):=⟨rfl,rfl,rfl,by decide +kernel,rfl,by decide +kernel,by decide +kernel⟩
theorem ZoY (T:Tx K mg d):FnOk P w K mg base CX0 1 d.a0 d.d0 ["one","other"] (spD K Zd1) :=
 by
 refine ZW (N:=["one","other"]) (ps:=["one","other"]) T.F0 ZnF (by decide) (g:=Zhk) (fun cdv A outer s H E M H0 hr=>?_)
 refine ZU (Zc (Zw (Zas (Za (Zi (Zv (j_p (Zn (Zl 0) (j_p Zd) (fun _ _=>rfl))) (j_p (Zn (Zl 1) (j_p Zd) (fun _ _=>rfl))))) (Za (Zi (Zv (j_p (Zn (Zl 0) (j_p Zd) (fun _ _=>rfl))) (j_p (Zn (Zl 1) (j_p Zd) (fun _ _=>rfl))))) (Za (Zi (ZC (ZnY rfl) Zry (by rfl) T.n_min (by rfl) (Za (Zi (Zn (Zl 0) (j_p Zd) (fun _ _=>rfl))) (Za (Zi (Zn (Zl 1) (j_p Zd) (fun _ _=>rfl))) Ze)))) (Za (Zi (ZC (ZnJ rfl) Zq8 (by rfl) T.n_max (by rfl) (Za (Zi (Zn (Zl 0) (j_p Zd) (fun _ _=>rfl))) (Za (Zi (Zn (Zl 1) (j_p Zd) (fun _ _=>rfl))) Ze)))) Ze))))))
   Zj) ?_
 rfl
theorem Zll:ZD ["thing"] ["thing"] (Zg Zcf):=⟨rfl,rfl,rfl,by decide +kernel,rfl,by decide +kernel,by decide +kernel⟩
theorem ZlA (T:Tx K mg d):FnOk P w K mg base CX0 1 d.a1 d.d1 ["thing"] (spD K ZfS) :=
 by
 refine ZW (N:=["thing"]) (ps:=["thing"]) T.F1 Zll (by decide) (g:=Zfp) (fun cdv A outer s H E M H0 hr=>?_)
 refine ZU (Zc (Zw (Zfs (ZC ZbR Zex (by rfl) T.n_isinstance (by rfl) (Za (Zp 0) (Za (Zi (ZbW (n:="int") (by rfl) T.n_int (by rfl))) Ze))) (Zhu (Zlh (ZC ZbR Zex (by rfl) T.n_isinstance (by rfl) (Za (Zp 0) (Za (Zi (ZbW (n:="bool") (by rfl) T.n_bool (by rfl))) Ze)))))))
   Zj) ?_
 rfl
theorem Zm8:ZD ["line","level"] ["line","level"] (Zg ZcH):=⟨rfl,rfl,rfl,by decide +kernel,rfl,by decide +kernel,by decide +kernel⟩
theorem Zhy (T:Tx K mg d):FnOk P w K mg base CX0 1 d.a5 d.d5 ["line","level"] (spD K ZbT) :=
 by
 refine ZW (N:=["line","level"]) (ps:=["line","level"]) T.F5 Zm8 (by decide) (g:=ZeB) (fun cdv A outer s H E M H0 hr=>?_)
 refine ZU (Zc (Zw (ZhU (Zkf hr.units (Zl 1) (j_p (ZC ZbA ZcK (by rfl) T.n_len (by rfl) (Za (Zp 0) Ze)))) (Zn (Zl 0) (Zl 1) (fun _ _=>rfl)) Zhq))
   Zj) ?_
 rfl
theorem Znn:ZD ["one","other"] ["one","other"] (Zg Zb0):=⟨rfl,rfl,rfl,by decide +kernel,rfl,by decide +kernel,by decide +kernel⟩
theorem Zh1 (T:Tx K mg d):FnOk P w K mg base CX0 1 d.a7 d.d7 ["one","other"] (spD K ZeA) :=
 by
 refine ZW (N:=["one","other"]) (ps:=["one","other"]) T.F7 Znn (by decide) (g:=Zei) (fun cdv A outer s H E M H0 hr=>?_)
 refine ZU (Zc (Zw (ZC (Zli rfl) ZoC (by rfl) T.n_all (by rfl) (Za (Zi (ZaI (Z0 ["level","other_level"] [] [] (show Zac ["level","other_level"] [] _ (Zg Zb0) from ⟨rfl,by decide +kernel,by decide +kernel,by decide +kernel,by decide +kernel,by decide +kernel⟩) rfl rfl  (Zdq (by rfl) T.n_zip (ZaO 0) (ZaO 1)) (fun _ _ _ _ _ _ _=>(Za5 (n:=2) rfl (ZI (Zq (i:=0) (show ((["level","other_level"]:List Str)++([]:List Str)).Nodup by decide +kernel) rfl (Or.inl rfl)) (ZI (Zq (i:=1) (show ((["level","other_level"]:List Str)++([]:List Str)).Nodup by decide +kernel) rfl (Or.inl rfl)) ZaJ)))) (fun _ _ _ _ _ _ _=>Z3) (fun _ _ _ _ _ _ _=>(Zri hr.units (Zl 0) (Zl 1))) (by decide)))) Ze)))
   Zj) ?_
 rfl
theorem Zjf:ZD ["ways","key"] ["ways","key"] (Zg Za8):=⟨rfl,rfl,rfl,by decide +kernel,rfl,by decide +kernel,by decide +kernel⟩
theorem Zjj (T:Tx K mg d):FnOk P w K mg base CX0 1 d.a9 d.d9 ["ways","key"] (spD K ZcS) :=
 by
 refine ZW (N:=["ways","key"]) (ps:=["ways","key"]) T.F9 Zjf (by decide) (g:=ZcY) (fun cdv A outer s H E M H0 hr=>?_)
 refine ZU (Zc (Zw (ZC (Zli rfl) ZoC (by rfl) T.n_all (by rfl) (Za (Zi (ZaI (Z0 ["way","value"] [] [] (show Zac ["way","value"] [] _ (Zg Za8) from ⟨rfl,by decide +kernel,by decide +kernel,by decide +kernel,by decide +kernel,by decide +kernel⟩) rfl rfl  (Zdq (by rfl) T.n_zip (ZaO 0) (ZaO 1)) (fun _ _ _ _ _ _ _=>(Za5 (n:=2) rfl (ZI (Zq (i:=0) (show ((["way","value"]:List Str)++([]:List Str)).Nodup by decide +kernel) rfl (Or.inl rfl)) (ZI (Zq (i:=1) (show ((["way","value"]:List Str)++([]:List Str)).Nodup by decide +kernel) rfl (Or.inl rfl)) ZaJ)))) (fun _ _ _ _ _ _ _=>Z3) (fun _ _ _ _ _ _ _=>(Zo9 hr.units (Zl 1) (Zl 0))) (by decide)))) Ze)))
   Zj) ?_
 rfl
theorem Zio:ZD ["_law_script","_law_k"] ["_law_script","_law_k"] (Zg Zbf):=⟨rfl,rfl,rfl,by decide +kernel,rfl,by decide +kernel,by decide +kernel⟩
theorem Zaq (T:Tx K mg d):FnOk P w K mg base CX0 1 d.a12 d.d12 ["_law_script","_law_k"] (spD K ZF) :=
 by
 refine ZW (N:=["_law_script","_law_k"]) (ps:=["_law_script","_law_k"]) T.F12 Zio (by decide) (g:=Zcp) (fun cdv A outer s H E M H0 hr=>?_)
 refine ZU (Zc (Z5 (Zkf hr.units (Zl 1) (j_p (ZC ZbA ZcK (by rfl) T.n_len (by rfl) (Za (Zp 0) Ze))))
   (Zc (Zw (Zn (Zl 0) (Zl 1) (fun _ _=>rfl)))
   Zj)
   Zj)
   (Zc (Zw Zd)
   Zj)) ?_
 rfl
theorem sc_law_stream:ZD ["_law_cell","_law_place","_law_number","_law_some","_law_k"] ["_law_cell","_law_place"] (Zg Zbp):=⟨rfl,rfl,rfl,by decide +kernel,rfl,by decide +kernel,by decide +kernel⟩
theorem Zdv (T:Tx K mg d):FnOk P w K mg base CX0 1 d.a13 d.d13 ["_law_cell","_law_place"] (spD K Zbr) :=
 by
 refine ZW (N:=["_law_cell","_law_place","_law_number","_law_some","_law_k"]) (ps:=["_law_cell","_law_place"]) T.F13 sc_law_stream (by decide) (g:=Zd3) (fun cdv A outer s H E M H0 hr=>?_)
 refine ZU (Zc (ZA (i:=2) sc_law_stream.nd rfl (Or.inl rfl) (ZE (j_p (Zv (Zl 0) (j_p (Zbl (j_p Zd) (Zl 1))))) (j_p Zd)))
   (Zc (Zbx (i:=3) sc_law_stream.nd rfl (Or.inl rfl) (ZaB Ze))
   (Zc (ZaQ Qbm rfl (Za1 (by rfl) T.n_range (Za (Zi Zd) Ze)) (Zq (i:=4) sc_law_stream.nd rfl (Or.inl rfl))
   (Zc (ZA (i:=2) sc_law_stream.nd rfl (Or.inl rfl) (ZE (j_p (Zv (j_p (Zv (j_p (Zbl (Zl 2) (j_p Zd))) (j_p (Zbl (j_p Zd) (Zl 4))))) (j_p Zd))) (j_p Zd)))
   (Zc (Zbk (i:=3) rfl (by first | exact Or.inl rfl | exact Or.inr (Or.inl rfl)) (Zai (Zl 2) (j_p Zd)))
   Zj)))
   (Zc (Zw (ZdN (Zl 3) (Zdp (j_p Zd)) ZgE))
   Zj)))) ?_
 rfl
theorem sc_law_word:ZD ["_law_cell","_law_many","_law_signs","_law_word_here","_law_k"] ["_law_cell","_law_many"] (Zg Zb7):=⟨rfl,rfl,rfl,by decide +kernel,rfl,by decide +kernel,by decide +kernel⟩
theorem ZlE (T:Tx K mg d):FnOk P w K mg base CX0 1 d.a14 d.d14 ["_law_cell","_law_many"] (spD K Zc1) :=
 by
 refine ZW (N:=["_law_cell","_law_many","_law_signs","_law_word_here","_law_k"]) (ps:=["_law_cell","_law_many"]) T.F14 sc_law_word (by decide) (g:=ZfI) (fun cdv A outer s H E M H0 hr=>?_)
 refine ZU (Zc (ZA (i:=2) sc_law_word.nd rfl (Or.inl rfl) Zd7)
   (Zc (ZA (i:=3) sc_law_word.nd rfl (Or.inl rfl) (Zn (Zl 2) (j_p (ZE (Zl 0) (j_p Zd))) (fun _ _=>rfl)))
   (Zc (ZaQ Qbm rfl (Za1 (by rfl) T.n_range (Za (Zi (ZcD 1)) Ze)) (Zq (i:=4) sc_law_word.nd rfl (Or.inl rfl))
   (Zc (ZA (i:=3) sc_law_word.nd rfl (Or.inl rfl) (Zv (Zl 3) (j_p (Zn (Zl 2) (j_p (ZE (j_p (Zai (Zl 0) (j_p (Zv (Zl 4) (j_p Zd))))) (j_p Zd))) (fun _ _=>rfl)))))
   Zj))
   (Zc (Zw (ZcD 3))
   Zj)))) ?_
 rfl
theorem ZlC:ZD ["_law_value_here"] ["_law_value_here"] (Zg Zcc):=⟨rfl,rfl,rfl,by decide +kernel,rfl,by decide +kernel,by decide +kernel⟩
theorem Zlx (T:Tx K mg d):FnOk P w K mg base CX0 1 d.a19 d.d19 ["_law_value_here"] (spD K ZdM) :=
 by
 refine ZW (N:=["_law_value_here"]) (ps:=["_law_value_here"]) T.F19 ZlC (by decide) (g:=ZfN) (fun cdv A outer s H E M H0 hr=>?_)
 refine ZU (Zc (Z5 (ZjH (Zl 0))
   (Zc (Zw (Zas (Za (Zi Zd) (Za (Zi Zd) (Za (Zi Zd7) Ze)))))
   Zj)
   Zj)
   (Zc (Z5 (Zaw (j_p (ZC ZbR Zex (by rfl) T.n_isinstance (by rfl) (Za (Zp 0) (Za (Zi (ZbW (n:="int") (by rfl) T.n_int (by rfl))) Ze)))))
   (Zc (Zw (Zas (Za (Zi Zd) (Za (Zi (ZcD 0)) (Za (Zi Zd7) Ze)))))
   Zj)
   Zj)
   (Zc (Zw (Zas (Za (Zi Zd) (Za (Zi Zd) (Za (Zi (ZcD 0)) Ze)))))
   Zj))) ?_
 rfl
theorem sc_law_up:ZD ["_law_ladder_here","_law_value_here","_law_level","_law_line"] ["_law_ladder_here","_law_value_here","_law_level"] (Zg Zdf):=⟨rfl,rfl,rfl,by decide +kernel,rfl,by decide +kernel,by decide +kernel⟩
theorem ZoO (T:Tx K mg d):FnOk P w K mg base CX0 1 d.a20 d.d20 ["_law_ladder_here","_law_value_here","_law_level"] (spD K Zhi) :=
 by
 refine ZW (N:=["_law_ladder_here","_law_value_here","_law_level","_law_line"]) (ps:=["_law_ladder_here","_law_value_here","_law_level"]) T.F20 sc_law_up (by decide) (g:=ZfO) (fun cdv A outer s H E M H0 hr=>?_)
 refine ZU (Zc (ZaQ Qbm rfl (ZaP (ZaO 0)) (Zq (i:=3) sc_law_up.nd rfl (Or.inl rfl))
   (Zc (Z5 (ZdY hr.units (j_p (Zn (Zl 3) (j_p Zd) (fun _ _=>rfl))) (Zl 1))
   (Zc (Zw (Zn (j_p (Zv (Zl 3) (j_p (Zas (Za (Zi Zhq) Ze))))) (Zl 2) (fun _ _=>rfl)))
   Zj)
   Zj)
   Zj))
   (Zc (Zw Zhq)
   Zj)) ?_
 rfl
theorem sc_law_cell_of:ZD ["_law_amounts","_law_some"] ["_law_amounts"] (Zg Zbc):=⟨rfl,rfl,rfl,by decide +kernel,rfl,by decide +kernel,by decide +kernel⟩
theorem Zib (T:Tx K mg d):FnOk P w K mg base CX0 1 d.a23 d.d23 ["_law_amounts"] (spD K Zcs) :=
 by
 refine ZW (N:=["_law_amounts","_law_some"]) (ps:=["_law_amounts"]) T.F23 sc_law_cell_of (by decide) (g:=ZdE) (fun cdv A outer s H E M H0 hr=>?_)
 refine ZU (Zc (ZA (i:=1) sc_law_cell_of.nd rfl (Or.inl rfl) (ZaI (Zmy ZmO ZpW (by rfl) T.n_sorted (by rfl) (Za (Zp 0) Ze))))
   (Zc (Zw (Zas (Za (Zi (ZC ZbA ZcK (by rfl) T.n_len (by rfl) (Za (Zp 1) Ze))) (Za (Zi (ZC (ZnC rfl) ZtF (by rfl) T.n_sum (by rfl) (Za (Zp 1) Ze))) (Za (Zi (Zn (Zl 1) (j_p Zd) (fun _ _=>rfl))) (Za (Zi (Zn (Zl 1) (j_p (ZjN (j_p Zd))) (fun _ _=>rfl))) Ze))))))
   Zj)) ?_
 rfl
theorem sc_law_grain:ZD ["_law_cell","_law_ladders_here","_law_levels","_law_k","_law_ladder_here"] ["_law_cell","_law_ladders_here"] (Zg ZbK):=⟨rfl,rfl,rfl,by decide +kernel,rfl,by decide +kernel,by decide +kernel⟩
theorem ZgJ (T:Tx K mg d):FnOk P w K mg base CX0 1 d.a25 d.d25 ["_law_cell","_law_ladders_here"] (spD K Zdj) :=
 by
 refine ZW (N:=["_law_cell","_law_ladders_here","_law_levels","_law_k","_law_ladder_here"]) (ps:=["_law_cell","_law_ladders_here"]) T.F25 sc_law_grain (by decide) (g:=Zdl) (fun cdv A outer s H E M H0 hr=>?_)
 refine ZU (Zc (Zbx (i:=2) sc_law_grain.nd rfl (Or.inl rfl) (ZaB Ze))
   (Zc (ZaQ Qbm rfl (Zez (by rfl) T.n_enumerate (ZaO 1)) (Za5 (n:=2) rfl (ZI (Zq (i:=3) sc_law_grain.nd rfl (Or.inl rfl)) (ZI (Zq (i:=4) sc_law_grain.nd rfl (Or.inl rfl)) ZaJ)))
   (Zc (Zbk (i:=2) rfl (by first | exact Or.inl rfl | exact Or.inr (Or.inl rfl)) (ZE (j_p (Zai (Zl 0) (j_p (Zn (j_p (ZaI (ZaB (Za (Zi Zd) (Za (Zi Zd) (Za (Zi Zd) (Za (Zi Zd) Ze))))))) (Zl 3) (fun _ _=>rfl))))) (j_p (Zv (j_p (ZC ZbA ZcK (by rfl) T.n_len (by rfl) (Za (Zi (Zn (Zl 4) (j_p Zd) (fun _ _=>rfl))) Ze))) (j_p Zd)))))
   Zj))
   (Zc (Zw (Zal Zan Zby (by rfl) T.n_tuple (by rfl) (Za (Zp 2) Ze)))
   Zj))) ?_
 rfl
theorem sc_law_is_table:ZD ["_law_found","_law_one"] ["_law_found"] (Zg Zay):=⟨rfl,rfl,rfl,by decide +kernel,rfl,by decide +kernel,by decide +kernel⟩
theorem ZhK (T:Tx K mg d):FnOk P w K mg base CX0 1 d.a26 d.d26 ["_law_found"] (spD K Zc7) :=
 by
 refine ZW (N:=["_law_found","_law_one"]) (ps:=["_law_found"]) T.F26 sc_law_is_table (by decide) (g:=Zch) (fun cdv A outer s H E M H0 hr=>?_)
 refine ZU (Zc (Z5 (ZbZ (Zaw (j_p (ZC ZbR Zex (by rfl) T.n_isinstance (by rfl) (Za (Zp 0) (Za (Zi (ZbW (n:="list") (by rfl) T.n_list (by rfl))) Ze))))))
   (Zc (Zw Zc9)
   Zj)
   Zj)
   (Zc (ZaQ Qbm rfl (ZaP (ZaO 0)) (Zq (i:=1) sc_law_is_table.nd rfl (Or.inl rfl))
   (Zc (Z5 (Zm3 (ZdT (ZbZ (Zaw (j_p (ZC ZbR Zex (by rfl) T.n_isinstance (by rfl) (Za (Zp 1) (Za (Zi (ZbW (n:="tuple") (by rfl) T.n_tuple (by rfl))) Ze)))))) (ZdT (ZdV hr.units (j_p (ZC ZbA ZcK (by rfl) T.n_len (by rfl) (Za (Zp 1) Ze))) (j_p Zd)) (ZfF (ZbZ (Zaw (j_p (ZC ZbR Zex (by rfl) T.n_isinstance (by rfl) (Za (Zi (Zn (Zl 1) (j_p Zd) (fun _ _=>rfl))) (Za (Zi (ZbW (n:="tuple") (by rfl) T.n_tuple (by rfl))) Ze))))))))))
   (Zc (Zw Zc9)
   Zj)
   Zj)
   (Zc (Z5 (Zm3 (ZdT (ZbZ (Zaw (j_p (ZC ZbR Zex (by rfl) T.n_isinstance (by rfl) (Za (Zi (Zn (Zl 1) (j_p Zd) (fun _ _=>rfl))) (Za (Zi (ZbW (n:="tuple") (by rfl) T.n_tuple (by rfl))) Ze)))))) (ZfF (Zaw (j_p (ZC (ZjZ rfl) Zon (by rfl) T.n_any (by rfl) (Za (Zi (ZaI (Z0 ["_law_part"] [] [] (show Zac ["_law_part"] [] _ (Zg Zay) from ⟨rfl,by decide +kernel,by decide +kernel,by decide +kernel,by decide +kernel,by decide +kernel⟩) rfl rfl  (ZaP (j_q (Zv (j_p (Zn (Zl 1) (j_p Zd) (fun _ _=>rfl))) (j_p (Zn (Zl 1) (j_p Zd) (fun _ _=>rfl)))))) (fun _ _ _ _ _ _ _=>(Zq (i:=0) (show ((["_law_part"]:List Str)++([]:List Str)).Nodup by decide +kernel) rfl (Or.inl rfl))) (fun _ _ _ _ _ _ _=>Z3) (fun _ _ _ _ _ _ _=>(ZC ZbR Zex (by rfl) T.n_isinstance (by rfl) (Za (Zp 0) (Za (Zi (ZbW (n:="bool") (by rfl) T.n_bool (by rfl))) Ze)))) (by decide)))) Ze)))))))
   (Zc (Zw Zc9)
   Zj)
   Zj)
   Zj)))
   (Zc (Zw Zc9)
   Zj))) ?_
 rfl
theorem Zjo:ZD ["thing"] ["thing"] (Zg Zbs):=⟨rfl,rfl,rfl,by decide +kernel,rfl,by decide +kernel,by decide +kernel⟩
theorem Zje (T:Tx K mg d):FnOk P w K mg base CX0 2 d.a2 d.d2 ["thing"] (spD K ZcJ) :=
 by
 refine ZW (N:=["thing"]) (ps:=["thing"]) T.F2 Zjo (by decide) (g:=Zd4) (fun cdv A outer s H E M H0 hr=>?_)
 refine ZU (Zc (Z5 (ZjH (Zl 0))
   (Zc (Zw (Zas (Za (Zi Zd) (Za (Zi Zd) Ze))))
   Zj)
   Zj)
   (Zc (Z5 (Zaw (j_p (Zr (ZlA T) (hr.mono (by decide)) (by rfl) T.m1 T.F1.kp T.b1 (E:=E0) ZM (Za (Zp 0) Ze))))
   (Zc (Zw (Zas (Za (Zi Zd) (Za (Zi (ZcD 0)) Ze))))
   Zj)
   Zj)
   (Zc (Zw (Zas (Za (Zi Zd) (Za (Zi (ZcD 0)) Ze))))
   Zj))) ?_
 rfl
theorem Zpt:ZD ["ladder","level","other"] ["ladder","level","other"] (Zg Zdd):=⟨rfl,rfl,rfl,by decide +kernel,rfl,by decide +kernel,by decide +kernel⟩
theorem ZpZ (T:Tx K mg d):FnOk P w K mg base CX0 2 d.a6 d.d6 ["ladder","level","other"] (spD K Ziw) :=
 by
 refine ZW (N:=["ladder","level","other"]) (ps:=["ladder","level","other"]) T.F6 Zpt (by decide) (g:=Zg3) (fun cdv A outer s H E M H0 hr=>?_)
 refine ZU (Zc (Zn8 (Zrd rfl hr.units (by rfl) T.n_dict (j_p (ZaI (Z0 ["line"] ["level","other"] [1,2] (show Zac ["line"] ["level","other"] _ (Zg Zdd) from ⟨rfl,by decide +kernel,by decide +kernel,by decide +kernel,by decide +kernel,by decide +kernel⟩) rfl rfl  (ZaP (ZaO 0)) (fun _ _ _ _ _ _ _=>(Zq (i:=0) (show ((["line"]:List Str)++(["level","other"]:List Str)).Nodup by decide +kernel) rfl (Or.inl rfl))) (fun _ _ _ _ _ _ _=>Z3) (fun _ _ _ _ _ _ _=>(Zas (Za (Zi (Zr (Zhy T) (hr.mono (by decide)) (by rfl) T.m5 T.F5.kp T.b5 (E:=E0) ZM (Za (Zp 0) (Za (Zp 1) Ze)))) (Za (Zi (Zr (Zhy T) (hr.mono (by decide)) (by rfl) T.m5 T.F5.kp T.b5 (E:=E0) ZM (Za (Zp 0) (Za (Zp 2) Ze)))) Ze)))) (by decide))))))
   Zj) ?_
 rfl
theorem sc_law_value:ZD ["_law_way","_law_cell","_law_k","_law_number","_law_word_here","_law_letters","_law_at","_law_two"] ["_law_way","_law_cell","_law_k"] (Zg ZbN):=⟨rfl,rfl,rfl,by decide +kernel,rfl,by decide +kernel,by decide +kernel⟩
theorem ZkG (T:Tx K mg d):FnOk P w K mg base CX0 2 d.a15 d.d15 ["_law_way","_law_cell","_law_k"] (spD K Z6) :=
 by
 refine ZW (N:=["_law_way","_law_cell","_law_k","_law_number","_law_word_here","_law_letters","_law_at","_law_two"]) (ps:=["_law_way","_law_cell","_law_k"]) T.F15 sc_law_value (by decide) (g:=ZbM) (fun cdv A outer s H E M H0 hr=>?_)
 refine ZU (Zc (ZA (i:=3) sc_law_value.nd rfl (Or.inl rfl) (ZE (j_p (Zai (Zl 1) (j_p Zd))) (j_p (Zj9 (j_p Zd) (j_p Zd)))))
   (Zc (Z5 (ZdY hr.units (Zl 0) (j_p Zd))
   (Zc (Zw (Zv (Zl 3) (Zl 2)))
   Zj)
   Zj)
   (Zc (Z5 (ZdY hr.units (Zl 0) (j_p Zd))
   (Zc (Zw (ZfJ (j_p (ZfJ (j_p Zd) (Zl 3))) (Zl 2)))
   Zj)
   Zj)
   (Zc (ZA (i:=4) sc_law_value.nd rfl (Or.inl rfl) (Zr (ZlE T) (hr.mono (by decide)) (by rfl) T.m14 T.F14.kp T.b14 (E:=E0) ZM (Za (Zi (Zai (Zl 1) (j_p Zd))) (Za (Zi (ZE (Zl 1) (j_p Zd))) Ze))))
   (Zc (Z5 (ZdY hr.units (Zl 0) (j_p Zd))
   (Zc (Zw (Zv (Zl 4) (j_p (ZrQ PySem.F.plainAttrs_str PySem.F.slot_str_zfill PySem.F.type_str_zfill ZpD Zo5 (j_p (Zal Zkp Zrc (by rfl) T.n_str (by rfl) (Za (Zp 2) Ze))) (Za (Zi (Zv (j_p Zd) (j_p (ZE (j_p (Zai (Zl 1) (j_p Zd))) (j_p Zd))))) Ze)))))
   Zj)
   Zj)
   (Zc (ZA (i:=5) sc_law_value.nd rfl (Or.inl rfl) Zd7)
   (Zc (ZA (i:=6) sc_law_value.nd rfl (Or.inl rfl) (ZE (j_p (Zai (Zl 1) (j_p Zd))) (j_p (Zv (j_p (ZC ZbA ZcK (by rfl) T.n_len (by rfl) (Za (Zp 4) Ze))) (j_p Zd)))))
   (Zc (ZA (i:=7) sc_law_value.nd rfl (Or.inl rfl) (Zv (j_p (Zn (Zl 5) (j_p (Zai (Zl 2) (j_p Zd))) (fun _ _=>rfl))) (j_p (Zn (Zl 5) (j_p (ZE (j_p (Zv (Zl 2) (j_p (Zai (Zl 1) (j_p Zd))))) (j_p Zd))) (fun _ _=>rfl)))))
   (Zc (Zw (Zv (j_p (Zv (j_p (ZdN (Zl 4) ZgE (Zdp (Zl 6)))) (Zl 7))) (j_p (ZdN (Zl 4) (Zdp (Zl 6)) ZgE))))
   Zj))))))))) ?_
 rfl
theorem sc_law_row:ZD ["_law_cell","_law_place","_law_ladders_here","_law_s","_law_spot","_law_amount"] ["_law_cell","_law_place","_law_ladders_here"] (Zg Zb2):=⟨rfl,rfl,rfl,by decide +kernel,rfl,by decide +kernel,by decide +kernel⟩
theorem ZmN (T:Tx K mg d):FnOk P w K mg base CX0 2 d.a18 d.d18 ["_law_cell","_law_place","_law_ladders_here"] (spD K Zf3) :=
 by
 refine ZW (N:=["_law_cell","_law_place","_law_ladders_here","_law_s","_law_spot","_law_amount"]) (ps:=["_law_cell","_law_place","_law_ladders_here"]) T.F18 sc_law_row (by decide) (g:=Zdn) (fun cdv A outer s H E M H0 hr=>?_)
 refine ZU (Zc (ZA (i:=3) sc_law_row.nd rfl (Or.inr rfl) (Zr (Zdv T) (hr.mono (by decide)) (by rfl) T.m13 T.F13.kp T.b13 (E:=E0) ZM (Za (Zp 0) (Za (Zp 1) Ze))))
   (Zc (ZA (i:=4) sc_law_row.nd rfl (Or.inl rfl) (Zal Zan Zby (by rfl) T.n_tuple (by rfl) (Za (Zi (ZaI (Z0 ["_law_k","_law_ladder_here"] ["_law_s"] [3] (show Zac ["_law_k","_law_ladder_here"] ["_law_s"] _ (Zg Zb2) from ⟨rfl,by decide +kernel,by decide +kernel,by decide +kernel,by decide +kernel,by decide +kernel⟩) rfl rfl  (Zez (by rfl) T.n_enumerate (ZaO 2)) (fun _ _ _ _ _ _ _=>(Za5 (n:=2) rfl (ZI (Zq (i:=0) (show ((["_law_k","_law_ladder_here"]:List Str)++(["_law_s"]:List Str)).Nodup by decide +kernel) rfl (Or.inl rfl)) (ZI (Zq (i:=1) (show ((["_law_k","_law_ladder_here"]:List Str)++(["_law_s"]:List Str)).Nodup by decide +kernel) rfl (Or.inl rfl)) ZaJ)))) (fun _ _ _ _ _ _ _=>Z3) (fun _ _ _ _ _ _ _=>(Zn (j_p (Zn (Zl 1) (j_p (ZE (j_p (Zn (Zl 2) (Zl 0) (fun _ _=>rfl))) (j_p (ZC ZbA ZcK (by rfl) T.n_len (by rfl) (Za (Zp 1) Ze))))) (fun _ _=>rfl))) (j_p Zd) (fun _ _=>rfl))) (by decide)))) Ze)))
   (Zc (ZA (i:=5) sc_law_row.nd rfl (Or.inl rfl) (Zbl (j_p (ZE (Zl 0) (j_p (Zj9 (j_p Zd) (j_p Zd))))) (j_p (ZfJ (j_p Zd) (j_p (Zbl (j_p Zd) (j_p (ZE (j_p (Zn (Zl 3) (j_p Zd) (fun _ _=>rfl))) (j_p Zd)))))))))
   (Zc (Z5 (ZdY hr.units (j_p (ZE (j_p (Zn (Zl 3) (j_p Zd) (fun _ _=>rfl))) (j_p Zd))) (j_p Zd))
   (Zc (ZA (i:=5) sc_law_row.nd rfl (Or.inl rfl) (ZfJ (j_p (ZE (j_p (Zn (Zl 3) (j_p Zd) (fun _ _=>rfl))) (j_p Zd))) (j_p Zd)))
   Zj)
   Zj)
   (Zc (Zw (Zas (Za (Zi (ZcD 4)) (Za (Zi (ZcD 5)) Ze))))
   Zj))))) ?_
 rfl
theorem Zji:ZD ["_law_ladders_here","_law_spot","_law_grain_here"] ["_law_ladders_here","_law_spot","_law_grain_here"] (Zg Za6):=⟨rfl,rfl,rfl,by decide +kernel,rfl,by decide +kernel,by decide +kernel⟩
theorem Zjm (T:Tx K mg d):FnOk P w K mg base CX0 2 d.a21 d.d21 ["_law_ladders_here","_law_spot","_law_grain_here"] (spD K ZdZ) :=
 by
 refine ZW (N:=["_law_ladders_here","_law_spot","_law_grain_here"]) (ps:=["_law_ladders_here","_law_spot","_law_grain_here"]) T.F21 Zji (by decide) (g:=ZcZ) (fun cdv A outer s H E M H0 hr=>?_)
 refine ZU (Zc (Zw (Zal Zan Zby (by rfl) T.n_tuple (by rfl) (Za (Zi (ZaI (Z0 ["_law_ladder_here","_law_value_here","_law_level"] [] [] (show Zac ["_law_ladder_here","_law_value_here","_law_level"] [] _ (Zg Za6) from ⟨rfl,by decide +kernel,by decide +kernel,by decide +kernel,by decide +kernel,by decide +kernel⟩) rfl rfl  (Zny (by rfl) T.n_zip (ZaO 0) (ZaO 1) (ZaO 2)) (fun _ _ _ _ _ _ _=>(Za5 (n:=3) rfl (ZI (Zq (i:=0) (show ((["_law_ladder_here","_law_value_here","_law_level"]:List Str)++([]:List Str)).Nodup by decide +kernel) rfl (Or.inl rfl)) (ZI (Zq (i:=1) (show ((["_law_ladder_here","_law_value_here","_law_level"]:List Str)++([]:List Str)).Nodup by decide +kernel) rfl (Or.inl rfl)) (ZI (Zq (i:=2) (show ((["_law_ladder_here","_law_value_here","_law_level"]:List Str)++([]:List Str)).Nodup by decide +kernel) rfl (Or.inl rfl)) ZaJ))))) (fun _ _ _ _ _ _ _=>Z3) (fun _ _ _ _ _ _ _=>(Zr (ZoO T) (hr.mono (by decide)) (by rfl) T.m20 T.F20.kp T.b20 (E:=E0) ZM (Za (Zp 0) (Za (Zp 1) (Za (Zp 2) Ze))))) (by decide)))) Ze)))
   Zj) ?_
 rfl
theorem ZhE:ZD ["_law_spot"] ["_law_spot"] (Zg Zaz):=⟨rfl,rfl,rfl,by decide +kernel,rfl,by decide +kernel,by decide +kernel⟩
theorem ZhT (T:Tx K mg d):FnOk P w K mg base CX0 2 d.a22 d.d22 ["_law_spot"] (spD K Zcj) :=
 by
 refine ZW (N:=["_law_spot"]) (ps:=["_law_spot"]) T.F22 ZhE (by decide) (g:=Zb5) (fun cdv A outer s H E M H0 hr=>?_)
 refine ZU (Zc (ZcF (Z0 ["_law_value_here"] [] [] (show Zac ["_law_value_here"] [] _ (Zg Zaz) from ⟨rfl,by decide +kernel,by decide +kernel,by decide +kernel,by decide +kernel,by decide +kernel⟩) rfl rfl  (ZaP (ZaO 0)) (fun _ _ _ _ _ _ _=>(Zq (i:=0) (show ((["_law_value_here"]:List Str)++([]:List Str)).Nodup by decide +kernel) rfl (Or.inl rfl))) (fun _ _ _ _ _ _ _=>Z3) (fun _ _ _ _ _ _ _=>(Zr (Zlx T) (hr.mono (by decide)) (by rfl) T.m19 T.F19.kp T.b19 (E:=E0) ZM (Za (Zp 0) Ze))) (by decide)))
   Zj) ?_
 rfl
theorem Zlq:ZD ["key"] ["key"] (Zg ZbB):=⟨rfl,rfl,rfl,by decide +kernel,rfl,by decide +kernel,by decide +kernel⟩
theorem Zls (T:Tx K mg d):FnOk P w K mg base CX0 3 d.a3 d.d3 ["key"] (spD K ZcU) :=
 by
 refine ZW (N:=["key"]) (ps:=["key"]) T.F3 Zlq (by decide) (g:=ZfH) (fun cdv A outer s H E M H0 hr=>?_)
 refine ZU (Zc (Zw (Zal Zan Zby (by rfl) T.n_tuple (by rfl) (Za (Zi (ZaI (Z0 ["thing"] [] [] (show Zac ["thing"] [] _ (Zg ZbB) from ⟨rfl,by decide +kernel,by decide +kernel,by decide +kernel,by decide +kernel,by decide +kernel⟩) rfl rfl  (ZaP (ZaO 0)) (fun _ _ _ _ _ _ _=>(Zq (i:=0) (show ((["thing"]:List Str)++([]:List Str)).Nodup by decide +kernel) rfl (Or.inl rfl))) (fun _ _ _ _ _ _ _=>Z3) (fun _ _ _ _ _ _ _=>(Zr (Zje T) (hr.mono (by decide)) (by rfl) T.m2 T.F2.kp T.b2 (E:=E0) ZM (Za (Zp 0) Ze))) (by decide)))) Ze)))
   Zj) ?_
 rfl
theorem Zmx:ZD ["ladders","grain","to"] ["ladders","grain","to"] (Zg ZbX):=⟨rfl,rfl,rfl,by decide +kernel,rfl,by decide +kernel,by decide +kernel⟩
theorem ZmS (T:Tx K mg d):FnOk P w K mg base CX0 3 d.a8 d.d8 ["ladders","grain","to"] (spD K ZgI) :=
 by
 refine ZW (N:=["ladders","grain","to"]) (ps:=["ladders","grain","to"]) T.F8 Zmx (by decide) (g:=Zet) (fun cdv A outer s H E M H0 hr=>?_)
 refine ZU (Zc (ZcF (Z0 ["axis","ladder"] ["grain","to"] [1,2] (show Zac ["axis","ladder"] ["grain","to"] _ (Zg ZbX) from ⟨rfl,by decide +kernel,by decide +kernel,by decide +kernel,by decide +kernel,by decide +kernel⟩) rfl rfl  (Zez (by rfl) T.n_enumerate (ZaO 0)) (fun _ _ _ _ _ _ _=>(Za5 (n:=2) rfl (ZI (Zq (i:=0) (show ((["axis","ladder"]:List Str)++(["grain","to"]:List Str)).Nodup by decide +kernel) rfl (Or.inl rfl)) (ZI (Zq (i:=1) (show ((["axis","ladder"]:List Str)++(["grain","to"]:List Str)).Nodup by decide +kernel) rfl (Or.inl rfl)) ZaJ)))) (fun _ _ _ _ _ _ _=>Z3) (fun _ _ _ _ _ _ _=>(Zr (ZpZ T) (hr.mono (by decide)) (by rfl) T.m6 T.F6.kp T.b6 (E:=E0) ZM (Za (Zp 1) (Za (Zi (Zn (Zl 2) (Zl 0) (fun _ _=>rfl))) (Za (Zi (Zn (Zl 3) (Zl 0) (fun _ _=>rfl))) Ze))))) (by decide)))
   Zj) ?_
 rfl
theorem sc_law_ladder:ZD ["_law_cell","_law_many","_law_places","_law_s","_law_widths","_law_j","_law_lines","_law_k","_law_at","_law_line","_law_near"] ["_law_cell","_law_many","_law_places"] (Zg Zbt):=⟨rfl,rfl,rfl,by decide +kernel,rfl,by decide +kernel,by decide +kernel⟩
theorem Zjh (T:Tx K mg d):FnOk P w K mg base CX0 3 d.a16 d.d16 ["_law_cell","_law_many","_law_places"] (spD K ZbY) :=
 by
 refine ZW (N:=["_law_cell","_law_many","_law_places","_law_s","_law_widths","_law_j","_law_lines","_law_k","_law_at","_law_line","_law_near"]) (ps:=["_law_cell","_law_many","_law_places"]) T.F16 sc_law_ladder (by decide) (g:=Zgo) (fun cdv A outer s H E M H0 hr=>?_)
 refine ZU (Zc (ZA (i:=3) sc_law_ladder.nd rfl (Or.inl rfl) (Zr (Zdv T) (hr.mono (by decide)) (by rfl) T.m13 T.F13.kp T.b13 (E:=E0) ZM (Za (Zp 0) (Za (Zp 2) Ze))))
   (Zc (Zbx (i:=4) sc_law_ladder.nd rfl (Or.inl rfl) (ZaB (Za (Zi Zd) Ze)))
   (Zc (ZaQ Qbm rfl (ZlB (by rfl) T.n_range (Za (Zi Zd) (Za (Zi Zd) Ze))) (Zq (i:=5) sc_law_ladder.nd rfl (Or.inl rfl))
   (Zc (Zbk (i:=4) rfl (by first | exact Or.inl rfl | exact Or.inr (Or.inl rfl)) (Zn (j_p (ZaI (ZaB (Za (Zi (Zv (j_p Zd) (j_p (ZE (j_p (Zn (Zl 3) (Zl 5) (fun _ _=>rfl))) (j_p Zd))))) (Za (Zi (Zv (j_p Zd) (j_p (ZE (j_p (Zn (Zl 3) (Zl 5) (fun _ _=>rfl))) (j_p Zd))))) (Za (Zi Zd) (Za (Zi Zd) Ze))))))) (j_p (ZE (j_p (Zai (j_p (Zn (Zl 3) (Zl 5) (fun _ _=>rfl))) (j_p Zd))) (j_p Zd))) (fun _ _=>rfl)))
   Zj))
   (Zc (Zbx (i:=6) sc_law_ladder.nd rfl (Or.inl rfl) (ZaB Ze))
   (Zc (ZaQ Qbm rfl (Za1 (by rfl) T.n_range (Za (Zi (ZcD 1)) Ze)) (Zq (i:=7) sc_law_ladder.nd rfl (Or.inl rfl))
   (Zc (ZA (i:=8) sc_law_ladder.nd rfl (Or.inl rfl) (ZE (j_p (Zv (j_p (Zbl (Zl 7) (j_p (Zv (j_p Zd) (j_p (ZE (j_p (Zn (Zl 3) (j_p Zd) (fun _ _=>rfl))) (j_p Zd))))))) (j_p (Zn (Zl 3) (j_p Zd) (fun _ _=>rfl))))) (j_p Zd)))
   (Zc (Zbx (i:=9) sc_law_ladder.nd rfl (Or.inl rfl) (ZaB Ze))
   (Zc (ZaQ Qbm rfl (Za1 (by rfl) T.n_range (Za (Zi (ZcD 2)) Ze)) (Zq (i:=5) sc_law_ladder.nd rfl (Or.inl rfl))
   (Zc (Z5 (Zka hr.units (Zl 5) (j_p Zd))
   (Zc (ZA (i:=8) sc_law_ladder.nd rfl (Or.inl rfl) (ZE (j_p (Zv (j_p (Zbl (Zl 8) (j_p (Zv (j_p Zd) (j_p (ZE (j_p (Zn (Zl 3) (j_p (Zv (j_p Zd) (Zl 5))) (fun _ _=>rfl))) (j_p Zd))))))) (j_p (Zn (Zl 3) (j_p (Zv (j_p Zd) (Zl 5))) (fun _ _=>rfl))))) (j_p (Zn (Zl 4) (Zl 5) (fun _ _=>rfl)))))
   Zj)
   Zj)
   (Zc (ZA (i:=10) sc_law_ladder.nd rfl (Or.inl rfl) (Zv (Zl 0) (j_p (Zbl (j_p (Zbl (Zl 5) (j_p (ZE (j_p (Zn (Zl 3) (j_p Zd) (fun _ _=>rfl))) (j_p Zd))))) (j_p Zd)))))
   (Zc (Zbk (i:=9) rfl (by first | exact Or.inl rfl | exact Or.inr (Or.inl rfl)) (Zr (ZkG T) (hr.mono (by decide)) (by rfl) T.m15 T.F15.kp T.b15 (E:=E0) ZM (Za (Zi (ZE (j_p (Zn (Zl 3) (j_p (Zv (j_p Zd) (Zl 5))) (fun _ _=>rfl))) (j_p Zd))) (Za (Zp 10) (Za (Zp 8) Ze)))))
   Zj))))
   (Zc (Zbk (i:=6) rfl (by first | exact Or.inl rfl | exact Or.inr (Or.inl rfl)) (Zal Zan Zby (by rfl) T.n_tuple (by rfl) (Za (Zp 9) Ze)))
   Zj)))))
   (Zc (ZkQ 6)
   Zj)))))) ?_
 rfl
theorem sc_law_rows:ZD ["_law_script","_law_ladders_here","_law_head","_law_cells"] ["_law_script","_law_ladders_here"] (Zg Zbi):=⟨rfl,rfl,rfl,by decide +kernel,rfl,by decide +kernel,by decide +kernel⟩
theorem Zlt (T:Tx K mg d):FnOk P w K mg base CX0 3 d.a27 d.d27 ["_law_script","_law_ladders_here"] (spD K Zfu) :=
 by
 refine ZW (N:=["_law_script","_law_ladders_here","_law_head","_law_cells"]) (ps:=["_law_script","_law_ladders_here"]) T.F27 sc_law_rows (by decide) (g:=ZdO) (fun cdv A outer s H E M H0 hr=>?_)
 refine ZU (Zc (ZA (i:=2) sc_law_rows.nd rfl (Or.inr rfl) (Zr (Zaq T) (hr.mono (by decide)) (by rfl) T.m12 T.F12.kp T.b12 (E:=E0) ZM (Za (Zp 0) (Za (Zi Zd) Ze))))
   (Zc (ZA (i:=3) sc_law_rows.nd rfl (Or.inl rfl) (Zv (j_p (ZdN (Zl 0) (Zdp (j_p Zd)) (Zdp (j_p Zd)))) (j_p (ZaI (Z0 ["_law_k"] ["_law_head"] [2] (show Zac ["_law_k"] ["_law_head"] _ (Zg Zbi) from ⟨rfl,by decide +kernel,by decide +kernel,by decide +kernel,by decide +kernel,by decide +kernel⟩) rfl rfl  (Za1 (by rfl) T.n_range (Za (Zi (ZE (Zl 2) (j_p Zd))) Ze)) (fun _ _ _ _ _ _ _=>(Zq (i:=0) (show ((["_law_k"]:List Str)++(["_law_head"]:List Str)).Nodup by decide +kernel) rfl (Or.inl rfl))) (fun _ _ _ _ _ _ _=>Z3) (fun _ _ _ _ _ _ _=>(Zv (j_p (Zai (Zl 1) (j_p Zd))) (j_p (Zbl (j_p Zd) (Zl 0))))) (by decide))))))
   (Zc (ZcF (Z0 ["_law_k","_law_cell"] ["_law_ladders_here"] [1] (show Zac ["_law_k","_law_cell"] ["_law_ladders_here"] _ (Zg Zbi) from ⟨rfl,by decide +kernel,by decide +kernel,by decide +kernel,by decide +kernel,by decide +kernel⟩) rfl rfl  (Zez (by rfl) T.n_enumerate (ZaO 3)) (fun _ _ _ _ _ _ _=>(Za5 (n:=2) rfl (ZI (Zq (i:=0) (show ((["_law_k","_law_cell"]:List Str)++(["_law_ladders_here"]:List Str)).Nodup by decide +kernel) rfl (Or.inl rfl)) (ZI (Zq (i:=1) (show ((["_law_k","_law_cell"]:List Str)++(["_law_ladders_here"]:List Str)).Nodup by decide +kernel) rfl (Or.inl rfl)) ZaJ)))) (fun _ _ _ _ _ _ _=>Z3) (fun _ _ _ _ _ _ _=>(Zr (ZmN T) (hr.mono (by decide)) (by rfl) T.m18 T.F18.kp T.b18 (E:=E0) ZM (Za (Zp 1) (Za (Zp 0) (Za (Zp 2) Ze))))) (by decide)))
   Zj))) ?_
 rfl
theorem sc_law_ladders:ZD ["_law_script","_law_cell","_law_ladders_here","_law_k","_law_s"] ["_law_script"] (Zg Zbd):=⟨rfl,rfl,rfl,by decide +kernel,rfl,by decide +kernel,by decide +kernel⟩
theorem Ziv (T:Tx K mg d):FnOk P w K mg base CX0 4 d.a17 d.d17 ["_law_script"] (spD K ZdA) :=
 by
 refine ZW (N:=["_law_script","_law_cell","_law_ladders_here","_law_k","_law_s"]) (ps:=["_law_script"]) T.F17 sc_law_ladders (by decide) (g:=Zcv) (fun cdv A outer s H E M H0 hr=>?_)
 refine ZU (Zc (ZA (i:=1) sc_law_ladders.nd rfl (Or.inl rfl) (Zr (Zaq T) (hr.mono (by decide)) (by rfl) T.m12 T.F12.kp T.b12 (E:=E0) ZM (Za (Zp 0) (Za (Zi Zd) Ze))))
   (Zc (Zbx (i:=2) sc_law_ladders.nd rfl (Or.inl rfl) (ZaB Ze))
   (Zc (ZaQ Qbm rfl (Za1 (by rfl) T.n_range (Za (Zi (Zv (j_p (Zv (j_p Zd) (j_p (ZE (Zl 1) (j_p Zd))))) (j_p (Zal Zn5 Ztb (by rfl) T.n_int (by rfl) (Za (Zi (Zip hr.units (j_p (ZE (Zl 1) (j_p Zd))) (j_p Zd))) Ze))))) Ze)) (Zq (i:=3) sc_law_ladders.nd rfl (Or.inl rfl))
   (Zc (ZA (i:=4) sc_law_ladders.nd rfl (Or.inl rfl) (Zr (Zdv T) (hr.mono (by decide)) (by rfl) T.m13 T.F13.kp T.b13 (E:=E0) ZM (Za (Zi (Zr (Zaq T) (hr.mono (by decide)) (by rfl) T.m12 T.F12.kp T.b12 (E:=E0) ZM (Za (Zp 0) (Za (Zi (Zv (j_p Zd) (Zl 3))) Ze)))) (Za (Zp 3) Ze))))
   (Zc (Zbk (i:=2) rfl (by first | exact Or.inl rfl | exact Or.inr (Or.inl rfl)) (Zr (Zjh T) (hr.mono (by decide)) (by rfl) T.m16 T.F16.kp T.b16 (E:=E0) ZM (Za (Zi (Zr (Zaq T) (hr.mono (by decide)) (by rfl) T.m12 T.F12.kp T.b12 (E:=E0) ZM (Za (Zp 0) (Za (Zi (Zv (j_p Zd) (Zl 3))) Ze)))) (Za (Zi (Zv (j_p Zd) (j_p (ZE (j_p (Zn (Zl 4) (j_p Zd) (fun _ _=>rfl))) (j_p Zd))))) (Za (Zi (Zv (j_p Zd) (j_p (ZE (j_p (Zn (Zl 4) (j_p Zd) (fun _ _=>rfl))) (j_p Zd))))) Ze)))))
   Zj)))
   (Zc (ZkQ 2)
   Zj)))) ?_
 rfl
theorem sc_law_table:ZD ["_law_ladders_here","_law_rows_here","_law_grain_here","_law_amounts","_law_spot","_law_amount","_law_far"] ["_law_ladders_here","_law_rows_here","_law_grain_here"] (Zg Zbj):=⟨rfl,rfl,rfl,by decide +kernel,rfl,by decide +kernel,by decide +kernel⟩
theorem Zgw (T:Tx K mg d):FnOk P w K mg base CX0 5 d.a24 d.d24 ["_law_ladders_here","_law_rows_here","_law_grain_here"] (spD K Zdi) :=
 by
 refine ZW (N:=["_law_ladders_here","_law_rows_here","_law_grain_here","_law_amounts","_law_spot","_law_amount","_law_far"]) (ps:=["_law_ladders_here","_law_rows_here","_law_grain_here"]) T.F24 sc_law_table (by decide) (g:=Zdk) (fun cdv A outer s H E M H0 hr=>?_)
 refine ZU (Zc (ZiT (i:=3) sc_law_table.nd rfl (Or.inr rfl) Zk4)
   (Zc (ZaQ Qbm rfl (ZaP (ZaO 1)) (Za5 (n:=2) rfl (ZI (Zq (i:=4) sc_law_table.nd rfl (Or.inl rfl)) (ZI (Zq (i:=5) sc_law_table.nd rfl (Or.inl rfl)) ZaJ)))
   (Zc (ZA (i:=6) sc_law_table.nd rfl (Or.inl rfl) (Zr (Zjm T) (hr.mono (by decide)) (by rfl) T.m21 T.F21.kp T.b21 (E:=E0) ZM (Za (Zp 0) (Za (Zp 4) (Za (Zp 2) Ze)))))
   (Zc (ZiO (i:=3) hr.units (Zl 6) (Zv (j_p (Zoz (i:=3) hr.units (Zl 6) (ZaI (ZaB Ze)))) (j_p (ZaI (ZaB (Za (Zi (ZcD 5)) Ze))))))
   Zj)))
   (Zc (ZcF (Z0 ["_law_spot"] ["_law_amounts"] [3] (show Zac ["_law_spot"] ["_law_amounts"] _ (Zg Zbj) from ⟨rfl,by decide +kernel,by decide +kernel,by decide +kernel,by decide +kernel,by decide +kernel⟩) rfl rfl  (ZaP (j_q (ZaI (ZlF rfl (ZhT T) (hr.mono (by decide)) (by rfl) T.n_sorted (by rfl) (by rfl) T.m22 T.b22 (Zl 3))))) (fun _ _ _ _ _ _ _=>(Zq (i:=0) (show ((["_law_spot"]:List Str)++(["_law_amounts"]:List Str)).Nodup by decide +kernel) rfl (Or.inl rfl))) (fun _ _ _ _ _ _ _=>Z3) (fun _ _ _ _ _ _ _=>(Zas (Za (Zi (ZcD 0)) (Za (Zi (Zr (Zib T) (hr.mono (by decide)) (by rfl) T.m23 T.F23.kp T.b23 (E:=E0) ZM (Za (Zi (Zfo hr.units (Zl 1) (Zl 0) (fun _ _=>rfl))) Ze))) Ze)))) (by decide)))
   Zj))) ?_
 rfl
theorem sc_in_order:ZD ["keys","told","key"] ["keys"] (Zg Zcd):=⟨rfl,rfl,rfl,by decide +kernel,rfl,by decide +kernel,by decide +kernel⟩
theorem ZlD (T:Tx K mg d):FnOk P w K mg base CX0 6 d.a4 d.d4 ["keys"] (spD K Zfq) :=
 by
 refine ZW (N:=["keys","told","key"]) (ps:=["keys"]) T.F4 sc_in_order (by decide) (g:=ZdJ) (fun cdv A outer s H E M H0 hr=>?_)
 refine ZU (Zc (Zbx (i:=1) sc_in_order.nd rfl (Or.inl rfl) (ZaB Ze))
   (Zc (ZaQ Qbm rfl (ZaP (j_q (ZaI (Zng (Zls T) (hr.mono (by decide)) (by rfl) T.n_sorted (by rfl) (by rfl) T.m3 T.b3 (Zl 0))))) (Zq (i:=2) sc_in_order.nd rfl (Or.inl rfl))
   (Zc (Z5 (Zm3 (ZdT (ZbZ (Zaw (Zl 1))) (ZfF (ZdV hr.units (j_p (Zn (Zl 1) (j_p (ZjN (j_p Zd))) (fun _ _=>rfl))) (Zl 2)))))
   (Zc (Zbk (i:=1) rfl (by first | exact Or.inl rfl | exact Or.inr (Or.inl rfl)) (ZcD 2))
   Zj)
   Zj)
   Zj))
   (Zc (ZkQ 1)
   Zj))) ?_
 rfl
theorem sc_merged_along:ZD ["ways","table","cells","key","cell","there"] ["ways","table"] (Zg Zap):=⟨rfl,rfl,rfl,by decide +kernel,rfl,by decide +kernel,by decide +kernel⟩
theorem ZhV (T:Tx K mg d):FnOk P w K mg base CX0 7 d.a10 d.d10 ["ways","table"] (spD K Zc5) :=
 by
 refine ZW (N:=["ways","table","cells","key","cell","there"]) (ps:=["ways","table"]) T.F10 sc_merged_along (by decide) (g:=Zci) (fun cdv A outer s H E M H0 hr=>?_)
 refine ZU (Zc (ZiT (i:=2) sc_merged_along.nd rfl (Or.inr rfl) Zk4)
   (Zc (ZaQ Qbm rfl (ZaP (ZaO 1)) (Za5 (n:=2) rfl (ZI (Zq (i:=3) sc_merged_along.nd rfl (Or.inl rfl)) (ZI (Zq (i:=4) sc_merged_along.nd rfl (Or.inl rfl)) ZaJ)))
   (Zc (Z5 (Zaw (j_p (Zr (Zjj T) (hr.mono (by decide)) (by rfl) T.m9 T.F9.kp T.b9 (E:=E0) ZM (Za (Zp 0) (Za (Zp 3) Ze)))))
   (Zc (ZA (i:=5) sc_merged_along.nd rfl (Or.inl rfl) (Zal Zan Zby (by rfl) T.n_tuple (by rfl) (Za (Zi (ZaI (Z0 ["way","value"] [] [] (show Zac ["way","value"] [] _ (Zg Zap) from ⟨rfl,by decide +kernel,by decide +kernel,by decide +kernel,by decide +kernel,by decide +kernel⟩) rfl rfl  (Zdq (by rfl) T.n_zip (ZaO 0) (ZaO 3)) (fun _ _ _ _ _ _ _=>(Za5 (n:=2) rfl (ZI (Zq (i:=0) (show ((["way","value"]:List Str)++([]:List Str)).Nodup by decide +kernel) rfl (Or.inl rfl)) (ZI (Zq (i:=1) (show ((["way","value"]:List Str)++([]:List Str)).Nodup by decide +kernel) rfl (Or.inl rfl)) ZaJ)))) (fun _ _ _ _ _ _ _=>Z3) (fun _ _ _ _ _ _ _=>(Zfo hr.units (Zl 0) (Zl 1) (fun _ _=>rfl))) (by decide)))) Ze)))
   (Zc (ZiO (i:=2) hr.units (Zl 5) (ZhU (ZnB hr.units (Zl 5) (Zl 2)) (Zr (ZoY T) (hr.mono (by decide)) (by rfl) T.m0 T.F0.kp T.b0 (E:=E0) ZM (Za (Zi (Zfo hr.units (Zl 2) (Zl 5) (fun _ _=>rfl))) (Za (Zp 4) Ze))) (ZcD 4)))
   Zj))
   Zj)
   Zj))
   (Zc (ZcF (Z0 ["key"] ["cells"] [2] (show Zac ["key"] ["cells"] _ (Zg Zap) from ⟨rfl,by decide +kernel,by decide +kernel,by decide +kernel,by decide +kernel,by decide +kernel⟩) rfl rfl  (ZaP (j_q (Zr (ZlD T) (hr.mono (by decide)) (by rfl) T.m4 T.F4.kp T.b4 (E:=E0) ZM (Za (Zi (ZaI (ZeL (ZkD rfl) ZpR (by rfl) T.n_list (by rfl) (Za (Zp 2) Ze)))) Ze)))) (fun _ _ _ _ _ _ _=>(Zq (i:=0) (show ((["key"]:List Str)++(["cells"]:List Str)).Nodup by decide +kernel) rfl (Or.inl rfl))) (fun _ _ _ _ _ _ _=>Z3) (fun _ _ _ _ _ _ _=>(Zas (Za (Zi (ZcD 0)) (Za (Zi (Zfo hr.units (Zl 1) (Zl 0) (fun _ _=>rfl))) Ze)))) (by decide)))
   Zj))) ?_
 rfl
theorem ZiG:ZD ["ladders","table","grain","to"] ["ladders","table","grain","to"] (Zg Zdg):=⟨rfl,rfl,rfl,by decide +kernel,rfl,by decide +kernel,by decide +kernel⟩
theorem Zew (T:Tx K mg d):FnOk P w K mg base CX0 8 d.a11 d.d11 ["ladders","table","grain","to"] (spD K Zc2) :=
 by
 refine ZW (N:=["ladders","table","grain","to"]) (ps:=["ladders","table","grain","to"]) T.F11 ZiG (by decide) (g:=ZfD) (fun cdv A outer s H E M H0 hr=>?_)
 refine ZU (Zc (Z5 (ZbZ (Zaw (j_p (Zr (Zh1 T) (hr.mono (by decide)) (by rfl) T.m7 T.F7.kp T.b7 (E:=E0) ZM (Za (Zp 2) (Za (Zp 3) Ze))))))
   (Zc ZmZ
   Zj)
   Zj)
   (Zc (ZcF (Zi2 (ZhV T) (hr.mono (by decide)) (by rfl) T.m10 T.F10.kp T.b10 (E:=E0) ZM (Za (Zi (Zr (ZmS T) (hr.mono (by decide)) (by rfl) T.m8 T.F8.kp T.b8 (E:=E0) ZM (Za (Zp 0) (Za (Zp 2) (Za (Zp 3) Ze))))) (Za (Zp 1) Ze))))
   Zj)) ?_
 rfl
theorem ZmR (T:Tx K mg d):FnOk P w K mg base (CXv P w) 8 d.a11 d.d11 ["ladders","table","grain","to"] (spX K Zhs) :=
 by
 refine ZsT (N:=["ladders","table","grain","to"]) (ps:=["ladders","table","grain","to"]) T.F11 ZiG (by decide) (h:=Zfw) (fun cdv A outer s H E M H0 hr=>?_)
 refine ZrF (ZnD (Zt3 Znh (ZbZ (Zaw (j_p (Zr (Zh1 T) (hr.mono (by decide)) (by rfl) T.m7 T.F7.kp T.b7 (E:=E0) ZM (Za (Zp 2) (Za (Zp 3) Ze))))))
   (ZnD (XT.s (Zph Znh rfl rfl T.k_NoGrain T.q_NoGrain (by rfl) T.m_NoGrain (Za (Zi Zd7) Ze))))
   Zrv)) ?_
 rfl
theorem sc_law_refused:ZD ["_law_ladders_here","_law_table_here","_law_grain_here","_law_to","e"] ["_law_ladders_here","_law_table_here","_law_grain_here","_law_to"] (Zg Zbe):=⟨rfl,rfl,rfl,by decide +kernel,rfl,by decide +kernel,by decide +kernel⟩
theorem Zii (T:Tx K mg d):FnOk P w K mg base CX0 9 d.a28 d.d28 ["_law_ladders_here","_law_table_here","_law_grain_here","_law_to"] (spD K ZdB) :=
 by
 refine ZW (N:=["_law_ladders_here","_law_table_here","_law_grain_here","_law_to","e"]) (ps:=["_law_ladders_here","_law_table_here","_law_grain_here","_law_to"]) T.F28 sc_law_refused (by decide) (g:=Zcr) (fun cdv A outer s H E M H0 hr=>?_)
 refine ZU (Zc (Zs1 4 CS Znh rfl rfl rfl (Zrl (Zru Znh rfl (ZmR T) (hr.mono (by decide)) (by rfl) T.m11 T.F11.kp T.b11 (Za (Zp 0) (Za (Zp 1) (Za (Zp 2) (Za (Zp 3) Ze)))))) (ZpI (Zr (Zew T) (hr.mono (by decide)) (by rfl) T.m11 T.F11.kp T.b11 (E:=E0) ZM (Za (Zp 0) (Za (Zp 1) (Za (Zp 2) (Za (Zp 3) Ze)))))) T.m_CubeError (by rfl) (Zjl T) sc_law_refused.nd rfl rfl (fun x H1 hx1=>(Zc (Zw (Zfs (Zlg 4 CS (ZcB "NoGrain") rfl rfl (Or.inl rfl) (ZgN (v:=.ref d.a_NoGrain) (by rfl) T.m_NoGrain rfl) (fun u z=>z) (Zlw T) (by rfl) T.n_isinstance (by rfl)) (Zfs (Zlg 4 CS (ZcB "ValueError") rfl rfl (Or.inl rfl) (Zmf (v:=.ty "ValueError") (by rfl) T.n_ValueError (by rfl) rfl) (fun u z=>z) (Zh9 T) (by rfl) T.n_isinstance (by rfl)) (Zhu (Zlh (Zlg 4 CS (ZcB "TooMuch") rfl rfl (Or.inl rfl) (ZgN (v:=.ref d.a_TooMuch) (by rfl) T.m_TooMuch rfl) (fun u z=>z) (Zlo T) (by rfl) T.n_isinstance (by rfl)))))))
   Zj)))
   (Zc (Zw Zc9)
   Zj)) ?_
 rfl
theorem sc_law:ZD ["_law_script","_law_ladders_here","_law_rows_here","_law_one","_law_to","_law_table_here","_law_handed","_law_found","_law_due","_law_bits","_law_mid"] ["_law_script"] (Zg ZcR):=⟨rfl,rfl,rfl,by decide +kernel,rfl,by decide +kernel,by decide +kernel⟩
theorem Zs9 (T:Tx K mg d):FnOk P w K mg base CX0 10 d.a29 d.d29 ["_law_script"] (spD K Zqk) :=
 by
 refine ZW (N:=["_law_script","_law_ladders_here","_law_rows_here","_law_one","_law_to","_law_table_here","_law_handed","_law_found","_law_due","_law_bits","_law_mid"]) (ps:=["_law_script"]) T.F29 sc_law (by decide) (g:=Zqw) (fun cdv A outer s H E M H0 hr=>?_)
 refine ZU (Zc (ZA (i:=1) sc_law.nd rfl (Or.inl rfl) (Zr (Ziv T) (hr.mono (by decide)) (by rfl) T.m17 T.F17.kp T.b17 (E:=E0) ZM (Za (Zp 0) Ze)))
   (Zc (ZA (i:=2) sc_law.nd rfl (Or.inl rfl) (Zr (Zlt T) (hr.mono (by decide)) (by rfl) T.m27 T.F27.kp T.b27 (E:=E0) ZM (Za (Zp 0) (Za (Zp 1) Ze))))
   (Zc (ZA (i:=3) sc_law.nd rfl (Or.inr rfl) (Zr (ZgJ T) (hr.mono (by decide)) (by rfl) T.m25 T.F25.kp T.b25 (E:=E0) ZM (Za (Zi (Zr (Zaq T) (hr.mono (by decide)) (by rfl) T.m12 T.F12.kp T.b12 (E:=E0) ZM (Za (Zp 0) (Za (Zi Zd) Ze)))) (Za (Zp 1) Ze))))
   (Zc (ZA (i:=4) sc_law.nd rfl (Or.inr rfl) (Zr (ZgJ T) (hr.mono (by decide)) (by rfl) T.m25 T.F25.kp T.b25 (E:=E0) ZM (Za (Zi (Zr (Zaq T) (hr.mono (by decide)) (by rfl) T.m12 T.F12.kp T.b12 (E:=E0) ZM (Za (Zp 0) (Za (Zi Zd) Ze)))) (Za (Zp 1) Ze))))
   (Zc (Z5 (Zka hr.units (j_p (ZE (j_p (Zai (j_p (Zr (Zaq T) (hr.mono (by decide)) (by rfl) T.m12 T.F12.kp T.b12 (E:=E0) ZM (Za (Zp 0) (Za (Zi Zd) Ze)))) (j_p Zd))) (j_p Zd))) (j_p Zd))
   (Zc (ZpV (Zas (Za (Zi (Zal Zan Zby (by rfl) T.n_tuple (by rfl) (Za (Zi (ZaI (Z0 ["_law_pair"] [] [] (show Zac ["_law_pair"] [] _ (Zg ZcR) from ⟨rfl,by decide +kernel,by decide +kernel,by decide +kernel,by decide +kernel,by decide +kernel⟩) rfl rfl  (Zdq (by rfl) T.n_zip (ZaO 3) (ZaO 4)) (fun _ _ _ _ _ _ _=>(Zq (i:=0) (show ((["_law_pair"]:List Str)++([]:List Str)).Nodup by decide +kernel) rfl (Or.inl rfl))) (fun _ _ _ _ _ _ _=>Z3) (fun _ _ _ _ _ _ _=>(ZC (ZoU rfl) Zrm (by rfl) T.n_min (by rfl) (Za (Zp 0) Ze))) (by decide)))) Ze))) (Za (Zi (Zal Zan Zby (by rfl) T.n_tuple (by rfl) (Za (Zi (ZaI (Z0 ["_law_pair"] [] [] (show Zac ["_law_pair"] [] _ (Zg ZcR) from ⟨rfl,by decide +kernel,by decide +kernel,by decide +kernel,by decide +kernel,by decide +kernel⟩) rfl rfl  (Zdq (by rfl) T.n_zip (ZaO 3) (ZaO 4)) (fun _ _ _ _ _ _ _=>(Zq (i:=0) (show ((["_law_pair"]:List Str)++([]:List Str)).Nodup by decide +kernel) rfl (Or.inl rfl))) (fun _ _ _ _ _ _ _=>Z3) (fun _ _ _ _ _ _ _=>(ZC (ZoT rfl) ZrO (by rfl) T.n_max (by rfl) (Za (Zp 0) Ze))) (by decide)))) Ze))) Ze))) (Za5 (n:=2) rfl (ZI (Zq (i:=3) sc_law.nd rfl (Or.inr rfl)) (ZI (Zq (i:=4) sc_law.nd rfl (Or.inr rfl)) ZaJ))))
   Zj)
   Zj)
   (Zc (ZA (i:=5) sc_law.nd rfl (Or.inl rfl) (Zr (Zgw T) (hr.mono (by decide)) (by rfl) T.m24 T.F24.kp T.b24 (E:=E0) ZM (Za (Zp 1) (Za (Zp 2) (Za (Zp 3) Ze)))))
   (Zc (ZA (i:=6) sc_law.nd rfl (Or.inl rfl) (ZaI (ZeL Zgy ZlY (by rfl) T.n_list (by rfl) (Za (Zp 5) Ze))))
   (Zc (Z5 (Zaw (j_p (ZC (ZjZ rfl) Zon (by rfl) T.n_any (by rfl) (Za (Zi (ZaI (Z0 ["_law_k"] ["_law_one","_law_to"] [3,4] (show Zac ["_law_k"] ["_law_one","_law_to"] _ (Zg ZcR) from ⟨rfl,by decide +kernel,by decide +kernel,by decide +kernel,by decide +kernel,by decide +kernel⟩) rfl rfl  (Za1 (by rfl) T.n_range (Za (Zi (ZC ZbA ZcK (by rfl) T.n_len (by rfl) (Za (Zp 1) Ze))) Ze)) (fun _ _ _ _ _ _ _=>(Zq (i:=0) (show ((["_law_k"]:List Str)++(["_law_one","_law_to"]:List Str)).Nodup by decide +kernel) rfl (Or.inl rfl))) (fun _ _ _ _ _ _ _=>Z3) (fun _ _ _ _ _ _ _=>(Zq6 hr.units (j_p (Zn (Zl 1) (Zl 0) (fun _ _=>rfl))) (j_p (Zn (Zl 2) (Zl 0) (fun _ _=>rfl))))) (by decide)))) Ze))))
   (Zc (Zw (Zfs (Zr (Zii T) (hr.mono (by decide)) (by rfl) T.m28 T.F28.kp T.b28 (E:=E0) ZM (Za (Zp 1) (Za (Zp 6) (Za (Zp 3) (Za (Zp 4) Ze))))) (Zhu (Zip hr.units (Zl 6) (Zl 5)))))
   Zj)
   Zj)
   (Zc (Zbx (i:=7) sc_law.nd rfl (Or.inl rfl) (Zi2 (Zew T) (hr.mono (by decide)) (by rfl) T.m11 T.F11.kp T.b11 (E:=E0) ZM (Za (Zi (ZaI (Z0 ["_law_ladder_here"] [] [] (show Zac ["_law_ladder_here"] [] _ (Zg ZcR) from ⟨rfl,by decide +kernel,by decide +kernel,by decide +kernel,by decide +kernel,by decide +kernel⟩) rfl rfl  (ZaP (ZaO 1)) (fun _ _ _ _ _ _ _=>(Zq (i:=0) (show ((["_law_ladder_here"]:List Str)++([]:List Str)).Nodup by decide +kernel) rfl (Or.inl rfl))) (fun _ _ _ _ _ _ _=>Z3) (fun _ _ _ _ _ _ _=>(ZaI (ZeL Zgy ZlY (by rfl) T.n_list (by rfl) (Za (Zp 0) Ze)))) (by decide)))) (Za (Zp 6) (Za (Zp 3) (Za (Zp 4) Ze))))))
   (Zc (ZA (i:=8) sc_law.nd rfl (Or.inl rfl) (Zr (Zgw T) (hr.mono (by decide)) (by rfl) T.m24 T.F24.kp T.b24 (E:=E0) ZM (Za (Zp 1) (Za (Zp 2) (Za (Zp 4) Ze)))))
   (Zc (Z5 (Zm3 (ZdT (ZbZ (Zaw (j_p (Zr (ZhK T) (hr.mono (by decide)) (by rfl) T.m26 T.F26.kp T.b26 (E:=E0) ZM (Za (Zp 7) Ze))))) (ZdT (ZdV hr.units (Zl 7) (Zl 8)) (ZfF (ZdV hr.units (Zl 6) (Zl 5))))))
   (Zc (Zw Zc9)
   Zj)
   Zj)
   (Zc (Znr (i:=7))
   (Zc (Z5 (ZdV hr.units (Zl 6) (Zl 5))
   (Zc (Zw Zc9)
   Zj)
   Zj)
   (Zc (ZA (i:=9) sc_law.nd rfl (Or.inr rfl) (Zai (j_p (Zr (Zaq T) (hr.mono (by decide)) (by rfl) T.m12 T.F12.kp T.b12 (E:=E0) ZM (Za (Zp 0) (Za (Zi Zd) Ze)))) (j_p Zd)))
   (Zc (ZA (i:=10) sc_law.nd rfl (Or.inl rfl) (Zal Zan Zby (by rfl) T.n_tuple (by rfl) (Za (Zi (ZaI (Z0 ["_law_k"] ["_law_one","_law_to","_law_bits"] [3,4,9] (show Zac ["_law_k"] ["_law_one","_law_to","_law_bits"] _ (Zg ZcR) from ⟨rfl,by decide +kernel,by decide +kernel,by decide +kernel,by decide +kernel,by decide +kernel⟩) rfl rfl  (Za1 (by rfl) T.n_range (Za (Zi (ZC ZbA ZcK (by rfl) T.n_len (by rfl) (Za (Zp 1) Ze))) Ze)) (fun _ _ _ _ _ _ _=>(Zq (i:=0) (show ((["_law_k"]:List Str)++(["_law_one","_law_to","_law_bits"]:List Str)).Nodup by decide +kernel) rfl (Or.inl rfl))) (fun _ _ _ _ _ _ _=>Z3) (fun _ _ _ _ _ _ _=>(Zn (j_p (ZaI (ZaB (Za (Zi (Zn (Zl 1) (Zl 0) (fun _ _=>rfl))) (Za (Zi (Zn (Zl 2) (Zl 0) (fun _ _=>rfl))) Ze))))) (j_p (ZE (j_p (Zai (Zl 3) (j_p (Zn (j_p (ZaI (ZaB (Za (Zi Zd) (Za (Zi Zd) (Za (Zi Zd) (Za (Zi Zd) Ze))))))) (Zl 0) (fun _ _=>rfl))))) (j_p Zd))) (fun _ _=>rfl))) (by decide)))) Ze)))
   (Zc (Zw (Zip hr.units (j_p (Zr (Zew T) (hr.mono (by decide)) (by rfl) T.m11 T.F11.kp T.b11 (E:=E0) ZM (Za (Zp 1) (Za (Zi (Zr (Zew T) (hr.mono (by decide)) (by rfl) T.m11 T.F11.kp T.b11 (E:=E0) ZM (Za (Zp 1) (Za (Zp 6) (Za (Zp 3) (Za (Zp 10) Ze)))))) (Za (Zp 10) (Za (Zp 4) Ze)))))) (Zl 8)))
   Zj)))))))))))))))) ?_
 rfl
end
theorem us1 {P:List Value->Prop} (h:∀ a0:Value,P [a0]) (us:List Value) (hl:us.length=1):P us:=by
 obtain ⟨a0,e⟩:∃ a0,us=[a0]:=by
  match us,hl with
  | [a0],_=>exact ⟨a0,rfl⟩
 subst e
 exact h a0
theorem us2 {P:List Value->Prop} (h:∀ a0 a1:Value,P [a0,a1]) (us:List Value) (hl:us.length=2):P us:=by
 obtain ⟨a0,a1,e⟩:∃ a0 a1,us=[a0,a1]:=by
  match us,hl with
  | [a0,a1],_=>exact ⟨a0,a1,rfl⟩
 subst e
 exact h a0 a1
theorem us3 {P:List Value->Prop} (h:∀ a0 a1 a2:Value,P [a0,a1,a2]) (us:List Value) (hl:us.length=3):P us:=by
 obtain ⟨a0,a1,a2,e⟩:∃ a0 a1 a2,us=[a0,a1,a2]:=by
  match us,hl with
  | [a0,a1,a2],_=>exact ⟨a0,a1,a2,rfl⟩
 subst e
 exact h a0 a1 a2
theorem us4 {P:List Value->Prop} (h:∀ a0 a1 a2 a3:Value,P [a0,a1,a2,a3]) (us:List Value) (hl:us.length=4):P us:=by
 obtain ⟨a0,a1,a2,a3,e⟩:∃ a0 a1 a2 a3,us=[a0,a1,a2,a3]:=by
  match us,hl with
  | [a0,a1,a2,a3],_=>exact ⟨a0,a1,a2,a3,rfl⟩
 subst e
 exact h a0 a1 a2 a3
theorem all_mk {l:PySem.W.OpenLaw} {w:World} {K:Qab} {h:Heap} {mg:Str->Option Value} {fa:Addr} (X:K.In h) (G:h.Ns Qak mg) (hfa:mg "law"=some (.ref fa))
  {a0 a1 a2 a3 a4 a5 a6 a7 a8 a9 a10 a11 a12 a13 a14 a15 a16 a17 a18 a19 a20 a21 a22 a23 a24 a25 a26 a27 a28 a29:Addr}
  {o0 n0 o1 n1 o2 n2 o3 n3 o4 n4 o5 n5 o6 n6 o7 n7 o8 n8 o9 n9 o10 n10 o11 n11 o12 n12 o13 n13 o14 n14 o15 n15 o16 n16 o17 n17 o18 n18 o19 n19 o20 n20 o21 n21 o22 n22 o23 n23 o24 n24 o25 n25 o26 n26 o27 n27 o28 n28 o29 n29:Option Addr}
  {l0 l1 l2 l3 l4 l5 l6 l7 l8 l9 l10 l11 l12 l13 l14 l15 l16 l17 l18 l19 l20 l21 l22 l23 l24 l25 l26 l27 l28 l29:Array (Option Value)}
  {r0 v0 e0 p0 c0 t0 r1 v1 e1 p1 c1 t1 r2 v2 e2 p2 c2 t2 r3 v3 e3 p3 c3 t3 r4 v4 e4 p4 c4 t4 r5 v5 e5 p5 c5 t5 r6 v6 e6 p6 c6 t6 r7 v7 e7 p7 c7 t7 r8 v8 e8 p8 c8 t8 r9 v9 e9 p9 c9 t9 r10 v10 e10 p10 c10 t10 r11 v11 e11 p11 c11 t11 r12 v12 e12 p12 c12 t12 r13 v13 e13 p13 c13 t13 r14 v14 e14 p14 c14 t14 r15 v15 e15 p15 c15 t15 r16 v16 e16 p16 c16 t16 r17 v17 e17 p17 c17 t17 r18 v18 e18 p18 c18 t18 r19 v19 e19 p19 c19 t19 r20 v20 e20 p20 c20 t20 r21 v21 e21 p21 c21 t21 r22 v22 e22 p22 c22 t22 r23 v23 e23 p23 c23 t23 r24 v24 e24 p24 c24 t24 r25 v25 e25 p25 c25 t25 r26 v26 e26 p26 c26 t26 r27 v27 e27 p27 c27 t27 r28 v28 e28 p28 c28 t28 r29 v29 e29 p29 c29 t29:Value}
  {a_CubeError:Addr}
  {a_NoGrain:Addr}
  {a_TooMuch:Addr}
  {cd_CubeError:ClassData}
  {cd_NoGrain:ClassData}
  {cd_TooMuch:ClassData}
  {nm_NoGrain qn_NoGrain:Str} {N_NoGrain:Addr} {bs_NoGrain bm_NoGrain sb_NoGrain:List Value} {hd_NoGrain ab_NoGrain:Bool} {sn_NoGrain:List Str} {co_NoGrain:Option Bool} {dd_NoGrain:Option Addr} {k0_NoGrain k1_NoGrain k2_NoGrain k3_NoGrain k5_NoGrain:Option Value} {cd2_NoGrain:ClassData}
  (A0:Qar K Qak "merged"=some (some (.ref a0)))
  (L0:K.lookup a0=some ⟨r0,o0,.func (QaI "merged" "merged" (ZG Zdc) (ZB Zdc) (Zg Zdc) .none v0 e0 p0 n0 c0 t0),l0⟩)
  (C0:QaE K c0 "merged"=true) (k0:QaC K (.ref a0)=true)
  (A1:Qar K Qak "is_whole"=some (some (.ref a1)))
  (L1:K.lookup a1=some ⟨r1,o1,.func (QaI "is_whole" "is_whole" (ZG Zcf) (ZB Zcf) (Zg Zcf) .none v1 e1 p1 n1 c1 t1),l1⟩)
  (C1:QaE K c1 "is_whole"=true) (k1:QaC K (.ref a1)=true)
  (A2:Qar K Qak "value_rank"=some (some (.ref a2)))
  (L2:K.lookup a2=some ⟨r2,o2,.func (QaI "value_rank" "value_rank" (ZG Zbs) (ZB Zbs) (Zg Zbs) .none v2 e2 p2 n2 c2 t2),l2⟩)
  (C2:QaE K c2 "value_rank"=true) (k2:QaC K (.ref a2)=true)
  (A3:Qar K Qak "key_rank"=some (some (.ref a3)))
  (L3:K.lookup a3=some ⟨r3,o3,.func (QaI "key_rank" "key_rank" (ZG ZbB) (ZB ZbB) (Zg ZbB) .none v3 e3 p3 n3 c3 t3),l3⟩)
  (C3:QaE K c3 "key_rank"=true) (k3:QaC K (.ref a3)=true)
  (A4:Qar K Qak "in_order"=some (some (.ref a4)))
  (L4:K.lookup a4=some ⟨r4,o4,.func (QaI "in_order" "in_order" (ZG Zcd) (ZB Zcd) (Zg Zcd) .none v4 e4 p4 n4 c4 t4),l4⟩)
  (C4:QaE K c4 "in_order"=true) (k4:QaC K (.ref a4)=true)
  (A5:Qar K Qak "line_at"=some (some (.ref a5)))
  (L5:K.lookup a5=some ⟨r5,o5,.func (QaI "line_at" "line_at" (ZG ZcH) (ZB ZcH) (Zg ZcH) .none v5 e5 p5 n5 c5 t5),l5⟩)
  (C5:QaE K c5 "line_at"=true) (k5:QaC K (.ref a5)=true)
  (A6:Qar K Qak "lifts"=some (some (.ref a6)))
  (L6:K.lookup a6=some ⟨r6,o6,.func (QaI "lifts" "lifts" (ZG Zdd) (ZB Zdd) (Zg Zdd) .none v6 e6 p6 n6 c6 t6),l6⟩)
  (C6:QaE K c6 "lifts"=true) (k6:QaC K (.ref a6)=true)
  (A7:Qar K Qak "as_fine"=some (some (.ref a7)))
  (L7:K.lookup a7=some ⟨r7,o7,.func (QaI "as_fine" "as_fine" (ZG Zb0) (ZB Zb0) (Zg Zb0) .none v7 e7 p7 n7 c7 t7),l7⟩)
  (C7:QaE K c7 "as_fine"=true) (k7:QaC K (.ref a7)=true)
  (A8:Qar K Qak "ways_up"=some (some (.ref a8)))
  (L8:K.lookup a8=some ⟨r8,o8,.func (QaI "ways_up" "ways_up" (ZG ZbX) (ZB ZbX) (Zg ZbX) .none v8 e8 p8 n8 c8 t8),l8⟩)
  (C8:QaE K c8 "ways_up"=true) (k8:QaC K (.ref a8)=true)
  (A9:Qar K Qak "goes_along"=some (some (.ref a9)))
  (L9:K.lookup a9=some ⟨r9,o9,.func (QaI "goes_along" "goes_along" (ZG Za8) (ZB Za8) (Zg Za8) .none v9 e9 p9 n9 c9 t9),l9⟩)
  (C9:QaE K c9 "goes_along"=true) (k9:QaC K (.ref a9)=true)
  (A10:Qar K Qak "merged_along"=some (some (.ref a10)))
  (L10:K.lookup a10=some ⟨r10,o10,.func (QaI "merged_along" "merged_along" (ZG Zap) (ZB Zap) (Zg Zap) .none v10 e10 p10 n10 c10 t10),l10⟩)
  (C10:QaE K c10 "merged_along"=true) (k10:QaC K (.ref a10)=true)
  (A11:Qar K Qak "rolled"=some (some (.ref a11)))
  (L11:K.lookup a11=some ⟨r11,o11,.func (QaI "rolled" "rolled" (ZG Zdg) (ZB Zdg) (Zg Zdg) .none v11 e11 p11 n11 c11 t11),l11⟩)
  (C11:QaE K c11 "rolled"=true) (k11:QaC K (.ref a11)=true)
  (A12:Qar K Qak "_law_cell_at"=some (some (.ref a12)))
  (L12:K.lookup a12=some ⟨r12,o12,.func (QaI "_law_cell_at" "_law_cell_at" (ZG Zbf) (ZB Zbf) (Zg Zbf) .none v12 e12 p12 n12 c12 t12),l12⟩)
  (C12:QaE K c12 "_law_cell_at"=true) (k12:QaC K (.ref a12)=true)
  (A13:Qar K Qak "_law_stream"=some (some (.ref a13)))
  (L13:K.lookup a13=some ⟨r13,o13,.func (QaI "_law_stream" "_law_stream" (ZG Zbp) (ZB Zbp) (Zg Zbp) .none v13 e13 p13 n13 c13 t13),l13⟩)
  (C13:QaE K c13 "_law_stream"=true) (k13:QaC K (.ref a13)=true)
  (A14:Qar K Qak "_law_word"=some (some (.ref a14)))
  (L14:K.lookup a14=some ⟨r14,o14,.func (QaI "_law_word" "_law_word" (ZG Zb7) (ZB Zb7) (Zg Zb7) .none v14 e14 p14 n14 c14 t14),l14⟩)
  (C14:QaE K c14 "_law_word"=true) (k14:QaC K (.ref a14)=true)
  (A15:Qar K Qak "_law_value"=some (some (.ref a15)))
  (L15:K.lookup a15=some ⟨r15,o15,.func (QaI "_law_value" "_law_value" (ZG ZbN) (ZB ZbN) (Zg ZbN) .none v15 e15 p15 n15 c15 t15),l15⟩)
  (C15:QaE K c15 "_law_value"=true) (k15:QaC K (.ref a15)=true)
  (A16:Qar K Qak "_law_ladder"=some (some (.ref a16)))
  (L16:K.lookup a16=some ⟨r16,o16,.func (QaI "_law_ladder" "_law_ladder" (ZG Zbt) (ZB Zbt) (Zg Zbt) .none v16 e16 p16 n16 c16 t16),l16⟩)
  (C16:QaE K c16 "_law_ladder"=true) (k16:QaC K (.ref a16)=true)
  (A17:Qar K Qak "_law_ladders"=some (some (.ref a17)))
  (L17:K.lookup a17=some ⟨r17,o17,.func (QaI "_law_ladders" "_law_ladders" (ZG Zbd) (ZB Zbd) (Zg Zbd) .none v17 e17 p17 n17 c17 t17),l17⟩)
  (C17:QaE K c17 "_law_ladders"=true) (k17:QaC K (.ref a17)=true)
  (A18:Qar K Qak "_law_row"=some (some (.ref a18)))
  (L18:K.lookup a18=some ⟨r18,o18,.func (QaI "_law_row" "_law_row" (ZG Zb2) (ZB Zb2) (Zg Zb2) .none v18 e18 p18 n18 c18 t18),l18⟩)
  (C18:QaE K c18 "_law_row"=true) (k18:QaC K (.ref a18)=true)
  (A19:Qar K Qak "_law_rank"=some (some (.ref a19)))
  (L19:K.lookup a19=some ⟨r19,o19,.func (QaI "_law_rank" "_law_rank" (ZG Zcc) (ZB Zcc) (Zg Zcc) .none v19 e19 p19 n19 c19 t19),l19⟩)
  (C19:QaE K c19 "_law_rank"=true) (k19:QaC K (.ref a19)=true)
  (A20:Qar K Qak "_law_up"=some (some (.ref a20)))
  (L20:K.lookup a20=some ⟨r20,o20,.func (QaI "_law_up" "_law_up" (ZG Zdf) (ZB Zdf) (Zg Zdf) .none v20 e20 p20 n20 c20 t20),l20⟩)
  (C20:QaE K c20 "_law_up"=true) (k20:QaC K (.ref a20)=true)
  (A21:Qar K Qak "_law_key_at"=some (some (.ref a21)))
  (L21:K.lookup a21=some ⟨r21,o21,.func (QaI "_law_key_at" "_law_key_at" (ZG Za6) (ZB Za6) (Zg Za6) .none v21 e21 p21 n21 c21 t21),l21⟩)
  (C21:QaE K c21 "_law_key_at"=true) (k21:QaC K (.ref a21)=true)
  (A22:Qar K Qak "_law_key_rank"=some (some (.ref a22)))
  (L22:K.lookup a22=some ⟨r22,o22,.func (QaI "_law_key_rank" "_law_key_rank" (ZG Zaz) (ZB Zaz) (Zg Zaz) .none v22 e22 p22 n22 c22 t22),l22⟩)
  (C22:QaE K c22 "_law_key_rank"=true) (k22:QaC K (.ref a22)=true)
  (A23:Qar K Qak "_law_cell_of"=some (some (.ref a23)))
  (L23:K.lookup a23=some ⟨r23,o23,.func (QaI "_law_cell_of" "_law_cell_of" (ZG Zbc) (ZB Zbc) (Zg Zbc) .none v23 e23 p23 n23 c23 t23),l23⟩)
  (C23:QaE K c23 "_law_cell_of"=true) (k23:QaC K (.ref a23)=true)
  (A24:Qar K Qak "_law_table"=some (some (.ref a24)))
  (L24:K.lookup a24=some ⟨r24,o24,.func (QaI "_law_table" "_law_table" (ZG Zbj) (ZB Zbj) (Zg Zbj) .none v24 e24 p24 n24 c24 t24),l24⟩)
  (C24:QaE K c24 "_law_table"=true) (k24:QaC K (.ref a24)=true)
  (A25:Qar K Qak "_law_grain"=some (some (.ref a25)))
  (L25:K.lookup a25=some ⟨r25,o25,.func (QaI "_law_grain" "_law_grain" (ZG ZbK) (ZB ZbK) (Zg ZbK) .none v25 e25 p25 n25 c25 t25),l25⟩)
  (C25:QaE K c25 "_law_grain"=true) (k25:QaC K (.ref a25)=true)
  (A26:Qar K Qak "_law_is_table"=some (some (.ref a26)))
  (L26:K.lookup a26=some ⟨r26,o26,.func (QaI "_law_is_table" "_law_is_table" (ZG Zay) (ZB Zay) (Zg Zay) .none v26 e26 p26 n26 c26 t26),l26⟩)
  (C26:QaE K c26 "_law_is_table"=true) (k26:QaC K (.ref a26)=true)
  (A27:Qar K Qak "_law_rows"=some (some (.ref a27)))
  (L27:K.lookup a27=some ⟨r27,o27,.func (QaI "_law_rows" "_law_rows" (ZG Zbi) (ZB Zbi) (Zg Zbi) .none v27 e27 p27 n27 c27 t27),l27⟩)
  (C27:QaE K c27 "_law_rows"=true) (k27:QaC K (.ref a27)=true)
  (A28:Qar K Qak "_law_refused"=some (some (.ref a28)))
  (L28:K.lookup a28=some ⟨r28,o28,.func (QaI "_law_refused" "_law_refused" (ZG Zbe) (ZB Zbe) (Zg Zbe) .none v28 e28 p28 n28 c28 t28),l28⟩)
  (C28:QaE K c28 "_law_refused"=true) (k28:QaC K (.ref a28)=true)
  (A29:Qar K Qak "law"=some (some (.ref a29)))
  (L29:K.lookup a29=some ⟨r29,o29,.func (QaI "law" "law" (ZG ZcR) (ZB ZcR) (Zg ZcR) .none v29 e29 p29 n29 c29 t29),l29⟩)
  (C29:QaE K c29 "law"=true) (k29:QaC K (.ref a29)=true)
  (N_ValueError:Qar K Qak "ValueError"=some none)
  (N_all:Qar K Qak "all"=some none)
  (N_any:Qar K Qak "any"=some none)
  (N_bool:Qar K Qak "bool"=some none)
  (N_dict:Qar K Qak "dict"=some none)
  (N_enumerate:Qar K Qak "enumerate"=some none)
  (N_int:Qar K Qak "int"=some none)
  (N_isinstance:Qar K Qak "isinstance"=some none)
  (N_len:Qar K Qak "len"=some none)
  (N_list:Qar K Qak "list"=some none)
  (N_max:Qar K Qak "max"=some none)
  (N_min:Qar K Qak "min"=some none)
  (N_range:Qar K Qak "range"=some none)
  (N_sorted:Qar K Qak "sorted"=some none)
  (N_str:Qar K Qak "str"=some none)
  (N_sum:Qar K Qak "sum"=some none)
  (N_tuple:Qar K Qak "tuple"=some none)
  (N_zip:Qar K Qak "zip"=some none)
  (A_CubeError:Qar K Qak "CubeError"=some (some (.ref a_CubeError)))
  (A_NoGrain:Qar K Qak "NoGrain"=some (some (.ref a_NoGrain)))
  (A_TooMuch:Qar K Qak "TooMuch"=some (some (.ref a_TooMuch)))
  (Y_CubeError:PySem.W.typeIn K (.ref a_CubeError)=some (.type "type")) (Z_CubeError:PySem.W.clsIn K a_CubeError=some cd_CubeError)
  (Y_NoGrain:PySem.W.typeIn K (.ref a_NoGrain)=some (.type "type")) (Z_NoGrain:PySem.W.clsIn K a_NoGrain=some cd_NoGrain)
  (Y_TooMuch:PySem.W.typeIn K (.ref a_TooMuch)=some (.type "type")) (Z_TooMuch:PySem.W.clsIn K a_TooMuch=some cd_TooMuch)
  (B_CubeError:Qcz K (.ref a_CubeError) (.type "BaseException")=some true)
  (L_NoGrain:K.lookup a_NoGrain=some (excClassObj nm_NoGrain qn_NoGrain a_NoGrain N_NoGrain bs_NoGrain bm_NoGrain hd_NoGrain sn_NoGrain sb_NoGrain ab_NoGrain co_NoGrain dd_NoGrain k0_NoGrain k1_NoGrain k2_NoGrain k3_NoGrain k5_NoGrain "ValueError.__new__"))
  (E_NoGrain:PySem.W.excIn K a_NoGrain bmV "ValueError.__new__"=true)
  (f0_NoGrain:PySem.W.findIn K (.ref a_NoGrain) "__getattribute__"=some (some (.builtin "BaseException.__getattribute__")))
  (f1_NoGrain:PySem.W.findIn K (.ref a_NoGrain) "__class__"=some (some (.builtin "object.__class__")))
  (f2_NoGrain:PySem.W.findIn K (.ref a_NoGrain) "__getattr__"=some none)
  (f3_NoGrain:Qcz K (.ref a_NoGrain) (.type "BaseException")=some true)
  (f4_NoGrain:Qcz K (.ref a_NoGrain) (.type "object")=some true)
  (f5_NoGrain:PySem.W.typeIn K (.ref a_NoGrain)=some (.type "type")) (f6_NoGrain:PySem.W.clsIn K a_NoGrain=some cd2_NoGrain)
  (S_NoGrain_CubeError:Qcz K (.ref a_NoGrain) (.ref a_CubeError)=some true)
  (S_NoGrain_NoGrain:Qcz K (.ref a_NoGrain) (.ref a_NoGrain)=some true)
  (S_NoGrain_TooMuch:Qcz K (.ref a_NoGrain) (.ref a_TooMuch)=some false)
  (D_NoGrain_TooMuch:(QaR a_NoGrain==QaR a_TooMuch)=false)
  (V_NoGrain:Qcz K (.ref a_NoGrain) (.type "ValueError")=some true) :
  ∃ fd:QaH,(∀ (s:Shared) (v:Value),BindsTo s fd ⟨[v],[]⟩ [("_law_script",v)])/\∀ base:Heap,K.In base->base.Ns Qak mg->FnOk l.prog w K mg base CX0 10 fa fd ["_law_script"] (Zjt K):=by
 have e:=hfa.symm.trans (QaG X G A29)
 cases e
 have F0:=ZV (st:=Zdc) L0 C0 k0
 have F1:=ZV (st:=Zcf) L1 C1 k1
 have F2:=ZV (st:=Zbs) L2 C2 k2
 have F3:=ZV (st:=ZbB) L3 C3 k3
 have F4:=ZV (st:=Zcd) L4 C4 k4
 have F5:=ZV (st:=ZcH) L5 C5 k5
 have F6:=ZV (st:=Zdd) L6 C6 k6
 have F7:=ZV (st:=Zb0) L7 C7 k7
 have F8:=ZV (st:=ZbX) L8 C8 k8
 have F9:=ZV (st:=Za8) L9 C9 k9
 have F10:=ZV (st:=Zap) L10 C10 k10
 have F11:=ZV (st:=Zdg) L11 C11 k11
 have F12:=ZV (st:=Zbf) L12 C12 k12
 have F13:=ZV (st:=Zbp) L13 C13 k13
 have F14:=ZV (st:=Zb7) L14 C14 k14
 have F15:=ZV (st:=ZbN) L15 C15 k15
 have F16:=ZV (st:=Zbt) L16 C16 k16
 have F17:=ZV (st:=Zbd) L17 C17 k17
 have F18:=ZV (st:=Zb2) L18 C18 k18
 have F19:=ZV (st:=Zcc) L19 C19 k19
 have F20:=ZV (st:=Zdf) L20 C20 k20
 have F21:=ZV (st:=Za6) L21 C21 k21
 have F22:=ZV (st:=Zaz) L22 C22 k22
 have F23:=ZV (st:=Zbc) L23 C23 k23
 have F24:=ZV (st:=Zbj) L24 C24 k24
 have F25:=ZV (st:=ZbK) L25 C25 k25
 have F26:=ZV (st:=Zay) L26 C26 k26
 have F27:=ZV (st:=Zbi) L27 C27 k27
 have F28:=ZV (st:=Zbe) L28 C28 k28
 have F29:=ZV (st:=ZcR) L29 C29 k29
 have T:Tx K mg ⟨a0,_,a1,_,a2,_,a3,_,a4,_,a5,_,a6,_,a7,_,a8,_,a9,_,a10,_,a11,_,a12,_,a13,_,a14,_,a15,_,a16,_,a17,_,a18,_,a19,_,a20,_,a21,_,a22,_,a23,_,a24,_,a25,_,a26,_,a27,_,a28,_,fa,_,a_CubeError,a_NoGrain,a_TooMuch⟩:={
  m0:=QaG X G A0
  F0:=F0
  b0:=F0.binds fun _ _ _ _ _ _=>us2 fun _ _ =>rfl
  m1:=QaG X G A1
  F1:=F1
  b1:=F1.binds fun _ _ _ _ _ _=>us1 fun _ =>rfl
  m2:=QaG X G A2
  F2:=F2
  b2:=F2.binds fun _ _ _ _ _ _=>us1 fun _ =>rfl
  m3:=QaG X G A3
  F3:=F3
  b3:=F3.binds fun _ _ _ _ _ _=>us1 fun _ =>rfl
  m4:=QaG X G A4
  F4:=F4
  b4:=F4.binds fun _ _ _ _ _ _=>us1 fun _ =>rfl
  m5:=QaG X G A5
  F5:=F5
  b5:=F5.binds fun _ _ _ _ _ _=>us2 fun _ _ =>rfl
  m6:=QaG X G A6
  F6:=F6
  b6:=F6.binds fun _ _ _ _ _ _=>us3 fun _ _ _ =>rfl
  m7:=QaG X G A7
  F7:=F7
  b7:=F7.binds fun _ _ _ _ _ _=>us2 fun _ _ =>rfl
  m8:=QaG X G A8
  F8:=F8
  b8:=F8.binds fun _ _ _ _ _ _=>us3 fun _ _ _ =>rfl
  m9:=QaG X G A9
  F9:=F9
  b9:=F9.binds fun _ _ _ _ _ _=>us2 fun _ _ =>rfl
  m10:=QaG X G A10
  F10:=F10
  b10:=F10.binds fun _ _ _ _ _ _=>us2 fun _ _ =>rfl
  m11:=QaG X G A11
  F11:=F11
  b11:=F11.binds fun _ _ _ _ _ _=>us4 fun _ _ _ _ =>rfl
  m12:=QaG X G A12
  F12:=F12
  b12:=F12.binds fun _ _ _ _ _ _=>us2 fun _ _ =>rfl
  m13:=QaG X G A13
  F13:=F13
  b13:=F13.binds fun _ _ _ _ _ _=>us2 fun _ _ =>rfl
  m14:=QaG X G A14
  F14:=F14
  b14:=F14.binds fun _ _ _ _ _ _=>us2 fun _ _ =>rfl
  m15:=QaG X G A15
  F15:=F15
  b15:=F15.binds fun _ _ _ _ _ _=>us3 fun _ _ _ =>rfl
  m16:=QaG X G A16
  F16:=F16
  b16:=F16.binds fun _ _ _ _ _ _=>us3 fun _ _ _ =>rfl
  m17:=QaG X G A17
  F17:=F17
  b17:=F17.binds fun _ _ _ _ _ _=>us1 fun _ =>rfl
  m18:=QaG X G A18
  F18:=F18
  b18:=F18.binds fun _ _ _ _ _ _=>us3 fun _ _ _ =>rfl
  m19:=QaG X G A19
  F19:=F19
  b19:=F19.binds fun _ _ _ _ _ _=>us1 fun _ =>rfl
  m20:=QaG X G A20
  F20:=F20
  b20:=F20.binds fun _ _ _ _ _ _=>us3 fun _ _ _ =>rfl
  m21:=QaG X G A21
  F21:=F21
  b21:=F21.binds fun _ _ _ _ _ _=>us3 fun _ _ _ =>rfl
  m22:=QaG X G A22
  F22:=F22
  b22:=F22.binds fun _ _ _ _ _ _=>us1 fun _ =>rfl
  m23:=QaG X G A23
  F23:=F23
  b23:=F23.binds fun _ _ _ _ _ _=>us1 fun _ =>rfl
  m24:=QaG X G A24
  F24:=F24
  b24:=F24.binds fun _ _ _ _ _ _=>us3 fun _ _ _ =>rfl
  m25:=QaG X G A25
  F25:=F25
  b25:=F25.binds fun _ _ _ _ _ _=>us2 fun _ _ =>rfl
  m26:=QaG X G A26
  F26:=F26
  b26:=F26.binds fun _ _ _ _ _ _=>us1 fun _ =>rfl
  m27:=QaG X G A27
  F27:=F27
  b27:=F27.binds fun _ _ _ _ _ _=>us2 fun _ _ =>rfl
  m28:=QaG X G A28
  F28:=F28
  b28:=F28.binds fun _ _ _ _ _ _=>us4 fun _ _ _ _ =>rfl
  m29:=QaG X G A29
  F29:=F29
  b29:=F29.binds fun _ _ _ _ _ _=>us1 fun _ =>rfl
  m_CubeError:=QaG X G A_CubeError
  q_CubeError:=A_CubeError
  m_NoGrain:=QaG X G A_NoGrain
  q_NoGrain:=A_NoGrain
  m_TooMuch:=QaG X G A_TooMuch
  q_TooMuch:=A_TooMuch
  k_NoGrain:=Zun L_NoGrain E_NoGrain
  f_NoGrain:=⟨f0_NoGrain,f1_NoGrain,f2_NoGrain,f3_NoGrain,f4_NoGrain,f5_NoGrain,⟨_,f6_NoGrain⟩⟩
  p_NoGrain_NoGrain:=ZpP
  p_NoGrain_TooMuch:=ZrV D_NoGrain_TooMuch Z_TooMuch Y_TooMuch S_NoGrain_TooMuch
  p_NoGrain_ValueError:=ZtN V_NoGrain
  x_NoGrain_CubeError:=ZsW B_CubeError Z_CubeError Y_CubeError S_NoGrain_CubeError
  n_ValueError:=QaQ X G N_ValueError
  n_all:=QaQ X G N_all
  n_any:=QaQ X G N_any
  n_bool:=QaQ X G N_bool
  n_dict:=QaQ X G N_dict
  n_enumerate:=QaQ X G N_enumerate
  n_int:=QaQ X G N_int
  n_isinstance:=QaQ X G N_isinstance
  n_len:=QaQ X G N_len
  n_list:=QaQ X G N_list
  n_max:=QaQ X G N_max
  n_min:=QaQ X G N_min
  n_range:=QaQ X G N_range
  n_sorted:=QaQ X G N_sorted
  n_str:=QaQ X G N_str
  n_sum:=QaQ X G N_sum
  n_tuple:=QaQ X G N_tuple
  n_zip:=QaQ X G N_zip
 }
 exact ⟨_,fun s v=>.of_eq rfl,fun base _ _=>ZsQ (Zs9 T) Zpl⟩
theorem walk {l:PySem.W.OpenLaw} {q:Qav} {loose:List Str} {XP:(Str->Option Value)->Heap->Prop} {YP:World->Heap->Prop} {d:DefRec} {K:Params->Qab} (hn:l.most=some 63) (hdf:d.params.defaults=[])
  (hY:∀ (w:World) (h:Heap),YP w h->(K w.params).In h)
  (F:∀ (w:World) (mg:Str->Option Value) (fa:Addr) (h:Heap),(K w.params).In h->h.Ns Qak mg->mg d.name=some (.ref fa) ->
   ∃ fd:QaH,(∀ (s:Shared) (u:Value),BindsTo s fd ⟨[u],[]⟩ [("_law_script",u)])/\∀ base:Heap,(K w.params).In base->base.Ns Qak mg->FnOk l.prog w (K w.params) mg base CX0 10 fa fd ["_law_script"] (Zjt (K w.params))) :
  PySem.W.WalkO q loose XP YP l.row.toRowW d [] (fun f vs=>PySem.call f vs) :=
 L2.walk_of (n:=63) (k:=10) (x:="_law_script") (CX:=fun _=>CX0) (sp:=fun w=>Zjt (K w.params)) hn (by decide) hdf ⟨rfl,by decide,by decide⟩ hY F (fun _ _ a ns hl _ hS=>⟨a,ns,rfl,hS,hl,fun _=>rfl⟩) fun _ _ _ _ _ z=>z
end K33
def PySem.W.Fast.tw3313032281345443347 : Unit := ()
def PySem.W.Fast.tw11878253505746758006 : Unit := ()
def PySem.W.Fast.tw3834508965706912071 : Unit := ()
def PySem.W.Fast.tw7480234629612993566 : Unit := ()
def PySem.W.Fast.tw13864409405637507844 : Unit := ()
def PySem.W.Fast.tw16571034194477493997 : Unit := ()
def PySem.W.Fast.tw2543087618133453826 : Unit := ()
def PySem.W.Fast.tw8314465381310994799 : Unit := ()
def PySem.W.Fast.tw9039186077926701867 : Unit := ()
def PySem.W.Fast.tw1756130539531286387 : Unit := ()
def PySem.W.Fast.tw496306086215322695 : Unit := ()
def PySem.W.Fast.tw16800119967167801855 : Unit := ()
def PySem.W.Fast.tw1633990753992445781 : Unit := ()
def PySem.W.Fast.tw14546125578094429619 : Unit := ()
def PySem.W.Fast.tw9943321209458089105 : Unit := ()
def PySem.W.Fast.tw11373730162139210657 : Unit := ()
def PySem.W.Fast.tw14625545621144948390 : Unit := ()
open PySem PySem.W PyProof.Rows
set_option maxRecDepth 100000 in
set_option maxHeartbeats 0 in
theorem PySem.Challenge.cw_cubebook_k33_rolled_holds : PySem.Challenge.rw_cubebook_k33_rolled.Holds := by
 w_on;o_law;k_head;(case hw=>w_witness2)
 k_fill
 refine K33.walk (l:=PySem.Challenge.rw_cubebook_k33_rolled) rfl rfl (fun w h Y=>PySem.W.kIn_of Y) ?F
 case F =>
  intro w mg fa h KX G hmg
  refine' K33.all_mk KX G hmg ?A0 ?L0 ?C0 ?k0 ?A1 ?L1 ?C1 ?k1 ?A2 ?L2 ?C2 ?k2 ?A3 ?L3 ?C3 ?k3 ?A4 ?L4 ?C4 ?k4 ?A5 ?L5 ?C5 ?k5 ?A6 ?L6 ?C6 ?k6 ?A7 ?L7 ?C7 ?k7 ?A8 ?L8 ?C8 ?k8 ?A9 ?L9 ?C9 ?k9 ?A10 ?L10 ?C10 ?k10 ?A11 ?L11 ?C11 ?k11 ?A12 ?L12 ?C12 ?k12 ?A13 ?L13 ?C13 ?k13 ?A14 ?L14 ?C14 ?k14 ?A15 ?L15 ?C15 ?k15 ?A16 ?L16 ?C16 ?k16 ?A17 ?L17 ?C17 ?k17 ?A18 ?L18 ?C18 ?k18 ?A19 ?L19 ?C19 ?k19 ?A20 ?L20 ?C20 ?k20 ?A21 ?L21 ?C21 ?k21 ?A22 ?L22 ?C22 ?k22 ?A23 ?L23 ?C23 ?k23 ?A24 ?L24 ?C24 ?k24 ?A25 ?L25 ?C25 ?k25 ?A26 ?L26 ?C26 ?k26 ?A27 ?L27 ?C27 ?k27 ?A28 ?L28 ?C28 ?k28 ?A29 ?L29 ?C29 ?k29 ?N_ValueError ?N_all ?N_any ?N_bool ?N_dict ?N_enumerate ?N_int ?N_isinstance ?N_len ?N_list ?N_max ?N_min ?N_range ?N_sorted ?N_str ?N_sum ?N_tuple ?N_zip ?A_CubeError ?A_NoGrain ?A_TooMuch ?Y_CubeError ?Z_CubeError ?Y_NoGrain ?Z_NoGrain ?Y_TooMuch ?Z_TooMuch ?B_CubeError ?L_NoGrain ?E_NoGrain ?f0_NoGrain ?f1_NoGrain ?f2_NoGrain ?f3_NoGrain ?f4_NoGrain ?f5_NoGrain ?f6_NoGrain ?S_NoGrain_CubeError ?S_NoGrain_NoGrain ?S_NoGrain_TooMuch ?D_NoGrain_TooMuch ?V_NoGrain
  (case A0=>k_is)
  (case L0=>k_is)
  (case C0=>k_is)
  (case k0=>k_is)
  (case A1=>k_is)
  (case L1=>k_is)
  (case C1=>k_is)
  (case k1=>k_is)
  (case A2=>k_is)
  (case L2=>k_is)
  (case C2=>k_is)
  (case k2=>k_is)
  (case A3=>k_is)
  (case L3=>k_is)
  (case C3=>k_is)
  (case k3=>k_is)
  (case A4=>k_is)
  (case L4=>k_is)
  (case C4=>k_is)
  (case k4=>k_is)
  (case A5=>k_is)
  (case L5=>k_is)
  (case C5=>k_is)
  (case k5=>k_is)
  (case A6=>k_is)
  (case L6=>k_is)
  (case C6=>k_is)
  (case k6=>k_is)
  (case A7=>k_is)
  (case L7=>k_is)
  (case C7=>k_is)
  (case k7=>k_is)
  (case A8=>k_is)
  (case L8=>k_is)
  (case C8=>k_is)
  (case k8=>k_is)
  (case A9=>k_is)
  (case L9=>k_is)
  (case C9=>k_is)
  (case k9=>k_is)
  (case A10=>k_is)
  (case L10=>k_is)
  (case C10=>k_is)
  (case k10=>k_is)
  (case A11=>k_is)
  (case L11=>k_is)
  (case C11=>k_is)
  (case k11=>k_is)
  (case A12=>k_is)
  (case L12=>k_is)
  (case C12=>k_is)
  (case k12=>k_is)
  (case A13=>k_is)
  (case L13=>k_is)
  (case C13=>k_is)
  (case k13=>k_is)
  (case A14=>k_is)
  (case L14=>k_is)
  (case C14=>k_is)
  (case k14=>k_is)
  (case A15=>k_is)
  (case L15=>k_is)
  (case C15=>k_is)
  (case k15=>k_is)
  (case A16=>k_is)
  (case L16=>k_is)
  (case C16=>k_is)
  (case k16=>k_is)
  (case A17=>k_is)
  (case L17=>k_is)
  (case C17=>k_is)
  (case k17=>k_is)
  (case A18=>k_is)
  (case L18=>k_is)
  (case C18=>k_is)
  (case k18=>k_is)
  (case A19=>k_is)
  (case L19=>k_is)
  (case C19=>k_is)
  (case k19=>k_is)
  (case A20=>k_is)
  (case L20=>k_is)
  (case C20=>k_is)
  (case k20=>k_is)
  (case A21=>k_is)
  (case L21=>k_is)
  (case C21=>k_is)
  (case k21=>k_is)
  (case A22=>k_is)
  (case L22=>k_is)
  (case C22=>k_is)
  (case k22=>k_is)
  (case A23=>k_is)
  (case L23=>k_is)
  (case C23=>k_is)
  (case k23=>k_is)
  (case A24=>k_is)
  (case L24=>k_is)
  (case C24=>k_is)
  (case k24=>k_is)
  (case A25=>k_is)
  (case L25=>k_is)
  (case C25=>k_is)
  (case k25=>k_is)
  (case A26=>k_is)
  (case L26=>k_is)
  (case C26=>k_is)
  (case k26=>k_is)
  (case A27=>k_is)
  (case L27=>k_is)
  (case C27=>k_is)
  (case k27=>k_is)
  (case A28=>k_is)
  (case L28=>k_is)
  (case C28=>k_is)
  (case k28=>k_is)
  (case A29=>k_is)
  (case L29=>k_is)
  (case C29=>k_is)
  (case k29=>k_is)
  (case N_ValueError=>k_is)
  (case N_all=>k_is)
  (case N_any=>k_is)
  (case N_bool=>k_is)
  (case N_dict=>k_is)
  (case N_enumerate=>k_is)
  (case N_int=>k_is)
  (case N_isinstance=>k_is)
  (case N_len=>k_is)
  (case N_list=>k_is)
  (case N_max=>k_is)
  (case N_min=>k_is)
  (case N_range=>k_is)
  (case N_sorted=>k_is)
  (case N_str=>k_is)
  (case N_sum=>k_is)
  (case N_tuple=>k_is)
  (case N_zip=>k_is)
  (case A_CubeError=>k_is)
  (case A_NoGrain=>k_is)
  (case A_TooMuch=>k_is)
  (case Y_CubeError=>k_is)
  (case Z_CubeError=>k_is)
  (case Y_NoGrain=>k_is)
  (case Z_NoGrain=>k_is)
  (case Y_TooMuch=>k_is)
  (case Z_TooMuch=>k_is)
  (case B_CubeError=>k_is)
  (case L_NoGrain=>k_is)
  (case E_NoGrain=>k_exc)
  (case f0_NoGrain=>k_is)
  (case f1_NoGrain=>k_is)
  (case f2_NoGrain=>k_is)
  (case f3_NoGrain=>k_is)
  (case f4_NoGrain=>k_is)
  (case f5_NoGrain=>k_is)
  (case f6_NoGrain=>k_is)
  (case S_NoGrain_CubeError=>k_is)
  (case S_NoGrain_NoGrain=>k_is)
  (case S_NoGrain_TooMuch=>k_is)
  (case D_NoGrain_TooMuch=>rfl)
  (case V_NoGrain=>k_is)
#print axioms PySem.Challenge.cw_cubebook_k33_rolled_holds
